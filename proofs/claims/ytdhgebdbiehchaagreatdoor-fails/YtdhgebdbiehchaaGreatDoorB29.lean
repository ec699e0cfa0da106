/- On the way: LawReads, AsksFour. -/
import Derived.Test.YtdhgebdbiehchaaGreatDoorB08
import Derived.Test.YtdhgebdbiehchaaGreatDoorB26
import Derived.Test.YtdhgebdbiehchaaGreatDoorB28
import Derived.Test.YtdhgebdbiehchaaGreatDoorB13
import Derived.Test.YtdhgebdbiehchaaGreatDoorB12
namespace Go.Proofs.YtdhgebdbiehchaaGreatDoor
open Go.RowKit
set_option linter.unusedSimpArgs false
set_option linter.unusedVariables false
set_option maxRecDepth 100000
set_option maxHeartbeats 1600000
theorem refLook_any (log ix key : ByteArray) (w : World) (hlog : log.size <= 140737488351232) (hix : ix.size <= 140737488351232) (hkey : key.size <= 140737488351232) :
  Calls Tryz.prog 116 #[.string log,.string ix,.string key] w fun e w' => e = .returned (ansV (lookS log.data.toList ix.data.toList key.data.toList)) /\ Below w.heap.size w w' := by
 by_cases he : beginsE log.data.toList ix.data.toList = 0
 ·exact refLook_ok log ix key w hlog hix hkey he
 ·exact refLook_err log ix key w hlog hix he
theorem indexV_parts (r : Option (List UInt8)) : ∃ (s : List UInt8) (e : Int),indexV r = .tuple #[.string (S s),.int .i64 e] /\ ∀ l,r = some l -> s = l := by
 cases r with
 | none => exact ⟨[],3,rfl,fun l h => by cases h⟩
 | some l => exact ⟨l,0,rfl,fun l' h => by cases h; rfl⟩
theorem indexS_short {log l : List UInt8} (h : indexS log = some l) : l.length <= 60000 := by
 unfold indexS at h
 split at h
 ·cases h
 split at h
 ·cases h
 split at h
 ·cases h
 split at h
 ·cases h
 rename_i h4
 have h := Option.some.inj h
 subst h
 unfold indexB
 have := sizeL_bound (n := (liveL (readL log (hdBlk log) 14).1).length) (by omega)
 rw [List.length_append,sealL_length,sealL_length,frontB_length,tabB_length,show (tableOf (hdSeed log) (hdBits log) (liveL (readL log (hdBlk log) 14).1)).length = sizeL (liveL (readL log (hdBlk log) 14).1).length from fillL_length _ _]
 omega
theorem reads_index (o : OpV) (w : World) (hk : o.kind = 2) (hz : o.s.size <= 140737488351232) (hH : HalvesAt w) :
  Calls Tryz.prog 63 #[o.val] w fun e w' => e = .returned (.bool true) /\ Below w.heap.size w w' := by
 obtain ⟨kind,at',x,y,s,t,u,c0,c1,c2⟩ := o
 dsimp only at hk hz
 subst hk
 have HP : Hid (∀ wx,HalvesAt wx -> _) := fun wx hx => progIndex_any s wx hz hx
 have HR : Hid (∀ wx,_) := fun wx => refIndex_any s wx hz
 have HH : Hid (HalvesAt w) := hH
 obtain ⟨r,e0,hr,_⟩ := indexV_parts (indexS s.data.toList)
 rw [hr] at HP HR
 clear hH hr
 unfold OpV.val
 dsimp only
 go_enter Tryz.func63,Tryz.ntmps63
 go_wp2_with fail
 refine Calls.mono (HP.out _ (HH.out.below ((Below.refl _ _).alloc (Nat.le_refl _) _) HH.out.1)) ?_
 rintro e w1 ⟨rfl,hb1⟩
 have hz1 : w.heap.size < w1.heap.size := by have := hb1.size; simp at this; omega
 have d4 : w1.cell? ⟨w.heap.size,4,none⟩ = some (.string s) := by rw [hb1.cell (p := ⟨w.heap.size,4,none⟩) (by simp)]; simp
 clear HP
 go_wp2_with fail
 refine Calls.mono (HR.out _) ?_
 rintro e w2 ⟨rfl,hb2⟩
 clear HR
 go_wp2_with (first | (go_at_call 114; refine (num_any _ _).mono ?_; rintro e w' ⟨rfl,rfl⟩))
 go_ret
 exact ⟨by simp,(((Below.refl _ _).alloc (Nat.le_refl _) _).trans (hb1.mono (by simp))).trans (hb2.mono (by omega))⟩
theorem reads_look (o : OpV) (w : World) (hk : o.kind = 3) (hs : o.s.size <= 140737488351232) (ht : o.t.size <= 140737488351232) (hu : o.u.size <= 140737488351232) (hH : HalvesAt w) :
  Calls Tryz.prog 63 #[o.val] w fun e w' => e = .returned (.bool true) /\ Below w.heap.size w w' := by
 obtain ⟨kind,at',x,y,s,t,u,c0,c1,c2⟩ := o
 dsimp only at hk hs ht hu
 subst hk
 have HP : Hid (∀ wx,HalvesAt wx -> _) := fun wx hx => progLook_any s t u wx hs ht hu hx
 have HR : Hid (∀ wx,_) := fun wx => refLook_any s t u wx hs ht hu
 have HH : Hid (HalvesAt w) := hH
 generalize lookS s.data.toList t.data.toList u.data.toList = a at *
 obtain ⟨av,an,ae⟩ := a
 unfold ansV at HP HR
 dsimp only at HP HR
 clear hH
 unfold OpV.val
 dsimp only
 go_enter Tryz.func63,Tryz.ntmps63
 go_wp2_with fail
 refine Calls.mono (HP.out _ (HH.out.below ((Below.refl _ _).alloc (Nat.le_refl _) _) HH.out.1)) ?_
 rintro e w1 ⟨rfl,hb1⟩
 have hz1 : w.heap.size < w1.heap.size := by have := hb1.size; simp at this; omega
 have d4 : w1.cell? ⟨w.heap.size,4,none⟩ = some (.string s) := by rw [hb1.cell (p := ⟨w.heap.size,4,none⟩) (by simp)]; simp
 have d6 : w1.cell? ⟨w.heap.size,6,none⟩ = some (.string u) := by rw [hb1.cell (p := ⟨w.heap.size,6,none⟩) (by simp)]; simp
 clear HP
 go_wp2_with fail
 refine Calls.mono (HR.out _) ?_
 rintro e w2 ⟨rfl,hb2⟩
 clear HR
 go_wp2_with (first | (go_at_call 114; refine (num_any _ _).mono ?_; rintro e w' ⟨rfl,rfl⟩))
 go_ret
 exact ⟨by simp,(((Below.refl _ _).alloc (Nat.le_refl _) _).trans (hb1.mono (by simp))).trans (hb2.mono (by omega))⟩
theorem reads_self (o : OpV) (w : World) (hk : o.kind = 4) (hs : o.s.size <= 140737488351232) (hu : o.u.size <= 140737488351232) (hH : HalvesAt w) :
  Calls Tryz.prog 63 #[o.val] w fun e w' => e = .returned (.bool true) /\ Below w.heap.size w w' := by
 obtain ⟨kind,at',x,y,s,t,u,c0,c1,c2⟩ := o
 dsimp only at hk hs hu
 subst hk
 have HI : Hid (∀ wx,_) := fun wx => refIndex_any s wx hs
 have hsh : ∀ l,indexS s.data.toList = some l -> l.length <= 60000 := fun l h => indexS_short h
 obtain ⟨r,e0,hr,hr2⟩ := indexV_parts (indexS s.data.toList)
 have hrl : (S r).size <= 140737488351232 := by
  rw [S_size]
  cases hq : indexS s.data.toList with
  | none =>
   rw [hq] at hr; unfold indexV at hr; simp at hr; have : r = [] := by have := congrArg (fun b : ByteArray => b.data.toList) hr.1.symm; rw [S_data] at this; exact this
   subst this; simp
  | some l => rw [hr2 l hq]; have := hsh l hq; omega
 rw [hr] at HI
 have HP : Hid (∀ wx,HalvesAt wx -> _) := fun wx hx => progLook_any s (S r) u wx hs hrl hu hx
 have HR : Hid (∀ wx,_) := fun wx => refLook_any s (S r) u wx hs hrl hu
 have HH : Hid (HalvesAt w) := hH
 generalize lookS s.data.toList (S r).data.toList u.data.toList = a at *
 obtain ⟨av,an,ae⟩ := a
 unfold ansV at HP HR
 dsimp only at HP HR
 clear hH hr hr2 hsh
 unfold OpV.val
 dsimp only
 go_enter Tryz.func63,Tryz.ntmps63
 go_wp2_with fail
 refine Calls.mono (HI.out _) ?_
 rintro e w0 ⟨rfl,hb0⟩
 have hz0 : w.heap.size < w0.heap.size := by have := hb0.size; simp at this; omega
 have g4 : w0.cell? ⟨w.heap.size,4,none⟩ = some (.string s) := by rw [hb0.cell (p := ⟨w.heap.size,4,none⟩) (by simp)]; simp
 have g6 : w0.cell? ⟨w.heap.size,6,none⟩ = some (.string u) := by rw [hb0.cell (p := ⟨w.heap.size,6,none⟩) (by simp)]; simp
 have hB0 : Below w.heap.size w w0 := ((Below.refl _ _).alloc (Nat.le_refl _) _).trans (hb0.mono (by simp))
 clear HI hb0
 go_wp2_with fail
 refine Calls.mono (HP.out _ (HH.out.below hB0 HH.out.1)) ?_
 rintro e w1 ⟨rfl,hb1⟩
 have hz1 : w.heap.size < w1.heap.size := by have := hb1.size; omega
 have d4 : w1.cell? ⟨w.heap.size,4,none⟩ = some (.string s) := (hb1.cell (p := ⟨w.heap.size,4,none⟩) hz0).trans g4
 have d6 : w1.cell? ⟨w.heap.size,6,none⟩ = some (.string u) := (hb1.cell (p := ⟨w.heap.size,6,none⟩) hz0).trans g6
 clear HP g4 g6
 go_wp2_with fail
 refine Calls.mono (HR.out _) ?_
 rintro e w2 ⟨rfl,hb2⟩
 clear HR
 go_wp2_with (first | (go_at_call 114; refine (num_any _ _).mono ?_; rintro e w' ⟨rfl,rfl⟩))
 go_ret
 exact ⟨by simp,(hB0.trans (hb1.mono (by omega))).trans (hb2.mono (by omega))⟩
theorem asks_four : Asks 4 := fun o h1 h2 hz w hH => by
 rcases (show o.kind = 1 \/ o.kind = 2 \/ o.kind = 3 \/ o.kind = 4 by omega) with hk | hk | hk | hk
 ·exact reads_number o w hk
 ·exact reads_index o w hk hz.1 hH
 ·exact reads_look o w hk hz.1 hz.2.1 hz.2.2.1 hH
 ·exact reads_self o w hk hz.1 hz.2.2.1 hH
end Go.Proofs.YtdhgebdbiehchaaGreatDoor
