/- On the way: LwAll, LwBuilds, LwFails, LwReads. -/
import Derived.Test.YtdhgebdbiehchaaGreatDoorB42
import Derived.Test.YtdhgebdbiehchaaGreatDoorB45
import Derived.Test.YtdhgebdbiehchaaGreatDoorB43
import Derived.Test.YtdhgebdbiehchaaGreatDoorB46
import Derived.Test.YtdhgebdbiehchaaGreatDoorB29
namespace Go.Proofs.YtdhgebdbiehchaaGreatDoor
open Go.RowKit Go.Maps
set_option linter.unusedSimpArgs false
set_option linter.unusedVariables false
set_option maxRecDepth 100000
set_option maxHeartbeats 3200000
theorem all_len (d : Dk) (called : Bool) : (d.all called).1.length <= 2000 := by
 unfold Dk.all
 split
 ·simp
 ·split
  ·simp
  ·split
   ·rename_i l i _ hs
    split
    ·simp
    ·unfold saidE at hs
     split at hs
     ·rename_i h1; exact absurd hs h1
     ·split at hs
      ·rename_i h2; exact indexS_live h2
      ·cases hs
   ·simp
theorem cellsI_get {l : List Sd} {i : Nat} (h : i < l.length) : (cellsI l)[i * 2]? = some (.string (S l[i].key)) /\ (cellsI l)[i * 2 + 1]? = some (.string (S l[i].val)) := by
 induction l generalizing i with
 | nil => simp at h
 | cons x l ih =>
  have e0 : cellsI (x :: l) = [.string (S x.key),.string (S x.val)] ++ cellsI l := by simp [cellsI]
  cases i with
  | zero => rw [e0]; simp
  | succ i =>
   have := ih (i := i) (by simpa using h)
   rw [e0]
   have e1 : ∀ j,([Value.string (S x.key),.string (S x.val)] ++ cellsI l)[(i + 1) * 2 + j]? = (cellsI l)[i * 2 + j]? := fun j => by
    rw [List.getElem?_append_right (by simp; omega)]
    congr 1
    simp; omega
   exact ⟨(e1 0).trans this.1,(e1 1).trans this.2⟩
def calledB (how : Int) : Bool := decide (how ≠ 0) && decide (how ≠ 1)
theorem left_owned {E : Sent} {n bw nd c : Nat} {Fr : Nat -> Prop} {w w2 w3 : World} {κ : Nat -> Nat} {ds : List (Dk × Dk)} {P : LawP} {ls : List Mark} {v : Value} {len : Nat} {xs : List Value}
  (h1 : LawAt w κ n bw ds P ls) (h2 : Env0 n w E) (h3 : ∀ d ∈ ds,d.1 = d.2 /\ DkOk d.1) (h5 : ds.length = nd) (h6 : ls.length <= 4 * c /\ 0 <= P.next /\ P.next <= (c : Int)) (h7 : ∀ k,Fr k -> κ k = 1 /\ k < w.heap.size)
  (hb : Below w.heap.size w w2) (hv : w2.ownsRow w.heap.size 54 2 v len xs)
  (ho : (∃ κ' P' ls',LawAt w3 κ' n bw ds P' ls' /\ P'.pv = P.pv /\ P'.ps = P.ps /\ P'.next = P.next + 1 /\ ls'.length = ls.length + 4 /\ (∀ k,κ k = 1 -> v.ownBlock ≠ some k -> k < w2.heap.size -> κ' k = 1)) /\ Chg (fun k => k = bw \/ v.ownBlock = some k \/ P.isv.ownBlock = some k \/ P.imv.ownBlock = some k) w2 w3) : Left E n bw true nd c Fr ((13 : Int) = 10) P.pv w w3 := by
 obtain ⟨⟨κ',P',ls',a1,a2,a3,a4,a5,a6⟩,a7⟩ := ho
 have vnew : ∀ k,v.ownBlock = some k -> w.heap.size <= k := own_ge hv
 have hz := hb.size
 have hmv : Chg (Mv n Fr) w w3 := (Chg.of_below hb).trans (a7.mono (fun k hk e => by
  have col : ∀ k,Rg κ n w 0 k -> Mv n Fr k := fun k hr => ⟨hr.2.1,fun hf => by have := (h7 k hf).1; have := hr.1; omega⟩
  rcases e with e | e | e | e
  ·rw [e]; exact .inl (col _ h1.col)
  ·exact .inr ⟨vnew k e,hk⟩
  ·exact .inl (col _ (h1.marks.cis k e))
  ·exact .inl (col _ (h1.marks.cim k e))))
 refine ⟨⟨c + 1,Nat.le_refl _,fun e => absurd e (by decide),κ',ds,P',ls',a1,h2.chg hmv (fun k hk => hk.1),h3,fun e => (by cases e),h5,⟨by omega,by rw [a4]; omega,by rw [a4]; push_cast; omega⟩,fun k hk => ?_⟩,hmv,?_,fun g hg => ?_⟩
 ·obtain ⟨b1,b2⟩ := h7 k hk
  refine ⟨a6 k b1 (fun e => by have := vnew k e; omega) (by omega),?_⟩
  have := hmv.size
  omega
 ·have c1 : w3.cell? ⟨bw,0,none⟩ = some P'.pv := a1.box.cell (j := 0) rfl
  have c2 : w.cell? ⟨bw,0,none⟩ = some P.pv := h1.box.cell (j := 0) rfl
  rw [c1,c2,a2]
 ·have hgl := own_lt h1.row g hg
  refine (a7.keep g (by omega) ?_).trans (hb.block g hgl)
  rintro (e | e | e | e)
  ·exact own_bx h1.box h1.row (by decide) (by rw [<- e]; exact hg)
  ·have := vnew g e; omega
  ·exact own_rw h1.row h1.marks.is (by decide) g hg e
  ·exact own_rw h1.row h1.marks.im (by decide) g hg e
theorem all_walk (bw pb x y : Nat) (how : Int) (Q : World -> Prop) (R : List Sd) (code : Int) (w : World) (hR : R.length <= 2000)
  (hpc : ∀ w1 : World,Below w.heap.size w w1 -> w1.cell? ⟨pb,0,none⟩ = some (.pointer (some ⟨x,0,none⟩)) /\ w1.cell? ⟨pb,1,none⟩ = some (.pointer (some ⟨y,0,none⟩)))
  (HX : ∀ (w1 : World) (sp : Value),Below w.heap.size w w1 -> StopIs w1 sp (calledB how) -> Calls Tryz.prog 48 #[.pointer (some ⟨x,0,none⟩),sp] w1 fun e w' => ∃ v,e = .returned (.tuple #[v,.int .i64 code]) /\ w'.ownsRow w1.heap.size 54 2 v R.length (cellsI R) /\ Below w1.heap.size w1 w')
  (HY : ∀ w1 : World,Below w.heap.size w w1 -> Calls Tryz.prog 203 #[.pointer (some ⟨y,0,none⟩),.bool (calledB how)] w1 fun e w' => ∃ v,e = .returned (.tuple #[v,.int .i64 code]) /\ w'.ownsRow w1.heap.size 54 2 v R.length (cellsI R) /\ Below w1.heap.size w1 w')
  (HO : ∀ (w2 : World) (v : Value),Below w.heap.size w w2 -> w2.ownsRow w.heap.size 54 2 v R.length (cellsI R) -> Calls Tryz.prog 204 #[.pointer (some ⟨bw,0,none⟩),v] w2 fun e w' => e = .returned (.tuple #[]) /\ Q w') :
  Calls Tryz.prog 180 #[.pointer (some ⟨bw,0,none⟩),.pointer (some ⟨pb,0,none⟩),.int .i64 how] w fun e w' => e = .returned (.bool true) /\ Q w' := by
 obtain ⟨p0,p1⟩ := hpc w (Below.refl _ _)
 have HPC : Hid (∀ w1 : World,Below w.heap.size w w1 -> w1.cell? ⟨pb,0,none⟩ = some (.pointer (some ⟨x,0,none⟩)) /\ w1.cell? ⟨pb,1,none⟩ = some (.pointer (some ⟨y,0,none⟩))) := hpc
 have HXh : Hid (∀ (w1 : World) (sp : Value),Below w.heap.size w w1 -> StopIs w1 sp (calledB how) -> _) := HX
 have HYh : Hid (∀ w1 : World,Below w.heap.size w w1 -> _) := HY
 have HOh : Hid (∀ (w2 : World) (v : Value),Below w.heap.size w w2 -> w2.ownsRow w.heap.size 54 2 v R.length (cellsI R) -> _) := HO
 clear hpc HX HY HO
 rcases (show how = 0 \/ how = 1 \/ how = 2 \/ (how ≠ 0 /\ how ≠ 1 /\ how ≠ 2) by omega) with rfl | rfl | rfl | ⟨h0,h1,h2⟩
 ·rw [show calledB 0 = false by decide] at HXh HYh
  go_enter Tryz.func180,Tryz.ntmps180
  go_wp2_with (first | (go_at_call 48; refine (HXh.out _ _ (Below.refl w.heap.size w) (.inl ⟨rfl,rfl⟩)).mono ?_; rintro e w1 ⟨v,rfl,ho1,hb1⟩; obtain ⟨a1,cp1,rfl⟩ := own_len ho1; have hbw1 : Below w.heap.size w w1 := (Below.refl w.heap.size w).trans (hb1.mono (Below.refl w.heap.size w).size); have HO1 : Hid (w1.ownsRow w.heap.size 54 2 (.slice a1 R.length cp1) R.length (cellsI R)) := own_lower ho1 (Below.refl w.heap.size w).size; obtain ⟨k0,k1⟩ := HPC.out w1 hbw1; have HB1 : Hid (Below w.heap.size w w1) := hbw1; clear ho1 hb1 hbw1) | (go_at_call 203; refine (HYh.out w1 HB1.out).mono ?_; rintro e w2 ⟨v2,rfl,ho2,hb2⟩; obtain ⟨a2,cp2,rfl⟩ := own_len ho2; have HO12 : Hid (w2.ownsRow w.heap.size 54 2 (.slice a1 R.length cp1) R.length (cellsI R)) := own_below HO1.out hb2 (Nat.le_refl _); have HO22 : Hid (w2.ownsRow 0 54 2 (.slice a2 R.length cp2) R.length (cellsI R)) := own_lower ho2 (Nat.zero_le _); have HB2 : Hid (Below w.heap.size w w2) := HB1.out.trans (hb2.mono HB1.out.size); clear ho2 hb2))
  clear p0 p1
  go_loopw [12,13] (fun ok i wr => ∃ k : Nat,k <= R.length /\ ok = .bool true /\ i = .int .i64 k /\ Below w2.heap.size w2 wr) (fun _ i _ => R.length - (intOf i).toNat)
  case atStart => exact ⟨0,by omega,by simp,rfl,Below.refl _ _⟩
  case round =>
   obtain ⟨k,hk,rfl,rfl,hb⟩ := hrel
   have HB : Hid (Below w2.heap.size w2 wr) := hb
   by_cases hlt : k < R.length
   ·obtain ⟨g1,cap1,hv1,_,hg1,hc1⟩ := own_cellsN HO12.out (by omega)
    obtain ⟨g2,cap2,hv2,_,hg2,hc2⟩ := own_cellsN HO22.out (by omega)
    have ea : a1 = some ⟨g1,0,none⟩ := by injection hv1
    have eb : a2 = some ⟨g2,0,none⟩ := by injection hv2
    subst ea
    subst eb
    obtain ⟨b0,b1⟩ := cellsI_get hlt
    have q0 := (hb.cell (p := ⟨g1,k * 2,none⟩) hg1).trans ((hc1 (k * 2) (by omega)).trans b0)
    have q1 := (hb.cell (p := ⟨g1,k * 2 + 1,none⟩) hg1).trans ((hc1 (k * 2 + 1) (by omega)).trans b1)
    have q2 := (hb.cell (p := ⟨g2,k * 2,none⟩) hg2).trans ((hc2 (k * 2) (by omega)).trans b0)
    have q3 := (hb.cell (p := ⟨g2,k * 2 + 1,none⟩) hg2).trans ((hc2 (k * 2 + 1) (by omega)).trans b1)
    clear hc1 hc2 b0 b1 hv1 hv2 hb
    generalize S R[k].key = sk at *
    generalize S R[k].val = sv at *
    go_wp2_with fail
    go_region
    all_goals
     go_wp2
     go_roundw
     case rel => exact ⟨k + 1,by omega,by simp,by go_num,HB.out.drew⟩
     case measure => simp [intOf]; omega
   ·have HOX := HOh.out wr (.slice a1 R.length cp1) (HB2.out.trans (hb.mono HB2.out.size)) (own_below HO12.out hb (Nat.le_refl _))
    clear hb
    go_wp2_with (first | (go_at_call 204; refine HOX.mono ?_; rintro e w4 ⟨rfl,hq⟩; have HQ : Hid (Q w4) := hq; clear hq) | (go_at_call 114; refine (num_any _ _).mono ?_; rintro e w4 ⟨rfl,rfl⟩))
    go_ret
    exact ⟨by simp,HQ.out⟩
 ·rw [show calledB 1 = false by decide] at HXh HYh
  go_enter Tryz.func180,Tryz.ntmps180
  go_wp2_with (first | (go_at_call 201; refine (newStop_any w).mono ?_; rintro e ws ⟨rfl,hst,hbs⟩; obtain ⟨s0,s1⟩ := HPC.out ws hbs; have HST : Hid (StopAt ws (w.heap.size + 1) w.heap.size false) := hst; have HBS : Hid (Below w.heap.size w ws) := hbs; clear hst hbs) | (go_at_call 48; refine (HXh.out _ _ HBS.out (.inr ⟨_,_,rfl,HST.out⟩)).mono ?_; rintro e w1 ⟨v,rfl,ho1,hb1⟩; obtain ⟨a1,cp1,rfl⟩ := own_len ho1; have hbw1 : Below w.heap.size w w1 := HBS.out.trans (hb1.mono HBS.out.size); have HO1 : Hid (w1.ownsRow w.heap.size 54 2 (.slice a1 R.length cp1) R.length (cellsI R)) := own_lower ho1 HBS.out.size; obtain ⟨k0,k1⟩ := HPC.out w1 hbw1; have HB1 : Hid (Below w.heap.size w w1) := hbw1; clear ho1 hb1 hbw1) | (go_at_call 203; refine (HYh.out w1 HB1.out).mono ?_; rintro e w2 ⟨v2,rfl,ho2,hb2⟩; obtain ⟨a2,cp2,rfl⟩ := own_len ho2; have HO12 : Hid (w2.ownsRow w.heap.size 54 2 (.slice a1 R.length cp1) R.length (cellsI R)) := own_below HO1.out hb2 (Nat.le_refl _); have HO22 : Hid (w2.ownsRow 0 54 2 (.slice a2 R.length cp2) R.length (cellsI R)) := own_lower ho2 (Nat.zero_le _); have HB2 : Hid (Below w.heap.size w w2) := HB1.out.trans (hb2.mono HB1.out.size); clear ho2 hb2))
  clear p0 p1
  go_loopw [12,13] (fun ok i wr => ∃ k : Nat,k <= R.length /\ ok = .bool true /\ i = .int .i64 k /\ Below w2.heap.size w2 wr) (fun _ i _ => R.length - (intOf i).toNat)
  case atStart => exact ⟨0,by omega,by simp,rfl,Below.refl _ _⟩
  case round =>
   obtain ⟨k,hk,rfl,rfl,hb⟩ := hrel
   have HB : Hid (Below w2.heap.size w2 wr) := hb
   by_cases hlt : k < R.length
   ·obtain ⟨g1,cap1,hv1,_,hg1,hc1⟩ := own_cellsN HO12.out (by omega)
    obtain ⟨g2,cap2,hv2,_,hg2,hc2⟩ := own_cellsN HO22.out (by omega)
    have ea : a1 = some ⟨g1,0,none⟩ := by injection hv1
    have eb : a2 = some ⟨g2,0,none⟩ := by injection hv2
    subst ea
    subst eb
    obtain ⟨b0,b1⟩ := cellsI_get hlt
    have q0 := (hb.cell (p := ⟨g1,k * 2,none⟩) hg1).trans ((hc1 (k * 2) (by omega)).trans b0)
    have q1 := (hb.cell (p := ⟨g1,k * 2 + 1,none⟩) hg1).trans ((hc1 (k * 2 + 1) (by omega)).trans b1)
    have q2 := (hb.cell (p := ⟨g2,k * 2,none⟩) hg2).trans ((hc2 (k * 2) (by omega)).trans b0)
    have q3 := (hb.cell (p := ⟨g2,k * 2 + 1,none⟩) hg2).trans ((hc2 (k * 2 + 1) (by omega)).trans b1)
    clear hc1 hc2 b0 b1 hv1 hv2 hb
    generalize S R[k].key = sk at *
    generalize S R[k].val = sv at *
    go_wp2_with fail
    go_region
    all_goals
     go_wp2
     go_roundw
     case rel => exact ⟨k + 1,by omega,by simp,by go_num,HB.out.drew⟩
     case measure => simp [intOf]; omega
   ·have HOX := HOh.out wr (.slice a1 R.length cp1) (HB2.out.trans (hb.mono HB2.out.size)) (own_below HO12.out hb (Nat.le_refl _))
    clear hb
    go_wp2_with (first | (go_at_call 204; refine HOX.mono ?_; rintro e w4 ⟨rfl,hq⟩; have HQ : Hid (Q w4) := hq; clear hq) | (go_at_call 114; refine (num_any _ _).mono ?_; rintro e w4 ⟨rfl,rfl⟩))
    go_ret
    exact ⟨by simp,HQ.out⟩
 ·rw [show calledB 2 = true by decide] at HXh HYh
  go_enter Tryz.func180,Tryz.ntmps180
  go_wp2_with (first | (go_at_call 201; refine (newStop_any w).mono ?_; rintro e ws ⟨rfl,hst,hbs⟩; obtain ⟨s0,s1⟩ := HPC.out ws hbs; have HST : Hid (StopAt ws (w.heap.size + 1) w.heap.size false) := hst; have HBS : Hid (Below w.heap.size w ws) := hbs; clear hst hbs) | (go_at_call 202; refine (stop_any (w.heap.size + 1) w.heap.size false ws HST.out).mono ?_; rintro e wt ⟨rfl,hst,hcs⟩; have hbs : Below w.heap.size w wt := HBS.out.trans (hcs.below HBS.out.size (fun k hk => by rcases hk with h | h <;> omega)); obtain ⟨s0,s1⟩ := HPC.out wt hbs; have HST2 : Hid (StopAt wt (w.heap.size + 1) w.heap.size true) := hst; have HBS2 : Hid (Below w.heap.size w wt) := hbs; clear hst hbs hcs) | (go_at_call 202; refine (stop_any (w.heap.size + 1) w.heap.size true wt HST2.out).mono ?_; rintro e wu ⟨rfl,hst,hcs⟩; have hbs : Below w.heap.size w wu := HBS2.out.trans (hcs.below HBS2.out.size (fun k hk => by rcases hk with h | h <;> omega)); obtain ⟨s0,s1⟩ := HPC.out wu hbs; have HST3 : Hid (StopAt wu (w.heap.size + 1) w.heap.size true) := hst; have HBS3 : Hid (Below w.heap.size w wu) := hbs; clear hst hbs hcs) | (go_at_call 48; refine (HXh.out _ _ HBS3.out (.inr ⟨_,_,rfl,HST3.out⟩)).mono ?_; rintro e w1 ⟨v,rfl,ho1,hb1⟩; obtain ⟨a1,cp1,rfl⟩ := own_len ho1; have hbw1 : Below w.heap.size w w1 := HBS3.out.trans (hb1.mono HBS3.out.size); have HO1 : Hid (w1.ownsRow w.heap.size 54 2 (.slice a1 R.length cp1) R.length (cellsI R)) := own_lower ho1 HBS3.out.size; obtain ⟨k0,k1⟩ := HPC.out w1 hbw1; have HB1 : Hid (Below w.heap.size w w1) := hbw1; clear ho1 hb1 hbw1) | (go_at_call 203; refine (HYh.out w1 HB1.out).mono ?_; rintro e w2 ⟨v2,rfl,ho2,hb2⟩; obtain ⟨a2,cp2,rfl⟩ := own_len ho2; have HO12 : Hid (w2.ownsRow w.heap.size 54 2 (.slice a1 R.length cp1) R.length (cellsI R)) := own_below HO1.out hb2 (Nat.le_refl _); have HO22 : Hid (w2.ownsRow 0 54 2 (.slice a2 R.length cp2) R.length (cellsI R)) := own_lower ho2 (Nat.zero_le _); have HB2 : Hid (Below w.heap.size w w2) := HB1.out.trans (hb2.mono HB1.out.size); clear ho2 hb2))
  clear p0 p1
  go_loopw [12,13] (fun ok i wr => ∃ k : Nat,k <= R.length /\ ok = .bool true /\ i = .int .i64 k /\ Below w2.heap.size w2 wr) (fun _ i _ => R.length - (intOf i).toNat)
  case atStart => exact ⟨0,by omega,by simp,rfl,Below.refl _ _⟩
  case round =>
   obtain ⟨k,hk,rfl,rfl,hb⟩ := hrel
   have HB : Hid (Below w2.heap.size w2 wr) := hb
   by_cases hlt : k < R.length
   ·obtain ⟨g1,cap1,hv1,_,hg1,hc1⟩ := own_cellsN HO12.out (by omega)
    obtain ⟨g2,cap2,hv2,_,hg2,hc2⟩ := own_cellsN HO22.out (by omega)
    have ea : a1 = some ⟨g1,0,none⟩ := by injection hv1
    have eb : a2 = some ⟨g2,0,none⟩ := by injection hv2
    subst ea
    subst eb
    obtain ⟨b0,b1⟩ := cellsI_get hlt
    have q0 := (hb.cell (p := ⟨g1,k * 2,none⟩) hg1).trans ((hc1 (k * 2) (by omega)).trans b0)
    have q1 := (hb.cell (p := ⟨g1,k * 2 + 1,none⟩) hg1).trans ((hc1 (k * 2 + 1) (by omega)).trans b1)
    have q2 := (hb.cell (p := ⟨g2,k * 2,none⟩) hg2).trans ((hc2 (k * 2) (by omega)).trans b0)
    have q3 := (hb.cell (p := ⟨g2,k * 2 + 1,none⟩) hg2).trans ((hc2 (k * 2 + 1) (by omega)).trans b1)
    clear hc1 hc2 b0 b1 hv1 hv2 hb
    generalize S R[k].key = sk at *
    generalize S R[k].val = sv at *
    go_wp2_with fail
    go_region
    all_goals
     go_wp2
     go_roundw
     case rel => exact ⟨k + 1,by omega,by simp,by go_num,HB.out.drew⟩
     case measure => simp [intOf]; omega
   ·have HOX := HOh.out wr (.slice a1 R.length cp1) (HB2.out.trans (hb.mono HB2.out.size)) (own_below HO12.out hb (Nat.le_refl _))
    clear hb
    go_wp2_with (first | (go_at_call 204; refine HOX.mono ?_; rintro e w4 ⟨rfl,hq⟩; have HQ : Hid (Q w4) := hq; clear hq) | (go_at_call 114; refine (num_any _ _).mono ?_; rintro e w4 ⟨rfl,rfl⟩))
    go_ret
    exact ⟨by simp,HQ.out⟩
 ·rw [show calledB how = true by unfold calledB; simp [h0,h1]] at HXh HYh
  have e0 : (how == 0) = false := by simp [h0]
  have e0' : (how != 0) = true := by simp [h0]
  have e1 : (how != 1) = true := by simp [h1]
  have e2 : (how == 2) = false := by simp [h2]
  go_enter Tryz.func180,Tryz.ntmps180
  go_wp2_with (first | (go_at_call 201; refine (newStop_any w).mono ?_; rintro e ws ⟨rfl,hst,hbs⟩; obtain ⟨s0,s1⟩ := HPC.out ws hbs; have HST : Hid (StopAt ws (w.heap.size + 1) w.heap.size false) := hst; have HBS : Hid (Below w.heap.size w ws) := hbs; clear hst hbs) | (go_at_call 202; refine (stop_any (w.heap.size + 1) w.heap.size false ws HST.out).mono ?_; rintro e wt ⟨rfl,hst,hcs⟩; have hbs : Below w.heap.size w wt := HBS.out.trans (hcs.below HBS.out.size (fun k hk => by rcases hk with h | h <;> omega)); obtain ⟨s0,s1⟩ := HPC.out wt hbs; have HST2 : Hid (StopAt wt (w.heap.size + 1) w.heap.size true) := hst; have HBS2 : Hid (Below w.heap.size w wt) := hbs; clear hst hbs hcs) | (go_at_call 48; refine (HXh.out _ _ HBS2.out (.inr ⟨_,_,rfl,HST2.out⟩)).mono ?_; rintro e w1 ⟨v,rfl,ho1,hb1⟩; obtain ⟨a1,cp1,rfl⟩ := own_len ho1; have hbw1 : Below w.heap.size w w1 := HBS2.out.trans (hb1.mono HBS2.out.size); have HO1 : Hid (w1.ownsRow w.heap.size 54 2 (.slice a1 R.length cp1) R.length (cellsI R)) := own_lower ho1 HBS2.out.size; obtain ⟨k0,k1⟩ := HPC.out w1 hbw1; have HB1 : Hid (Below w.heap.size w w1) := hbw1; clear ho1 hb1 hbw1) | (go_at_call 203; refine (HYh.out w1 HB1.out).mono ?_; rintro e w2 ⟨v2,rfl,ho2,hb2⟩; obtain ⟨a2,cp2,rfl⟩ := own_len ho2; have HO12 : Hid (w2.ownsRow w.heap.size 54 2 (.slice a1 R.length cp1) R.length (cellsI R)) := own_below HO1.out hb2 (Nat.le_refl _); have HO22 : Hid (w2.ownsRow 0 54 2 (.slice a2 R.length cp2) R.length (cellsI R)) := own_lower ho2 (Nat.zero_le _); have HB2 : Hid (Below w.heap.size w w2) := HB1.out.trans (hb2.mono HB1.out.size); clear ho2 hb2))
  clear p0 p1
  go_loopw [12,13] (fun ok i wr => ∃ k : Nat,k <= R.length /\ ok = .bool true /\ i = .int .i64 k /\ Below w2.heap.size w2 wr) (fun _ i _ => R.length - (intOf i).toNat)
  case atStart => exact ⟨0,by omega,by simp,rfl,Below.refl _ _⟩
  case round =>
   obtain ⟨k,hk,rfl,rfl,hb⟩ := hrel
   have HB : Hid (Below w2.heap.size w2 wr) := hb
   by_cases hlt : k < R.length
   ·obtain ⟨g1,cap1,hv1,_,hg1,hc1⟩ := own_cellsN HO12.out (by omega)
    obtain ⟨g2,cap2,hv2,_,hg2,hc2⟩ := own_cellsN HO22.out (by omega)
    have ea : a1 = some ⟨g1,0,none⟩ := by injection hv1
    have eb : a2 = some ⟨g2,0,none⟩ := by injection hv2
    subst ea
    subst eb
    obtain ⟨b0,b1⟩ := cellsI_get hlt
    have q0 := (hb.cell (p := ⟨g1,k * 2,none⟩) hg1).trans ((hc1 (k * 2) (by omega)).trans b0)
    have q1 := (hb.cell (p := ⟨g1,k * 2 + 1,none⟩) hg1).trans ((hc1 (k * 2 + 1) (by omega)).trans b1)
    have q2 := (hb.cell (p := ⟨g2,k * 2,none⟩) hg2).trans ((hc2 (k * 2) (by omega)).trans b0)
    have q3 := (hb.cell (p := ⟨g2,k * 2 + 1,none⟩) hg2).trans ((hc2 (k * 2 + 1) (by omega)).trans b1)
    clear hc1 hc2 b0 b1 hv1 hv2 hb
    generalize S R[k].key = sk at *
    generalize S R[k].val = sv at *
    go_wp2_with fail
    go_region
    all_goals
     go_wp2
     go_roundw
     case rel => exact ⟨k + 1,by omega,by simp,by go_num,HB.out.drew⟩
     case measure => simp [intOf]; omega
   ·have HOX := HOh.out wr (.slice a1 R.length cp1) (HB2.out.trans (hb.mono HB2.out.size)) (own_below HO12.out hb (Nat.le_refl _))
    clear hb
    go_wp2_with (first | (go_at_call 204; refine HOX.mono ?_; rintro e w4 ⟨rfl,hq⟩; have HQ : Hid (Q w4) := hq; clear hq) | (go_at_call 114; refine (num_any _ _).mono ?_; rintro e w4 ⟨rfl,rfl⟩))
    go_ret
    exact ⟨by simp,HQ.out⟩
theorem asked_all (o : OpV) (hk : o.kind = 13) (bw pb : Nat) (w : World) (Q : World -> Prop) (HA : ∀ w1 : World,Below w.heap.size w w1 -> Calls Tryz.prog 180 #[.pointer (some ⟨bw,0,none⟩),.pointer (some ⟨pb,0,none⟩),.int .i64 o.x] w1 fun e w' => e = .returned (.bool true) /\ Q w') :
  Calls Tryz.prog 125 #[.pointer (some ⟨bw,0,none⟩),.pointer (some ⟨pb,0,none⟩),o.val] w fun e w' => e = .returned (.bool true) /\ Q w' := by
 obtain ⟨kind,at',x,y,s,t,u,c0,c1,c2⟩ := o
 dsimp only at hk HA
 subst hk
 unfold OpV.val
 dsimp only
 have HAh : Hid (∀ w1 : World,Below w.heap.size w w1 -> _) := HA
 clear HA
 go_enter Tryz.func125,Tryz.ntmps125
 go_wp2_with (first | (go_at_call 180; refine (HAh.out _ ?_).mono ?_; exact (Below.refl _ _).alloc (Nat.le_refl _) _; rintro e w1 ⟨rfl,hq⟩; have HQ : Hid (Q w1) := hq; clear hq))
 go_ret
 exact ⟨rfl,HQ.out⟩
theorem Left.later {E : Sent} {n bw nd c : Nat} {m : Bool} {Fr : Nat -> Prop} {k10 : Prop} {pv : Value} {w w1 w' : World} (hb : Below w.heap.size w w1) (hbw : bw < w.heap.size) (hpv : ∀ g,pv.ownBlock = some g -> g < w.heap.size) (h : Left E n bw m nd c Fr k10 pv w1 w') : Left E n bw m nd c Fr k10 pv w w' := by
 obtain ⟨a1,a2,a3,a4⟩ := h
 exact ⟨a1,chg_mv hb a2,a3.trans (hb.cell (p := ⟨bw,0,none⟩) hbw),fun g hg => (a4 g hg).trans (hb.block g (hpv g hg))⟩
theorem does_all (o : OpV) (hk : o.kind = 13) : Does true o := by
 intro E n bw nd c Fr w κ ds P ls j d p h1 h2 h3 h4 h5 h6 h7 hcb hd hp
 have hok : DkOk d := (h3 _ (List.mem_of_getElem? hd)).2
 have hgoal : Calls Tryz.prog 65 #[.pointer (some ⟨bw,0,none⟩),.pointer (some ⟨p.1,0,none⟩),o.val] w fun e w' => e = .returned (.bool true) /\ Left E n bw true nd c Fr ((13 : Int) = 10) P.pv w w' := by
  refine does_asked o bw p.1 w _ (.inr (.inr hk)) fun w1 hb1 => asked_all o hk bw p.1 w1 _ fun w2 hb2 => ?_
  have hb : Below w.heap.size w w2 := hb1.trans (hb2.mono hb1.size)
  have L2 := h1.below hb
  have E2 : Env0 n w2 E := h2.below (hb.mono h2.le)
  have F2 : ∀ k,Fr k -> κ k = 1 /\ k < w2.heap.size := fun k hk => ⟨(h7 k hk).1,Nat.lt_of_lt_of_le (h7 k hk).2 hb.size⟩
  refine (all_walk bw p.1 p.2.1 p.2.2 o.x (fun w' => Left E n bw true nd c Fr ((13 : Int) = 10) P.pv w2 w') (d.all (calledB o.x)).1 (d.all (calledB o.x)).2 w2 (all_len d _) (fun w3 hb3 => ?_) (fun w3 sp hb3 hst => ?_) (fun w3 hb3 => ?_) (fun w3 v hb3 hv => ?_)).mono fun e w' ⟨a1,a2⟩ => ⟨a1,Left.later hb h1.box.lt (own_lt h1.row) a2⟩
  ·have := ((L2.below hb3).pairs j _ p hd hp).box
   exact ⟨this.cell (j := 0) rfl,this.cell (j := 1) rfl⟩
  ·obtain ⟨q,hq⟩ := ((L2.below hb3).pairs j _ p hd hp).px
   exact all_any E n _ p.2.1 d q sp _ w3 (E2.below (hb3.mono E2.le)) hq hok hst
  ·obtain ⟨q,hq⟩ := ((L2.below hb3).pairs j _ p hd hp).py
   exact rall_any _ p.2.2 d q _ w3 hq hok
  ·refine (own_any n bw κ ds P ls v _ _ w3 (L2.below hb3) (own_lower hv (Nat.zero_le _)) (all_len d _) h6.2.1 (by have := h6.2.2; omega) (by have := h6.1; omega) (Nat.le_trans E2.le hb3.size) (fun g hg => ?_)).mono ?_
   ·have hge := own_ge hv g hg
    exact ⟨L2.out g hge,Nat.le_trans E2.le hge⟩
   ·rintro e w4 ⟨rfl,ho⟩
    exact ⟨rfl,left_owned L2 E2 h3 h5 h6 F2 hb3 hv ho⟩
 refine hgoal.mono fun e w' ⟨a1,a2⟩ => ⟨a1,?_⟩
 rw [hk]
 exact a2
theorem steps_builds (o : OpV) (h5 : 5 <= o.kind) (h13 : o.kind <= 13) (hs : o.sized) : Steps true o := by
 rcases (show o.kind <= 10 \/ o.kind = 11 \/ o.kind = 12 \/ o.kind = 13 by omega) with hk | hk | hk | hk
 ·exact steps_writes true o h5 hk hs
 ·exact step_does true o (by omega) (by omega) (does_build true o hk)
 ·exact step_does true o (by omega) (by omega) (does_get true o hk hs.1)
 ·exact step_does true o (by omega) (by omega) (does_all o hk)
theorem steps_fails (o : OpV) (h5 : 5 <= o.kind) (h16 : o.kind <= 16) (hs : o.sized) : Steps true o := by
 rcases (show o.kind <= 13 \/ o.kind = 14 \/ o.kind = 15 \/ o.kind = 16 by omega) with hk | hk | hk | hk
 ·exact steps_builds o h5 hk hs
 ·exact step_does true o (by omega) (by omega) (does_fail true o hk hs.2.2.2.1 hs.2.2.2.2)
 ·exact step_does true o (by omega) (by omega) (does_start true o hk)
 ·exact step_does true o (by omega) (by omega) (does_mend true o hk)
theorem steps_reads (m : Bool) (o : OpV) (h1 : 1 <= o.kind) (h4 : o.kind <= 4) (hs : o.sized) : Steps m o := fun E n bw nd c Fr w hI hnd hc hH =>
 (step_reads o bw w h1 h4 (asks_four o h1 h4 hs) hH).mono fun e w' ⟨a1,a2⟩ => ⟨a1,⟨nd,c,by omega,by omega,fun _ => ⟨rfl,rfl⟩,hI.below a2⟩,Chg.of_below a2⟩
theorem steps_whole (o : OpV) (h1 : 1 <= o.kind) (h16 : o.kind <= 16) (hs : o.sized) : Steps true o := by
 by_cases h : o.kind <= 4
 ·exact steps_reads true o h1 h hs
 ·exact steps_fails o (by omega) h16 hs
end Go.Proofs.YtdhgebdbiehchaaGreatDoor
