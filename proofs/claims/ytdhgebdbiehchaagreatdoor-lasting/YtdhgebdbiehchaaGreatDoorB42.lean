/- On the way: LaAgain. -/
import Derived.Test.YtdhgebdbiehchaaGreatDoorB41
import Derived.Deep.Upon
namespace Go.Proofs.YtdhgebdbiehchaaGreatDoor
open Go.RowKit Go.Maps
set_option linter.unusedSimpArgs false
set_option linter.unusedVariables false
set_option maxRecDepth 100000
set_option maxHeartbeats 800000
theorem cellsI_len (L : List Sd) : (cellsI L).length = L.length * 2 := by
 induction L with
 | nil => rfl
 | cons x L ih =>
  show (cellsI L).length + 2 = _
  rw [ih,List.length_cons]; omega
theorem cellsI_plain (L : List Sd) : ∀ u ∈ cellsI L,u.oneCell' = true := by
 induction L with
 | nil => intro u hu; cases hu
 | cons x L ih =>
  intro u hu
  have : u ∈ Value.string (S x.key) :: Value.string (S x.val) :: cellsI L := hu
  rcases List.mem_cons.1 this with rfl | h
  ·rfl
  ·rcases List.mem_cons.1 h with rfl | h
   ·rfl
   ·exact ih u h
theorem again_run {w : World} {base bh : Nat} {L : List Sd} {v : Value} (hh : HeldAt w base bh L v) (hL : L.length <= 1000) :
  ∃ v' X,(Builtin.append_ #[32,32] 32 #[.slice none 0 0,v]).run Tryz.prog (w.alloc (.cells #[.slice none 0 0] 34)) = .ok v' X /\ X.ownsRow (w.heap.size + 1) 54 2 v' L.length (cellsI L) /\ Bx X w.heap.size #[.slice none 0 0] 34 /\ Below w.heap.size w X := by
 obtain ⟨i0,hi,hz0,hz1,hz2⟩ := info_parts info_item
 have hbn : Bx (w.alloc (.cells #[.slice none 0 0] 34)) w.heap.size #[.slice none 0 0] 34 := bx_new w _ _ rfl
 by_cases h0 : L.length = 0
 ·have e : L = [] := List.length_eq_zero_iff.1 h0
  subst e
  obtain ⟨p,c,hv⟩ := own_len hh.row
  subst hv
  refine ⟨.slice none 0 0,_,?_,World.ownsRow_nil _ _ _ _,hbn,(Below.refl _ _).alloc (Nat.le_refl _) _⟩
  refine run_append_nothing _ _ _ _ _ i0 Tryz.underlying32 hi none 0 0 (Nat.le_refl _) _ ?_
  cases p with
  | none => exact Src.ofNil _ Tryz.underlying32 c
  | some a => exact Src.ofSlice _ Tryz.underlying32 a 0 c [] (by simp) (by simp) (by simp)
 ·obtain ⟨g,cap,hv,_,hgl,hgc⟩ := own_cellsN hh.row (by omega)
  subst hv
  have hnews : ∀ j u,(cellsI L)[j]? = some u -> (w.alloc (.cells #[.slice none 0 0] 34)).cell? ((⟨g,0,none⟩ : Addr).add j) = some u := fun j u hu => by
   have hj : j < L.length * 2 := by
    have := (List.getElem?_eq_some_iff.1 hu).1
    rw [cellsI_len] at this
    exact this
   have h1 := hgc j hj
   rw [hu] at h1
   have h2 := ((Below.refl w.heap.size w).alloc (Nat.le_refl _) (.cells #[.slice none 0 0] 34)).cell (p := ⟨g,j,none⟩) hgl
   rw [show ((⟨g,0,none⟩ : Addr).add j) = ⟨g,j,none⟩ by rw [Addr.add_lit,Nat.zero_add]]
   exact h2.trans h1
  obtain ⟨g',cap',X,a1,a2,a3,a4,a5⟩ := run_append_lies (P := Tryz.prog) (w.alloc (.cells #[.slice none 0 0] 34)) 32 32 (w.heap.size + 1) 54 i0 (.agg #[.string ⟨#[]⟩,.string ⟨#[]⟩]) 2 32 Tryz.underlying32 hi hz0 hz1 hz2 rfl (by decide) (.slice none 0 0) 0 [] (World.ownsRow_nil _ _ _ _) ⟨g,0,none⟩ L.length cap (cellsI L) (cellsI_len L) hnews (cellsI_plain L) (by omega) (by unfold maxLen; omega) (by omega) (by simp) _ rfl
  rw [Nat.zero_add] at a1 a2
  rw [List.nil_append] at a2
  refine ⟨_,X,a1,a2,?_,((Below.refl _ _).alloc (Nat.le_refl _) _).grown a3 (by simp) (fun k e => by cases e)⟩
  exact (a3.block w.heap.size (by simp) (fun e => by cases e)).trans hbn
theorem kagain_any (base bh : Nat) (v : Value) (L : List Sd) (w : World) (hh : HeldAt w base bh L v) (hL : L.length <= 1000) :
  Calls Tryz.prog 21 #[.pointer (some ⟨bh,0,none⟩)] w fun e w' => e = .returned (.pointer (some ⟨w.heap.size,0,none⟩)) /\ (∃ v',HeldAt w' w.heap.size w.heap.size L v' /\ v'.ownBlock ≠ some w.heap.size) /\ Below w.heap.size w w' := by
 obtain ⟨v',X,hr,ho,hbn,hb0⟩ := again_run (w := w.drew) (hh.chg (Chg.refl (fun _ => False) w).drew (fun h => h) (fun _ _ h => h)) hL
 have hb : Below w.heap.size w X := (Below.refl w.heap.size w).drew.trans hb0
 have hbl := hh.box.lt
 have c0 : (w.alloc (.cells #[.slice none 0 0] 34)).cell? ⟨bh,0,none⟩ = some v := (hh.box.alloc _).cell (j := 0) rfl
 have c1 : X.cell? ⟨w.heap.size,0,none⟩ = some (.slice none 0 0) := hbn.cell (j := 0) rfl
 have f1 : X.frozen? ⟨w.heap.size,0,none⟩ = false := hbn.frozen 0
 have HR : Hid ((Builtin.append_ #[32,32] 32 #[.slice none 0 0,v]).run Tryz.prog (w.alloc (.cells #[.slice none 0 0] 34)).drew = .ok v' X) := hr
 have HO : Hid (X.ownsRow (w.heap.size + 1) 54 2 v' L.length (cellsI L)) := ho
 have HN : Hid (Bx (X.setCell ⟨w.heap.size,0,none⟩ v') w.heap.size #[v'] 34) := hbn.set1 v'
 have HB : Hid (Below w.heap.size w (X.setCell ⟨w.heap.size,0,none⟩ v')) := hb.setCell (Nat.le_refl _) _
 obtain ⟨av,acp,hve⟩ := own_len hh.row
 obtain ⟨av',acp',hve'⟩ := own_len ho
 subst hve
 subst hve'
 clear hr ho hbn hb hb0 hh
 go_enter Tryz.func21,Tryz.ntmps21
 go_wp2_with fail
 go_region_law (refine step_append_run rfl (.tmp 10) (.tmp 14) 32 rfl (by simp [Act.eval,Act.put]) (by simp [Act.eval,Act.put]) HR.out ?_)
 all_goals
  go_wp2
  go_ret
  refine ⟨rfl,⟨_,⟨HN.out,?_⟩,?_⟩,HB.out⟩
  ·refine own_lower (own_chg HO.out (chg_one (F := fun j => j = w.heap.size) (grown_setB _ _ _ _) rfl) (fun g e h => ?_)) (Nat.le_succ _)
   have := own_ge HO.out g e
   omega
  ·intro e
   have := own_ge HO.out _ e
   omega
end Go.Proofs.YtdhgebdbiehchaaGreatDoor
