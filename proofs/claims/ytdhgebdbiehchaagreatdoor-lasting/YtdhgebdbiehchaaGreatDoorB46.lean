/- On the way: LaTell, LaAt, LaOps, LaToldW, LaMends. -/
import Derived.Test.YtdhgebdbiehchaaGreatDoorB10
import Derived.Test.YtdhgebdbiehchaaGreatDoorB42
import Derived.Test.YtdhgebdbiehchaaGreatDoorB44
import Derived.Test.YtdhgebdbiehchaaGreatDoorB41
import Derived.Test.YtdhgebdbiehchaaGreatDoorB34
import Derived.Test.YtdhgebdbiehchaaGreatDoorB43
import Derived.Test.YtdhgebdbiehchaaGreatDoorB45
import Derived.Test.YtdhgebdbiehchaaGreatDoorB28
import Derived.Test.YtdhgebdbiehchaaGreatDoorB31
namespace Go.Proofs.YtdhgebdbiehchaaGreatDoor
open Go.RowKit Go.Maps
set_option linter.unusedSimpArgs false
set_option linter.unusedVariables false
set_option maxRecDepth 100000
set_option maxHeartbeats 3200000
theorem ne_bx {W : World} {b base e size n : Nat} {cs : Array Value} {t : TypeId} {v : Value} {xs : List Value} (h : Bx W b cs t) (h' : W.ownsRow base e size v n xs) (ht : e ≠ t) : v.ownBlock ≠ some b := by
 rcases own_unlike h h' ht with h1 | h1
 ·rw [h1]; simp
 ·exact h1
theorem ne_row {w : World} {b1 e1 s1 n1 b2 e2 s2 n2 : Nat} {v1 v2 : Value} {x1 x2 : List Value} (h1 : w.ownsRow b1 e1 s1 v1 n1 x1) (h2 : w.ownsRow b2 e2 s2 v2 n2 x2) (he : e1 ≠ e2) : ∀ g,v1.ownBlock = some g -> v2.ownBlock ≠ some g := fun g hg h3 => by
 rcases own_apart h1 h2 he with h | h
 ·rw [h] at hg; cases hg
 ·exact h (hg.trans h3.symm)
structure TlAt (w0 wr : World) (bh : Nat) (L : List Sd) (A : List Int) (v va : Value) : Prop where
 held : HeldAt wr w0.heap.size bh L v
 row : wr.ownsRow w0.heap.size 3 1 va A.length (cellsN A)
 bl : Below w0.heap.size w0 wr
 ge : w0.heap.size <= bh
theorem TlAt.new {w0 w : World} (hb : Below w0.heap.size w0 w) : TlAt w0 (w.alloc (.cells #[.slice none 0 0] 34)) w.heap.size [] [] (.slice none 0 0) (.slice none 0 0) :=
 ⟨⟨bx_new w _ _ rfl,World.ownsRow_nil _ _ _ _⟩,World.ownsRow_nil _ _ _ _,hb.alloc hb.size _,hb.size⟩
theorem TlAt.below {w0 w w' : World} {bh : Nat} {L : List Sd} {A : List Int} {v va : Value} (h : TlAt w0 w bh L A v va) (hb : Below w.heap.size w w') : TlAt w0 w' bh L A v va :=
 ⟨h.held.chg (Chg.of_below (F := fun _ => False) hb) (fun h => h) (fun _ _ h => h),own_chg h.row (Chg.of_below (F := fun _ => False) hb) (fun _ _ h => h),h.bl.trans (hb.mono h.bl.size),h.ge⟩
theorem TlAt.drew {w0 w : World} {bh : Nat} {L : List Sd} {A : List Int} {v va : Value} (h : TlAt w0 w bh L A v va) : TlAt w0 w.drew bh L A v va := h.below (Below.refl _ _).drew
theorem TlAt.pushL {w0 w : World} {bh : Nat} {L : List Sd} {A : List Int} {v va : Value} (h : TlAt w0 w bh L A v va) (x : Sd) (hL : L.length <= 1000) :
  ∃ g cp X,(Builtin.append_ #[32,32] 32 #[v,.slice (some ⟨w.heap.size,0,none⟩) 1 1]).run Tryz.prog (w.alloc (.cells #[.string (S x.key),.string (S x.val)] 54)) = .ok (.slice (some ⟨g,0,none⟩) (L.length + 1) cp) X /\
   X.cell? ⟨bh,0,none⟩ = some v /\ X.frozen? ⟨bh,0,none⟩ = false /\ TlAt w0 (X.setCell ⟨bh,0,none⟩ (.slice (some ⟨g,0,none⟩) (L.length + 1) cp)) bh (L ++ [x]) A (.slice (some ⟨g,0,none⟩) (L.length + 1) cp) va := by
 have hz := h.bl.size
 obtain ⟨g,cp,X,a1,a2,a3⟩ := app_item (x := x) (g0 := w.heap.size) (h.held.row.alloc (.cells #[.string (S x.key),.string (S x.val)] 54)) (fun j u hu => cells_two_new w _ _ _ j u hu) (by omega) (by simp; omega)
 have hbW : Bx (w.alloc (.cells #[.string (S x.key),.string (S x.val)] 54)) bh #[v] 34 := h.held.box.alloc _
 have hvb : v.ownBlock ≠ some bh := ne_bx h.held.box h.held.row (by decide)
 have hcX : Chg (fun j => v.ownBlock = some j) (w.alloc (.cells #[.string (S x.key),.string (S x.val)] 54)) X := (Chg.refl _ _).grown a3 (fun k e => .inl e)
 have hbX : Bx X bh #[v] 34 := hbW.chg hcX hvb
 have hgb : (Value.slice (some ⟨g,0,none⟩) (L.length + 1) cp).ownBlock ≠ some bh := ne_bx hbX a2 (by decide)
 have hrX : X.ownsRow w0.heap.size 3 1 va A.length (cellsN A) := own_chg (h.row.alloc _) hcX (fun g' e e2 => ne_row h.held.row h.row (by decide) g' e2 e)
 have hvab : va.ownBlock ≠ some bh := ne_bx h.held.box h.row (by decide)
 refine ⟨g,cp,X,a1,hbX.cell (j := 0) rfl,hbX.frozen 0,⟨hbX.set1 _,?_⟩,?_,?_,h.ge⟩
 ·rw [List.length_append]
  exact own_chg a2 (chg_one (F := fun j => j = bh) (grown_setB _ _ _ _) rfl) (fun g' e h' => hgb (by rw [e,h']))
 ·exact own_chg hrX (chg_one (F := fun j => j = bh) (grown_setB _ _ _ _) rfl) (fun g' e h' => hvab (by rw [e,h']))
 ·exact (((h.bl.alloc hz _).grown a3 (by simp; omega) (own_ge h.held.row))).setCell h.ge _
theorem TlAt.pushA {w0 w : World} {bh : Nat} {L : List Sd} {A : List Int} {v va : Value} (h : TlAt w0 w bh L A v va) (x : Int) (hA : A.length <= 1000) :
  ∃ g cp X,(Builtin.append_ #[25,25] 25 #[va,.slice (some ⟨w.heap.size,0,none⟩) 1 1]).run Tryz.prog (w.alloc (.cells #[.int .i64 x] 3)) = .ok (.slice (some ⟨g,0,none⟩) (A.length + 1) cp) X /\
   TlAt w0 X bh L (A ++ [x]) v (.slice (some ⟨g,0,none⟩) (A.length + 1) cp) := by
 have hz := h.bl.size
 obtain ⟨g,cp,X,a1,a2,a3,a4⟩ := app_int (x := x) (g0 := w.heap.size) (h.row.alloc (.cells #[.int .i64 x] 3)) (World.cell?_alloc_new w #[.int .i64 x] 3 0) (by omega) (by simp; omega)
 have hcX : Chg (fun j => va.ownBlock = some j) (w.alloc (.cells #[.int .i64 x] 3)) X := (Chg.refl _ _).grown a3 (fun k e => .inl e)
 have hvab : va.ownBlock ≠ some bh := ne_bx h.held.box h.row (by decide)
 refine ⟨g,cp,X,a1,⟨(h.held.box.alloc _).chg hcX hvab,own_chg (h.held.row.alloc _) hcX (fun g' e e2 => ne_row h.held.row h.row (by decide) g' e e2)⟩,by rw [List.length_append]; exact a2,(h.bl.alloc hz _).grown a3 (by simp; omega) (own_ge h.row),h.ge⟩
theorem cellsI_set (L : List Sd) (j : Nat) (x : Sd) : cellsI (L.set j x) = ((cellsI L).set (j * 2) (.string (S x.key))).set (j * 2 + 1) (.string (S x.val)) := by
 induction L generalizing j with
 | nil => simp [cellsI]
 | cons y L ih =>
  cases j with
  | zero => rfl
  | succ j =>
   show Value.string (S y.key) :: Value.string (S y.val) :: cellsI (L.set j x) = _
   rw [ih,show (j + 1) * 2 = j * 2 + 1 + 1 by omega]
   rfl
theorem TlAt.setA {w0 w : World} {bh : Nat} {L : List Sd} {A : List Int} {v : Value} {ga cp : Nat} (h : TlAt w0 w bh L A v (.slice (some ⟨ga,0,none⟩) A.length cp)) (j : Nat) (x : Int) : TlAt w0 (w.setCell ⟨ga,j,none⟩ (.int .i64 x)) bh L (A.set j x) v (.slice (some ⟨ga,0,none⟩) A.length cp) := by
 have hvab : (Value.slice (some ⟨ga,0,none⟩) A.length cp).ownBlock ≠ some bh := ne_bx h.held.box h.row (by decide)
 have hc : Chg (fun k => k = ga) w (w.setCell ⟨ga,j,none⟩ (.int .i64 x)) := chg_one (grown_setB _ _ _ _) rfl
 have hge : w0.heap.size <= ga := own_ge h.row ga rfl
 refine ⟨⟨h.held.box.chg hc (fun e => hvab (by rw [e]; rfl)),own_chg h.held.row hc (fun g e e2 => ne_row h.held.row h.row (by decide) g e (by rw [e2]; rfl))⟩,?_,h.bl.setCell hge _,h.ge⟩
 have := (h.row.stored j (.int .i64 x)).1
 rw [List.length_set]
 rw [show cellsN (A.set j x) = (cellsN A).set j (.int .i64 x) by unfold cellsN; rw [List.map_set]]
 exact this
theorem TlAt.setL {w0 w : World} {bh : Nat} {L : List Sd} {A : List Int} {va : Value} {gl cp : Nat} (h : TlAt w0 w bh L A (.slice (some ⟨gl,0,none⟩) L.length cp) va) (j : Nat) (x : Sd) : TlAt w0 ((w.setCell ⟨gl,j * 2,none⟩ (.string (S x.key))).setCell ⟨gl,j * 2 + 1,none⟩ (.string (S x.val))) bh (L.set j x) A (.slice (some ⟨gl,0,none⟩) L.length cp) va := by
 have hvb : (Value.slice (some ⟨gl,0,none⟩) L.length cp).ownBlock ≠ some bh := ne_bx h.held.box h.held.row (by decide)
 have hge : w0.heap.size <= gl := own_ge h.held.row gl rfl
 have hc : Chg (fun k => k = gl) w ((w.setCell ⟨gl,j * 2,none⟩ (.string (S x.key))).setCell ⟨gl,j * 2 + 1,none⟩ (.string (S x.val))) := (chg_one (F := fun k => k = gl) (grown_setB _ _ _ _) rfl).set gl _ _ (.inl rfl)
 refine ⟨⟨h.held.box.chg hc (fun e => hvb (by rw [e]; rfl)),?_⟩,own_chg h.row hc (fun g e e2 => ne_row h.held.row h.row (by decide) g (by rw [e2]; rfl) e),(h.bl.setCell hge _).setCell hge _,h.ge⟩
 have := ((h.held.row.stored (j * 2) (.string (S x.key))).1.stored (j * 2 + 1) (.string (S x.val))).1
 rw [List.length_set,cellsI_set]
 exact this
theorem info_ph : (Tryz.prog.info? 31).map (fun i => (i.zero,i.size,i.bytes)) = some (some (.pointer none),1,8) := by kernel_rfl
def ptrH (p : Nat) : Value := .pointer (some ⟨p,0,none⟩)
structure PtrsAt (w : World) (n : Nat) (va : Value) (g : Nat) (ps : List Nat) (off cap : Nat) (cur : Array Value) : Prop where
 eq : va = .slice (some ⟨g,off,none⟩) ps.length cap
 ge : n <= g
 box : Bx w g cur 31
 fits : off + cap <= cur.size
 len : ps.length <= cap
 most : cap <= maxLen
 cells : ∀ i p,ps[i]? = some p -> cur[off + i]? = some (ptrH p)
theorem PtrsAt.push {w : World} {n : Nat} {va : Value} {g : Nat} {ps : List Nat} {off cap : Nat} {cur : Array Value} (h : PtrsAt w n va g ps off cap cur) (p : Nat) (hl : ps.length <= 1000) (hn : n <= w.heap.size) :
  ∃ v' X g' off' cap' cur',(Builtin.append_ #[46,46] 46 #[va,.slice (some ⟨w.heap.size,0,none⟩) 1 1]).run Tryz.prog (w.alloc (.cells #[ptrH p] 31)) = .ok v' X /\
   PtrsAt X n v' g' (ps ++ [p]) off' cap' cur' /\ Chg (fun k => k = g) w X /\ (g' = g \/ w.heap.size <= g') := by
 obtain ⟨i0,hi,hz0,hz1,hz2⟩ := info_parts info_ph
 have hnew : ∀ j u,[ptrH p][j]? = some u -> (w.alloc (.cells #[ptrH p] 31)).cell? ((⟨w.heap.size,0,none⟩ : Addr).add j) = some u := by
  intro j u hu
  cases j with
  | zero =>
   simp at hu
   rw [<- hu]
   exact World.cell?_alloc_new w #[ptrH p] 31 0
  | succ j => simp at hu
 have hbW := h.box.alloc (.cells #[ptrH p] 31)
 by_cases hr : ps.length + 1 <= cap
 ·have hin : off + ps.length < cur.size := by have := h.fits; omega
  have run := run_append_room_cells (P := Tryz.prog) (w.alloc (.cells #[ptrH p] 31)) 46 46 31 i0 Tryz.underlying46 hi g off ps.length cap ⟨w.heap.size,0,none⟩ 1 1 [ptrH p] (by rw [hz1]; rfl) hnew (by simp [ptrH,Value.oneCell']) hr
   (fun j hj => by
    have : j = 0 := by simpa using hj
    subst this
    rw [hz1,Nat.mul_one,Nat.add_zero,hbW.cell (j := off + ps.length) (u := cur[off + ps.length]) (Array.getElem?_eq_getElem hin)]
    rfl)
   (fun j hj => hbW.frozen _)
  rw [hz1,Nat.mul_one] at run
  refine ⟨.slice (some ⟨g,off,none⟩) (ps.length + 1) cap,(w.alloc (.cells #[ptrH p] 31)).setCell ⟨g,off + ps.length,none⟩ (ptrH p),g,off,cap,cur.setIfInBounds (off + ps.length) (ptrH p),?_,⟨?_,h.ge,hbW.setj (off + ps.length) (ptrH p),by simp; exact h.fits,by simp; exact hr,h.most,?_⟩,?_,.inl rfl⟩
  ·rw [h.eq]
   exact run
  ·rw [List.length_append]; rfl
  ·intro i q hq
   by_cases e : i = ps.length
   ·subst e
    have : q = p := by
     rw [List.getElem?_append_right (Nat.le_refl _)] at hq
     simpa using hq.symm
    subst this
    simp [hin]
   ·have hlt : i < ps.length := by
     have := (List.getElem?_eq_some_iff.1 hq).1
     simp at this
     omega
    rw [List.getElem?_append_left hlt] at hq
    rw [Array.getElem?_setIfInBounds_ne (by omega)]
    exact h.cells i q hq
  ·exact ((Chg.refl _ _).alloc _).set g _ _ (.inl rfl)
 ·have hcap : cap = ps.length := by have := h.len; omega
  have holds : ∀ j u,(ps.map ptrH)[j]? = some u -> (w.alloc (.cells #[ptrH p] 31)).cell? ((⟨g,off,none⟩ : Addr).add j) = some u := by
   intro j u hu
   rw [List.getElem?_map] at hu
   cases hq : ps[j]? with
   | none => rw [hq] at hu; cases hu
   | some q =>
    rw [hq] at hu
    have hu' : ptrH q = u := by simpa using hu
    rw [<- hu',show ((⟨g,off,none⟩ : Addr).add j) = ⟨g,off + j,none⟩ from Addr.add_lit ..]
    exact hbW.cell (h.cells j q hq)
  obtain ⟨v',X,run,ho,hg⟩ := run_append_arg_grows (P := Tryz.prog) (w.alloc (.cells #[ptrH p] 31)) 46 46 31 i0 (.pointer none) 1 8 Tryz.underlying46 hi hz0 hz1 hz2 rfl (by decide) ⟨g,off,none⟩ ps.length cap (ps.map ptrH) (by simp) holds ⟨w.heap.size,0,none⟩ 1 1 [ptrH p] rfl hnew (by omega) (by unfold maxLen; omega) (by omega)
  obtain ⟨hol,hor⟩ := ho
  rcases hor with ⟨_,h0⟩ | ⟨g',cap',cur',e1,e2,e3,e4,e5,e6,e7⟩
  ·omega
  ·have hsz : w.heap.size + 1 <= g' := by simpa using e2
   refine ⟨v',X,g',0,cap',cur',by rw [h.eq]; exact run,⟨by rw [e1,List.length_append]; rfl,by omega,e3,by omega,by rw [List.length_append]; exact e4,e5,?_⟩,((Chg.refl _ _).alloc _).grown hg (fun k e => by cases e),.inr (by omega)⟩
   intro i q hq
   have hlt : i < (ps ++ [p]).length := (List.getElem?_eq_some_iff.1 hq).1
   have h7 : (cur'.toList.take ((ps.length + 1) * 1))[i]? = (ps.map ptrH ++ [ptrH p])[i]? := by rw [e7]
   rw [List.getElem?_take,if_pos (by simp at hlt ⊢; omega),show ps.map ptrH ++ [ptrH p] = (ps ++ [p]).map ptrH by simp,List.getElem?_map,hq] at h7
   rw [Nat.zero_add,<- Array.getElem?_toList]
   exact h7
theorem PtrsAt.chg {w w' : World} {n : Nat} {va : Value} {g : Nat} {ps : List Nat} {off cap : Nat} {cur : Array Value} {F : Nat -> Prop} (h : PtrsAt w n va g ps off cap cur) (hc : Chg F w w') (hb : ¬ F g) : PtrsAt w' n va g ps off cap cur :=
 ⟨h.eq,h.ge,h.box.chg hc hb,h.fits,h.len,h.most,h.cells⟩
theorem PtrsAt.cell {w : World} {n : Nat} {va : Value} {g : Nat} {ps : List Nat} {off cap : Nat} {cur : Array Value} (h : PtrsAt w n va g ps off cap cur) {i p : Nat} (hp : ps[i]? = some p) : w.cell? ⟨g,off + i,none⟩ = some (ptrH p) := h.box.cell (h.cells i p hp)
theorem PtrsAt.tail {w : World} {n : Nat} {va : Value} {g : Nat} {ps : List Nat} {off cap : Nat} {cur : Array Value} (h : PtrsAt w n va g ps off cap cur) {p : Nat} (hp : ps[ps.length - 1]? = some p) : PtrsAt w n (.slice (some ⟨g,off + (ps.length - 1),none⟩) 1 (cap - (ps.length - 1))) g [p] (off + (ps.length - 1)) (cap - (ps.length - 1)) cur := by
 have hlt := (List.getElem?_eq_some_iff.1 hp).1
 have h1 := h.fits
 have h2 := h.len
 have h3 := h.most
 refine ⟨rfl,h.ge,h.box,by omega,by simp; omega,by omega,fun i q hq => ?_⟩
 cases i with
 | zero =>
  have e : p = q := by simpa using hq
  rw [<- e]
  exact h.cells _ p hp
 | succ i => simp at hq
theorem PtrsAt.one (w : World) (n p : Nat) (hn : n <= w.heap.size) : PtrsAt (w.alloc (.cells #[ptrH p] 31)) n (.slice (some ⟨w.heap.size,0,none⟩) 1 1) w.heap.size [p] 0 1 #[ptrH p] := by
 refine ⟨rfl,hn,bx_new w _ _ rfl,by simp,by simp,by unfold maxLen; omega,fun i q hq => ?_⟩
 cases i with
 | zero =>
  have e : p = q := by simpa using hq
  rw [<- e]
  rfl
 | succ i => simp at hq
structure OneAt (w : World) (n : Nat) (G : Nat -> Prop) (p : Nat) (L : List Sd) : Prop where
 held : ∃ v,HeldAt w n p L v /\ ∀ g,v.ownBlock = some g -> ¬ G g
 ge : n <= p
 off : ¬ G p
 few : L.length <= 1000
theorem OneAt.chg {w w' : World} {n : Nat} {G F : Nat -> Prop} {p : Nat} {L : List Sd} (h : OneAt w n G p L) (hc : Chg F w w') (hp : ¬ F p) (hv : ∀ v g,HeldAt w n p L v -> v.ownBlock = some g -> ¬ F g) : OneAt w' n G p L := by
 obtain ⟨v,h1,h2⟩ := h.held
 exact ⟨⟨v,h1.chg hc hp (fun g e => hv v g h1 e),h2⟩,h.ge,h.off,h.few⟩
theorem OneAt.below {w w' : World} {n : Nat} {G : Nat -> Prop} {p : Nat} {L : List Sd} (h : OneAt w n G p L) (hb : Below w.heap.size w w') : OneAt w' n G p L := h.chg (F := fun _ => False) (Chg.of_below hb) (fun h => h) (fun _ _ _ _ h => h)
theorem OneAt.store {w w' : World} {n : Nat} {G : Nat -> Prop} {p : Nat} {L : List Sd} (h : OneAt w n G p L) (hc : Chg G w w') : OneAt w' n (Fx G w w') p L := by
 obtain ⟨v,h1,h2⟩ := h.held
 refine ⟨⟨v,h1.chg hc h.off h2,?_⟩,h.ge,?_,h.few⟩
 ·rintro g hg (hk | hk)
  ·exact h2 g hg hk
  ·exact absurd (own_lt h1.row g hg) (by omega)
 ·rintro (hk | hk)
  ·exact h.off hk
  ·exact absurd h1.box.lt (by omega)
theorem OneAt.row {w w' : World} {n : Nat} {G : Nat -> Prop} {p g : Nat} {L : List Sd} {cur : Array Value} (h : OneAt w n G p L) (hb : Bx w g cur 31) (hc : Chg (fun k => k = g) w w') : OneAt w' n G p L := by
 refine h.chg hc (fun e => ?_) (fun v g' h1 e e2 => ?_)
 ·obtain ⟨v,h1,_⟩ := h.held
  have h2 : Bx w p cur 31 := by rw [e]; exact hb
  have h3 : some (Obj.cells #[v] 34 (0,0)) = some (Obj.cells cur 31 (0,0)) := h1.box.symm.trans h2
  injection h3 with h3
  injection h3 with _ h4
  exact absurd h4 (by decide)
 ·exact ne_bx hb h1.row (by decide) (by rw [e,e2])
structure LaAt (E : Sent) (n : Nat) (G : Nat -> Prop) (bx : Nat) (d : Dk) (va : Value) (all : List (List Sd)) (w : World) : Prop where
 env : Env0 n w E
 gs : ∀ k,G k -> n <= k /\ k < w.heap.size
 st : ∃ q,StoreAt w G bx d q
 ptrs : ∃ g ps off cap cur,PtrsAt w n va g ps off cap cur /\ ¬ G g /\ ps.length = all.length /\ ∀ (i p : Nat) (L : List Sd),ps[i]? = some p -> all[i]? = some L -> OneAt w n G p L
theorem LaAt.below {E : Sent} {n : Nat} {G : Nat -> Prop} {bx : Nat} {d : Dk} {va : Value} {all : List (List Sd)} {w w' : World} (h : LaAt E n G bx d va all w) (hb : Below w.heap.size w w') : LaAt E n G bx d va all w' := by
 obtain ⟨q,hq⟩ := h.st
 obtain ⟨g,ps,off,cap,cur,h1,h2,h3,h4⟩ := h.ptrs
 exact ⟨h.env.below (hb.mono h.env.le),fun k hk => ⟨(h.gs k hk).1,Nat.lt_of_lt_of_le (h.gs k hk).2 hb.size⟩,⟨q,hq.below hb⟩,g,ps,off,cap,cur,h1.chg (Chg.of_below (F := fun _ => False) hb) (fun h => h),h2,h3,fun i p L hp hL => (h4 i p L hp hL).below hb⟩
theorem LaAt.store {E : Sent} {n : Nat} {G : Nat -> Prop} {bx : Nat} {d d' : Dk} {va : Value} {all : List (List Sd)} {w w' : World} (h : LaAt E n G bx d va all w) (hd : Done E G bx w d' w') : LaAt E n (Fx G w w') bx d' va all w' /\ Below n w w' := by
 obtain ⟨⟨q,hq⟩,hc⟩ := hd
 obtain ⟨g,ps,off,cap,cur,h1,h2,h3,h4⟩ := h.ptrs
 have hb : Below n w w' := hc.below h.env.le (fun k hk => (h.gs k hk).1)
 refine ⟨⟨h.env.below hb,?_,⟨q,hq⟩,g,ps,off,cap,cur,h1.chg hc h2,?_,h3,fun i p L hp hL => (h4 i p L hp hL).store hc⟩,hb⟩
 ·rintro k (hk | hk)
  ·exact ⟨(h.gs k hk).1,Nat.lt_of_lt_of_le (h.gs k hk).2 hc.size⟩
  ·exact ⟨Nat.le_trans h.env.le hk.1,hk.2⟩
 ·rintro (hk | hk)
  ·exact h2 hk
  ·exact absurd h1.box.lt (by omega)
theorem LaAt.push {E : Sent} {n : Nat} {G : Nat -> Prop} {bx : Nat} {d : Dk} {va : Value} {all : List (List Sd)} {w : World} (h : LaAt E n G bx d va all w) {p : Nat} {L : List Sd} (hp : OneAt w n G p L) (hl : all.length <= 1000) :
  ∃ v' X,(Builtin.append_ #[46,46] 46 #[va,.slice (some ⟨w.heap.size,0,none⟩) 1 1]).run Tryz.prog (w.alloc (.cells #[ptrH p] 31)) = .ok v' X /\
   LaAt E n G bx d v' (all ++ [L]) X /\ Below n w X := by
 obtain ⟨q,hq⟩ := h.st
 obtain ⟨g,ps,off,cap,cur,h1,h2,h3,h4⟩ := h.ptrs
 obtain ⟨v',X,g',off',cap',cur',run,a1,a2,a3⟩ := h1.push p (by omega) h.env.le
 have hb : Below n w X := a2.below h.env.le (fun k hk => by rw [hk]; exact h1.ge)
 refine ⟨v',X,run,⟨h.env.below hb,fun k hk => ⟨(h.gs k hk).1,Nat.lt_of_lt_of_le (h.gs k hk).2 a2.size⟩,⟨q,hq.keep a2 (fun k hk e => h2 (by rw [<- e]; exact hk))⟩,g',ps ++ [p],off',cap',cur',a1,?_,by simp [h3],?_⟩,hb⟩
 ·intro hk
  rcases a3 with e | e
  ·exact h2 (by rw [<- e]; exact hk)
  ·exact absurd (h.gs g' hk).2 (by omega)
 ·intro i p' L' hp' hL'
  by_cases hlt : i < ps.length
  ·rw [List.getElem?_append_left hlt] at hp'
   rw [List.getElem?_append_left (by omega)] at hL'
   exact (h4 i p' L' hp' hL').row h1.box a2
  ·rw [List.getElem?_append_right (by omega)] at hp' hL'
   have e : i - ps.length = 0 := by
    have := (List.getElem?_eq_some_iff.1 hp').1
    simp at this
    omega
   rw [e] at hp'
   rw [<- h3,e] at hL'
   have e1 : p = p' := by simpa using hp'
   have e2 : L = L' := by simpa using hL'
   rw [<- e1,<- e2]
   exact hp.row h1.box a2
theorem LaAt.tail {E : Sent} {n : Nat} {G : Nat -> Prop} {bx : Nat} {d : Dk} {va : Value} {all : List (List Sd)} {w : World} (h : LaAt E n G bx d va all w) {L : List Sd} (hL : all[all.length - 1]? = some L) :
  ∃ g off cap,va = .slice (some ⟨g,off,none⟩) all.length cap /\ all.length <= cap /\ cap <= maxLen /\ LaAt E n G bx d (.slice (some ⟨g,off + (all.length - 1),none⟩) 1 (cap - (all.length - 1))) [L] w := by
 obtain ⟨g,ps,off,cap,cur,h1,h2,h3,h4⟩ := h.ptrs
 have hlt := (List.getElem?_eq_some_iff.1 hL).1
 obtain ⟨p,hp⟩ : ∃ p,ps[ps.length - 1]? = some p := ⟨_,List.getElem?_eq_getElem (by omega)⟩
 have ht := h1.tail hp
 rw [h3] at ht
 refine ⟨g,off,cap,by rw [h1.eq,h3],by rw [<- h3]; exact h1.len,h1.most,h.env,h.gs,h.st,g,[p],_,_,cur,ht,h2,rfl,fun i p' L' hp' hL' => ?_⟩
 cases i with
 | zero =>
  have e1 : p = p' := by simpa using hp'
  have e2 : L = L' := by simpa using hL'
  rw [<- e1,<- e2]
  exact h4 _ p L hp (by rw [h3]; exact hL)
 | succ i => simp at hp'
theorem LaAt.one {E : Sent} {n : Nat} {G : Nat -> Prop} {bx : Nat} {d : Dk} {w : World} (hE : Env0 n w E) (hG : ∀ k,G k -> n <= k /\ k < w.heap.size) (hS : ∃ q,StoreAt w G bx d q) {p : Nat} {L : List Sd} (hp : OneAt w n G p L) :
  LaAt E n G bx d (.slice (some ⟨w.heap.size,0,none⟩) 1 1) [L] (w.alloc (.cells #[ptrH p] 31)) := by
 have hb : Below w.heap.size w (w.alloc (.cells #[ptrH p] 31)) := (Below.refl _ _).alloc (Nat.le_refl _) _
 obtain ⟨q,hq⟩ := hS
 refine ⟨hE.below (hb.mono hE.le),fun k hk => ⟨(hG k hk).1,Nat.lt_of_lt_of_le (hG k hk).2 hb.size⟩,⟨q,hq.below hb⟩,w.heap.size,[p],0,1,_,PtrsAt.one w n p hE.le,fun hk => absurd (hG _ hk).2 (by omega),rfl,fun i p' L' hp' hL' => ?_⟩
 cases i with
 | zero =>
  have e1 : p = p' := by simpa using hp'
  have e2 : L = L' := by simpa using hL'
  rw [<- e1,<- e2]
  exact hp.below hb
 | succ i => simp at hp'
theorem KOk.more {blk seed bits : Nat} {bs : List (List Ent)} {f2 : Option Fl} {ws : List Ent} {c c' : Nat} (h : KOk blk seed bits bs f2 ws c) (hc : c <= c') : KOk blk seed bits bs f2 ws c' :=
 ⟨h.hblk,h.hseed,h.hbits,h.hbs,h.hws,h.most,h.size,Nat.le_trans h.count hc,h.idx⟩
theorem LUp.more {blk seed bits c c' : Nat} {d : Dk} {all : List (List Sd)} (h : LUp blk seed bits c d all) (hc : c <= c') : LUp blk seed bits c' d all := by
 obtain ⟨b0,b1,f1,f2,lf,ws,h⟩ := h
 exact ⟨b0,b1,f1,f2,lf,ws,h.eq,h.ok.more hc,h.new,h.len,h.alike,h.keys⟩
theorem LDown.more {blk seed bits c c' : Nat} {d : Dk} {all : List (List Sd)} (h : LDown blk seed bits c d all) (hc : c <= c') : LDown blk seed bits c' d all := by
 obtain ⟨bs,rest,sy,f1,f2,h⟩ := h
 exact ⟨bs,rest,sy,f1,f2,h.eq,h.ok.more hc,h.new,h.stop,h.said,h.keys⟩
def LSt (blk seed bits c : Nat) (d : Dk) (all : List (List Sd)) (up : Bool) : Prop := (up = true /\ LUp blk seed bits c d all) \/ (up = false /\ LDown blk seed bits c d all)
theorem l_add2 {blk seed bits c : Nat} {d : Dk} {all : List (List Sd)} (h : LUp blk seed bits c d all) (hc : c <= 400) {e : Ent} (he : EntOk e) (hk : ∃ i,i < 60 /\ e.key = keyK i) {L : List Sd} (hL : all[all.length - 1]? = some L) :
  ((d.add e).1 = 0 /\ LUp blk seed bits (c + 1) (d.add e).2 (all ++ [nextL L e])) \/ ((d.add e).1 = 8 /\ LDown blk seed bits c (d.add e).2 all) := by
 obtain ⟨b0,b1,f1,f2,lf,ws,h⟩ := h
 exact l_add h hc he hk (next_alike (h.last hL))
theorem d_add {d : Dk} (hd : d.down = true) {e : Ent} (he : EntOk e) : d.add e = (7,d) := by
 unfold Dk.add
 rw [if_neg (by have := he.1; have := he.2.1; have := he.2.2.1; omega),if_pos hd]
theorem d_flush {d : Dk} (hd : d.down = true) : d.flush = (7,d) := by
 unfold Dk.flush
 rw [if_pos hd]
theorem d_build {d : Dk} (hd : d.down = true) : d.build = (7,d) := by
 unfold Dk.build
 rw [if_pos hd]
theorem d_fail {d : Dk} (hd : d.down = true) (s k : Nat) : d.fail s k = (7,d) := by
 unfold Dk.fail
 rw [if_neg (by omega),if_pos hd]
theorem la_flush_any (E : Sent) (n : Nat) (G : Nat -> Prop) (bx blk seed bits c : Nat) (d : Dk) (va : Value) (all : List (List Sd)) (up : Bool) (L : List Sd) (w : World) (h : LaAt E n G bx d va all w) (hok : DkOk d) (hs : LSt blk seed bits c d all up) (hc : c <= 400) (hL : all[all.length - 1]? = some L) :
  Calls Tryz.prog 17 #[.pointer (some ⟨bx,0,none⟩)] w fun e w' => ∃ (r : Int) (G' : Nat -> Prop) (d' : Dk),e = .returned (.int .i64 r) /\ Below n w w' /\ LaAt E n G' bx d' va all w' /\ DkOk d' /\ ((up = true /\ r = 0 /\ LUp blk seed bits c d' [L]) \/ (up = true /\ r = 8 /\ LDown blk seed bits c d' all) \/ (up = false /\ r = 7 /\ LDown blk seed bits c d' all)) := by
 obtain ⟨q,hq⟩ := h.st
 refine (flush_any E n G bx d q w h.env h.gs hq hok).mono ?_
 rintro e w' ⟨rfl,hd⟩
 obtain ⟨k1,k2⟩ := h.store hd
 refine ⟨_,_,_,rfl,k2,k1,hok.flush,?_⟩
 rcases hs with ⟨rfl,hu⟩ | ⟨rfl,hu⟩
 ·rcases l_flush hu hc hL with ⟨e1,h1⟩ | ⟨e1,h1⟩
  ·exact .inl ⟨rfl,e1,h1⟩
  ·exact .inr (.inl ⟨rfl,e1,h1⟩)
 ·have e1 := d_flush hu.down
  exact .inr (.inr ⟨rfl,by rw [e1],by rw [e1]; exact hu⟩)
theorem la_build_any (E : Sent) (n : Nat) (G : Nat -> Prop) (bx blk seed bits c : Nat) (d : Dk) (va : Value) (all : List (List Sd)) (up : Bool) (w : World) (h : LaAt E n G bx d va all w) (hok : DkOk d) (hs : LSt blk seed bits c d all up) (hc : c <= 400) :
  Calls Tryz.prog 27 #[.pointer (some ⟨bx,0,none⟩)] w fun e w' => ∃ (r : Int) (G' : Nat -> Prop) (d' : Dk),e = .returned (.int .i64 r) /\ Below n w w' /\ LaAt E n G' bx d' va all w' /\ DkOk d' /\ ((up = true /\ r = 0 /\ LUp blk seed bits c d' all) \/ (up = true /\ r = 8 /\ LDown blk seed bits c d' all) \/ (up = false /\ r = 7 /\ LDown blk seed bits c d' all)) := by
 obtain ⟨q,hq⟩ := h.st
 refine (build_any E n G bx d q w h.env h.gs hq hok).mono ?_
 rintro e w' ⟨rfl,hd⟩
 obtain ⟨k1,k2⟩ := h.store hd
 refine ⟨_,_,_,rfl,k2,k1,hok.build,?_⟩
 rcases hs with ⟨rfl,hu⟩ | ⟨rfl,hu⟩
 ·rcases l_build hu hc with ⟨e1,h1⟩ | ⟨e1,h1⟩
  ·exact .inl ⟨rfl,e1,h1⟩
  ·exact .inr (.inl ⟨rfl,e1,h1⟩)
 ·have e1 := d_build hu.down
  exact .inr (.inr ⟨rfl,by rw [e1],by rw [e1]; exact hu⟩)
theorem la_fail_any (E : Sent) (n : Nat) (G : Nat -> Prop) (bx blk seed bits c : Nat) (d : Dk) (va : Value) (all : List (List Sd)) (up : Bool) (s k : Nat) (w : World) (h : LaAt E n G bx d va all w) (hok : DkOk d) (hs : LSt blk seed bits c d all up) (h1 : s <= 1000) (h2 : k <= 1000) :
  Calls Tryz.prog 28 #[.pointer (some ⟨bx,0,none⟩),.int .i64 (s : Int),.int .i64 (k : Int)] w fun e w' => ∃ (r : Int) (G' : Nat -> Prop) (d' : Dk),e = .returned (.int .i64 r) /\ Below n w w' /\ LaAt E n G' bx d' va all w' /\ DkOk d' /\ Chg G w w' /\ ((up = true /\ r = 0 /\ s = 0 /\ LDown blk seed bits c d' all) \/ (up = true /\ r = 0 /\ s ≠ 0 /\ LUp blk seed bits c d' all) \/ (up = false /\ r = 7 /\ LDown blk seed bits c d' all)) := by
 obtain ⟨q,hq⟩ := h.st
 refine (sfail_any E n G bx d q s k w h.env h.gs hq hok (by omega) (by omega)).mono ?_
 rintro e w' ⟨rfl,hd⟩
 obtain ⟨k1,k2⟩ := h.store hd
 refine ⟨_,_,_,rfl,k2,k1,hok.fail s k,hd.2,?_⟩
 rcases hs with ⟨rfl,hu⟩ | ⟨rfl,hu⟩
 ·obtain ⟨e1,h1 | h1⟩ := l_fail hu s k
  ·exact .inl ⟨rfl,e1,h1.1,h1.2⟩
  ·exact .inr (.inl ⟨rfl,e1,h1.1,h1.2⟩)
 ·have e1 := d_fail hu.down s k
  exact .inr (.inr ⟨rfl,by rw [e1],by rw [e1]; exact hu⟩)
def LaNext (E : Sent) (n : Nat) (bx blk seed bits c : Nat) (va : Value) (all : List (List Sd)) (up : Bool) (p : Nat) (L' : List Sd) (w : World) (e : Ending) (w' : World) : Prop :=
 ∃ (r : Int) (G' : Nat -> Prop) (d' : Dk),e = .returned (.int .i64 r) /\ Below n w w' /\ LaAt E n G' bx d' va all w' /\ OneAt w' n G' p L' /\ DkOk d' /\ ((up = true /\ r = 0 /\ LUp blk seed bits (c + 1) d' (all ++ [L'])) \/ (up = true /\ r = 8 /\ LDown blk seed bits (c + 1) d' all) \/ (up = false /\ r = 7 /\ LDown blk seed bits (c + 1) d' all))
theorem la_next {E : Sent} {n : Nat} {G : Nat -> Prop} {bx blk seed bits c : Nat} {d : Dk} {va : Value} {all : List (List Sd)} {up : Bool} {p : Nat} {L : List Sd} {en : Ent} {w w' : World} (h : LaAt E n G bx d va all w) (hok : DkOk d) (hs : LSt blk seed bits c d all up) (hc : c <= 400) (hL : all[all.length - 1]? = some L) (he : EntOk en) (hk : ∃ i,i < 60 /\ en.key = keyK i) (ho : OneAt w n G p (nextL L en)) (hd : Done E G bx w (d.add en).2 w') :
  LaNext E n bx blk seed bits c va all up p (nextL L en) w (.returned (.int .i64 (d.add en).1)) w' := by
 obtain ⟨k1,k2⟩ := h.store hd
 refine ⟨_,_,_,rfl,k2,k1,ho.store hd.2,hok.add he.2.2.2,?_⟩
 rcases hs with ⟨rfl,hu⟩ | ⟨rfl,hu⟩
 ·rcases l_add2 hu hc he hk hL with ⟨e1,h1⟩ | ⟨e1,h1⟩
  ·exact .inl ⟨rfl,e1,h1⟩
  ·exact .inr (.inl ⟨rfl,e1,h1.more (Nat.le_succ _)⟩)
 ·have e1 := d_add hu.down he
  exact .inr (.inr ⟨rfl,by rw [e1],by rw [e1]; exact hu.more (Nat.le_succ _)⟩)
theorem la_put_any (E : Sent) (n : Nat) (G : Nat -> Prop) (bx blk seed bits c : Nat) (d : Dk) (va : Value) (all : List (List Sd)) (up : Bool) (p : Nat) (L : List Sd) (key val : List UInt8) (w : World) (h : LaAt E n G bx d va all w) (hok : DkOk d) (hs : LSt blk seed bits c d all up) (hc : c <= 400) (hL : all[all.length - 1]? = some L) (he : EntOk ⟨true,key,val⟩) (hk : ∃ i,i < 60 /\ key = keyK i) (ho : OneAt w n G p (nextL L ⟨true,key,val⟩)) :
  Calls Tryz.prog 26 #[.pointer (some ⟨bx,0,none⟩),.string (S key),.string (S val)] w fun e w' => LaNext E n bx blk seed bits c va all up p (nextL L ⟨true,key,val⟩) w e w' := by
 obtain ⟨q,hq⟩ := h.st
 refine (putS_any E n G bx d q key val w h.env h.gs hq hok).mono ?_
 rintro e w' ⟨rfl,hd⟩
 exact la_next h hok hs hc hL he hk ho hd
theorem la_del_any (E : Sent) (n : Nat) (G : Nat -> Prop) (bx blk seed bits c : Nat) (d : Dk) (va : Value) (all : List (List Sd)) (up : Bool) (p : Nat) (L : List Sd) (key : List UInt8) (w : World) (h : LaAt E n G bx d va all w) (hok : DkOk d) (hs : LSt blk seed bits c d all up) (hc : c <= 400) (hL : all[all.length - 1]? = some L) (he : EntOk ⟨false,key,[]⟩) (hk : ∃ i,i < 60 /\ key = keyK i) (ho : OneAt w n G p (nextL L ⟨false,key,[]⟩)) :
  Calls Tryz.prog 24 #[.pointer (some ⟨bx,0,none⟩),.string (S key)] w fun e w' => LaNext E n bx blk seed bits c va all up p (nextL L ⟨false,key,[]⟩) w e w' := by
 obtain ⟨q,hq⟩ := h.st
 refine (delS_any E n G bx d q key w h.env h.gs hq hok).mono ?_
 rintro e w' ⟨rfl,hd⟩
 exact la_next h hok hs hc hL he hk ho hd
structure MendedAt (blk seed bits c : Nat) (d : Dk) (all : List (List Sd)) (bs : List (List Ent)) (f1 f2 : Option Fl) : Prop where
 eq : d = ldk blk seed bits bs (headL blk seed bits ++ blocksB bs).length f1 f2 none []
 ok : KOk blk seed bits bs f2 [] c
 new : lenF f1 <= 26000
 said : ∃ L ∈ all,L.map kv = (heldS bs.flatten).map kv
 idx : ∀ g,f2 = some g -> indexS (headL blk seed bits ++ blocksB bs) = some g.text
 keys : KeysOk bs.flatten
theorem MendedAt.up {blk seed bits c : Nat} {d : Dk} {all : List (List Sd)} {bs : List (List Ent)} {f1 f2 : Option Fl} (h : MendedAt blk seed bits c d all bs f1 f2) {L : List Sd} (hL : L.map kv = (heldS bs.flatten).map kv) : LUp blk seed bits c d [L] := by
 refine ⟨bs,[],f1,f2,none,[],by rw [List.append_nil]; exact h.eq,by rw [List.append_nil]; exact h.ok,h.new,by simp,fun j L' hj => ?_,by simpa using h.keys⟩
 cases j with
 | zero =>
  have e : L = L' := by simpa using hj
  rw [<- e,hL]
  simp
 | succ j => simp at hj
theorem l_mended {blk seed bits c : Nat} {d : Dk} {all : List (List Sd)} (h : LDown blk seed bits c d all) : ∃ bs f1 f2 d',d.start.2.mend = (0,d') /\ MendedAt blk seed bits c d' all bs f1 f2 := by
 obtain ⟨_,bs,f1,f2,e,h1,h2,h3,h4,h5⟩ := l_mend h
 exact ⟨bs,f1,f2,_,e,rfl,h1,h2,h3,h4,h5⟩
def sdT (t : Tl) : Sd := ⟨true,t.key,t.val,0,0⟩
theorem told_none {l : List Sd} {j : Nat} (h : findKv (keyK j) (liveL l) = none) : toldL l (j + 1) = toldL l j := by
 rw [toldL,h]; simp
theorem told_some {l : List Sd} {j : Nat} {v : List UInt8} (h : findKv (keyK j) (liveL l) = some v) : toldL l (j + 1) = toldL l j ++ [⟨keyK j,v,lastL (keyK j) l⟩] := by
 rw [toldL,h]
theorem told_len (l : List Sd) (n : Nat) : (toldL l n).length <= n := by
 induction n with
 | zero => simp [toldL]
 | succ n ih =>
  rw [toldL,List.length_append]
  split <;> simp <;> omega
theorem l_get {blk seed bits : Nat} {bs : List (List Ent)} {sy : Nat} {f1 f2 : Option Fl} {lf : Option (Nat × Nat)} {ws : List Ent} {ix : List UInt8} (hix : indexS (headL blk seed bits ++ blocksB bs) = some ix) (hf2 : ∀ g,f2 = some g -> indexS (headL blk seed bits ++ blocksB bs) = some g.text) (k : List UInt8) :
  (ldk blk seed bits bs sy f1 f2 lf ws).get k = if f2.isSome = true then ((lookS (headL blk seed bits ++ blocksB bs) ix k).val,(lookS (headL blk seed bits ++ blocksB bs) ix k).err) else ([],2) := by
 unfold Dk.get
 rw [if_neg (by show ¬ false = true; simp)]
 cases f2 with
 | none => rfl
 | some g =>
  have h := hf2 g rfl
  rw [hix] at h
  injection h with h
  subst h
  rfl
theorem TlAt.setA' {w0 w : World} {bh N : Nat} {L : List Sd} {A : List Int} {v : Value} {ga cp : Nat} (hN : A.length = N) (h : TlAt w0 w bh L A v (.slice (some ⟨ga,0,none⟩) N cp)) (j : Nat) (x : Int) : TlAt w0 (w.setCell ⟨ga,j,none⟩ (.int .i64 x)) bh L (A.set j x) v (.slice (some ⟨ga,0,none⟩) N cp) := by
 subst hN
 exact h.setA j x
theorem TlAt.setL' {w0 w : World} {bh N : Nat} {L : List Sd} {A : List Int} {va : Value} {gl cp : Nat} (hN : L.length = N) (h : TlAt w0 w bh L A (.slice (some ⟨gl,0,none⟩) N cp) va) (j : Nat) (x : Sd) : TlAt w0 ((w.setCell ⟨gl,j * 2,none⟩ (.string (S x.key))).setCell ⟨gl,j * 2 + 1,none⟩ (.string (S x.val))) bh (L.set j x) A (.slice (some ⟨gl,0,none⟩) N cp) va := by
 subst hN
 exact h.setL j x
theorem TlAt.swap {w0 w : World} {bh N : Nat} {Z : List Tl} {ga ca gl cl : Nat} (hN : Z.length = N) (h : TlAt w0 w bh (Z.map sdT) (Z.map Tl.at') (.slice (some ⟨gl,0,none⟩) N cl) (.slice (some ⟨ga,0,none⟩) N ca)) (i k : Nat) (xi xk : Tl) (hi : Z.getD i tl0 = xi) (hk : Z.getD k tl0 = xk) :
  TlAt w0 ((((((w.setCell ⟨ga,i,none⟩ (.int .i64 xk.at')).setCell ⟨ga,k,none⟩ (.int .i64 xi.at')).setCell ⟨gl,i * 2,none⟩ (.string (S xk.key))).setCell ⟨gl,i * 2 + 1,none⟩ (.string (S xk.val))).setCell ⟨gl,k * 2,none⟩ (.string (S xi.key))).setCell ⟨gl,k * 2 + 1,none⟩ (.string (S xi.val))) bh ((swapT Z i k).map sdT) ((swapT Z i k).map Tl.at') (.slice (some ⟨gl,0,none⟩) N cl) (.slice (some ⟨ga,0,none⟩) N ca) := by
 subst hi
 subst hk
 have h1 := h.setA' (by simp [hN]) i (Z.getD k tl0).at'
 have h2 := h1.setA' (by simp [hN]) k (Z.getD i tl0).at'
 have h3 := h2.setL' (by simp [hN]) i (sdT (Z.getD k tl0))
 have h4 := h3.setL' (by simp [hN]) k (sdT (Z.getD i tl0))
 unfold swapT
 rw [List.map_set,List.map_set,List.map_set,List.map_set]
 exact h4
theorem getD_get {Z : List Tl} {j : Nat} (h : j < Z.length) : Z.getD j tl0 = Z[j] := by rw [List.getD_eq_getElem?_getD,List.getElem?_eq_getElem h]; rfl
theorem TlAt.cells {w0 w : World} {bh N : Nat} {Z : List Tl} {v va : Value} (hN : Z.length = N) (h0 : 0 < N) (h : TlAt w0 w bh (Z.map sdT) (Z.map Tl.at') v va) :
  ∃ gl cl ga ca,v = .slice (some ⟨gl,0,none⟩) N cl /\ va = .slice (some ⟨ga,0,none⟩) N ca /\ gl ≠ ga /\ gl ≠ bh /\ ga ≠ bh /\ (∀ j,w.frozen? ⟨gl,j,none⟩ = false) /\ (∀ j,w.frozen? ⟨ga,j,none⟩ = false) /\
   ∀ j,j < N -> w.cell? ⟨ga,j,none⟩ = some (.int .i64 (Z.getD j tl0).at') /\ w.cell? ⟨gl,j * 2,none⟩ = some (.string (S (Z.getD j tl0).key)) /\ w.cell? ⟨gl,j * 2 + 1,none⟩ = some (.string (S (Z.getD j tl0).val)) := by
 subst hN
 have hr1 := h.held.row
 have hr2 := h.row
 obtain ⟨gl,cl,e1,_,_,c1⟩ := own_cellsN hr1 (by simp; omega)
 obtain ⟨ga,ca,e2,_,_,c2⟩ := own_cellsN hr2 (by simp; omega)
 subst e1
 subst e2
 have n1 := ne_row hr1 hr2 (by decide) gl rfl
 have n2 := ne_bx h.held.box hr1 (by decide)
 have n3 := ne_bx h.held.box hr2 (by decide)
 refine ⟨gl,cl,ga,ca,by simp,by simp,fun e => n1 (by rw [e]; rfl),fun e => n2 (by rw [e]; rfl),fun e => n3 (by rw [e]; rfl),hr1.frozenAt,hr2.frozenAt,fun j hj => ?_⟩
 rw [getD_get hj]
 have i1 := item_at c1 (show j < (Z.map sdT).length by simpa using hj)
 rw [List.getElem_map] at i1
 refine ⟨?_,i1.1,i1.2⟩
 rw [c2 j (by simp; omega)]
 unfold cellsN
 rw [List.getElem?_map,List.getElem?_map,List.getElem?_eq_getElem hj]
 rfl
theorem TlAt.items {w0 w : World} {bh N gl cl : Nat} {L : List Sd} {A : List Int} {va : Value} (hN : L.length = N) (h : TlAt w0 w bh L A (.slice (some ⟨gl,0,none⟩) N cl) va) :
  w.cell? ⟨bh,0,none⟩ = some (.slice (some ⟨gl,0,none⟩) N cl) /\ (∀ j,w.frozen? ⟨gl,j,none⟩ = false) /\ ∀ j x,L[j]? = some x -> w.cell? ⟨gl,j * 2,none⟩ = some (.string (S x.key)) /\ w.cell? ⟨gl,j * 2 + 1,none⟩ = some (.string (S x.val)) := by
 subst hN
 have hr := h.held.row
 refine ⟨h.held.box.cell (j := 0) rfl,hr.frozenAt,fun j x hx => ?_⟩
 have hj := (List.getElem?_eq_some_iff.1 hx).1
 obtain ⟨g',c',e1,_,_,c1⟩ := own_cellsN hr (by omega)
 injection e1 with e1
 injection e1 with e1
 injection e1 with e1
 subst e1
 have i1 := item_at c1 hj
 rw [List.getElem?_eq_getElem hj] at hx
 injection hx with hx
 rw [<- hx]
 exact i1
theorem ktold_any (E : Sent) (n : Nat) (G : Nat -> Prop) (bx blk seed bits : Nat) (bs : List (List Ent)) (sy : Nat) (f1 f2 : Option Fl) (lf : Option (Nat × Nat)) (c : Nat) (w : World) (hE : Env0 n w E) (hS : ∃ q,StoreAt w G bx (ldk blk seed bits bs sy f1 f2 lf []) q)
  (hok : DkOk (ldk blk seed bits bs sy f1 f2 lf [])) (hK : KOk blk seed bits bs f2 [] c) (hc : c <= 400) (hf2 : ∀ g,f2 = some g -> indexS (headL blk seed bits ++ blocksB bs) = some g.text) (hkeys : KeysOk bs.flatten) :
  Calls Tryz.prog 31 #[.pointer (some ⟨bx,0,none⟩)] w fun e w' => ∃ bh L v,e = .returned (.pointer (some ⟨bh,0,none⟩)) /\ HeldAt w' w.heap.size bh L v /\ w.heap.size <= bh /\ L.map kv = (heldS bs.flatten).map kv /\ L.length <= 60 /\ Below w.heap.size w w' := by
 obtain ⟨ix,hix,hil,hi24⟩ := k_index hK (by omega)
 have htl := hK.text
 have hal : ∀ k,findKv k (liveL (plB 14 bs)) = findKv k (heldS bs.flatten) := fun k => find_alike (pl_alike bs)
 have HST : Hid (∀ wx : World,Below w.heap.size w wx -> Env0 n wx E /\ ∃ q,StoreAt wx G bx (ldk blk seed bits bs sy f1 f2 lf []) q) := fun wx hb => by
  obtain ⟨q,hq⟩ := hS
  exact ⟨hE.below (hb.mono hE.le),q,hq.below hb⟩
 have HFI : Hid (Calls Tryz.prog 19 #[.pointer (some ⟨bx,0,none⟩),.string ⟨#[108,111,103]⟩] w fun e w' => e = .returned (.tuple #[.string (S (headL blk seed bits ++ blocksB bs)),.int .i64 0]) /\ Below w.heap.size w w') := by
  obtain ⟨q,hq⟩ := hS
  exact fileS_any E n G bx _ q ⟨#[108,111,103]⟩ w hE hq (by decide)
 have HIN : Hid (∀ wx : World,Below w.heap.size w wx -> Calls Tryz.prog 20 #[.string (S (headL blk seed bits ++ blocksB bs))] wx fun e w' => e = .returned (.tuple #[.string (S ix),.int .i64 0]) /\ Below wx.heap.size wx w') := fun wx hb => by
  refine (progIndex_any (S (headL blk seed bits ++ blocksB bs)) wx (by rw [S_size]; omega) (HST.out wx hb).1.env.halves).mono ?_
  rw [show (S (headL blk seed bits ++ blocksB bs)).data.toList = headL blk seed bits ++ blocksB bs from rfl,hix]
  exact fun e w' h => h
 have HLO : Hid (∀ (k : List UInt8) (wx : World),k.length <= 100 -> Below w.heap.size w wx -> Calls Tryz.prog 47 #[.string (S (headL blk seed bits ++ blocksB bs)),.string (S ix),.string (S k)] wx fun e w' => ∃ m : Nat,e = .returned (.tuple #[.string (S ((findKv k (liveL (plB 14 bs))).getD [])),.int .i64 (m : Int),.int .i64 (codeK (findKv k (liveL (plB 14 bs))))]) /\ Below wx.heap.size wx w') := fun k wx hkl hb => by
  refine (progLook_any (S (headL blk seed bits ++ blocksB bs)) (S ix) (S k) wx (by rw [S_size]; omega) (by rw [S_size]; omega) (by rw [S_size]; omega) (HST.out wx hb).1.env.halves).mono ?_
  obtain ⟨m,he,h1,h2⟩ := k_look hK hix k
  rw [show (S (headL blk seed bits ++ blocksB bs)).data.toList = headL blk seed bits ++ blocksB bs from rfl,show (S ix).data.toList = ix from rfl,show (S k).data.toList = k from rfl,he,hal]
  rintro e w' ⟨rfl,hb⟩
  exact ⟨m,rfl,hb⟩
 have HGE : Hid (∀ (k : List UInt8) (wx : World),k.length <= 100 -> Below w.heap.size w wx -> Calls Tryz.prog 46 #[.pointer (some ⟨bx,0,none⟩),.string (S k)] wx fun e w' => e = .returned (if f2.isSome = true then (.tuple #[.string (S ((findKv k (liveL (plB 14 bs))).getD [])),.int .i64 (codeK (findKv k (liveL (plB 14 bs))))]) else (.tuple #[.string (S []),.int .i64 2])) /\ Below wx.heap.size wx w') := fun k wx hkl hb => by
  obtain ⟨he,q,hq⟩ := HST.out wx hb
  refine (get_any E n G bx _ q (S k) wx he hq hok (by rw [S_size]; omega)).mono ?_
  obtain ⟨m,hlk,_,_⟩ := k_look hK hix k
  rw [show (S k).data.toList = k from rfl,l_get hix hf2,hlk,hal]
  rintro e w' ⟨rfl,hb⟩
  refine ⟨?_,hb⟩
  by_cases h : f2.isSome = true
  ·rw [if_pos h,if_pos h]
  ·rw [if_neg h,if_neg h]
 have HLA : Hid (∀ (k : List UInt8) (wx : World),k.length <= 100 -> Calls Tryz.prog 60 #[.string (S (headL blk seed bits ++ blocksB bs)),.string (S k)] wx fun e w' => e = .returned (.int .i64 (lastL k (plB 14 bs))) /\ Below wx.heap.size wx w') := fun k wx hkl => klast_any blk seed bits bs k wx hK.hbs (by omega) hkl
 have HEL : Hid (∀ Z,List.Perm Z (toldL (plB 14 bs) 60) -> Z.Pairwise (fun s t => s.at' <= t.at') -> Z.map (fun t => (t.key,t.val)) = (heldS bs.flatten).map kv) := fun Z h1 h2 => told_held hkeys h1 h2
 generalize headL blk seed bits ++ blocksB bs = T at *
 generalize plB 14 bs = l at *
 generalize (heldS bs.flatten).map kv = H at *
 clear hal hix hf2 hK hok hS hkeys hE
 go_enter Tryz.func31,Tryz.ntmps31
 go_wp2_with (first | (go_at_call 19; refine HFI.out.mono ?_; rintro e w1 ⟨rfl,hb1⟩; have HB1 : Hid (Below w.heap.size w w1) := hb1; clear hb1) | (go_at_call 20; refine (HIN.out w1 HB1.out).mono ?_; rintro e w2 ⟨rfl,hb2⟩; have HB2 : Hid (Below w.heap.size w w2) := HB1.out.trans (hb2.mono HB1.out.size); clear hb2))
 have HT0 : Hid (TlAt w (w2.alloc (.cells #[.slice none 0 0] 34)) w2.heap.size [] [] (.slice none 0 0) (.slice none 0 0)) := TlAt.new HB2.out
 go_loopw [8,9] (fun va i wr => ∃ (j : Nat) (v : Value),j <= 60 /\ i = .int .i64 j /\ TlAt w wr w2.heap.size ((toldL l j).map sdT) ((toldL l j).map Tl.at') v va) (fun _ i _ => 60 - (intOf i).toNat)
 case atStart => exact ⟨0,_,by omega,rfl,HT0.out⟩
 case round =>
  obtain ⟨j,v,hj,rfl,ht⟩ := hrel
  have HT : Hid _ := ht
  by_cases hlt : j < 60
  ·have HDG : Hid (∀ wx : World,Calls Tryz.prog 44 #[.int .i64 (j : Int)] wx fun e w' => e = .returned (.string (S (digitsK j))) /\ Below wx.heap.size wx w') := fun wx => digits_any j wx (by omega)
   have ek : S (keyK j) = ⟨#[107]⟩ ++ S (digitsK j) := by rw [show (⟨#[107]⟩ : ByteArray) = S [107] from rfl,S_append]; rfl
   have kl : (keyK j).length <= 100 := by
    have := digitsK_len j
    unfold keyK
    simp
    omega
   have HLOk : Hid (∀ wx : World,Below w.heap.size w wx -> Calls Tryz.prog 47 #[.string (S T),.string (S ix),.string (⟨#[107]⟩ ++ S (digitsK j))] wx fun e w' => ∃ m : Nat,e = .returned (.tuple #[.string (S ((findKv (keyK j) (liveL l)).getD [])),.int .i64 (m : Int),.int .i64 (codeK (findKv (keyK j) (liveL l)))]) /\ Below wx.heap.size wx w') := fun wx hb => by rw [<- ek]; exact HLO.out (keyK j) wx kl hb
   have HGEk : Hid (∀ wx : World,Below w.heap.size w wx -> Calls Tryz.prog 46 #[.pointer (some ⟨bx,0,none⟩),.string (⟨#[107]⟩ ++ S (digitsK j))] wx fun e w' => e = .returned (if f2.isSome = true then (.tuple #[.string (S ((findKv (keyK j) (liveL l)).getD [])),.int .i64 (codeK (findKv (keyK j) (liveL l)))]) else (.tuple #[.string (S []),.int .i64 2])) /\ Below wx.heap.size wx w') := fun wx hb => by rw [<- ek]; exact HGE.out (keyK j) wx kl hb
   have HLAk : Hid (∀ wx : World,Calls Tryz.prog 60 #[.string (S T),.string (⟨#[107]⟩ ++ S (digitsK j))] wx fun e w' => e = .returned (.int .i64 (lastL (keyK j) l)) /\ Below wx.heap.size wx w') := fun wx => by rw [<- ek]; exact HLA.out (keyK j) wx kl
   have zd : (S (digitsK j)).size <= 2 := by rw [S_size]; exact (digitsK_len j).2
   have hl60 := told_len l j
   cases ho : findKv (keyK j) (liveL l) with
   | none =>
    have HN : Hid (toldL l (j + 1) = toldL l j) := told_none ho
    rw [ho] at HLOk HGEk
    have HGE2 : Hid (∀ wx : World,Below w.heap.size w wx -> Calls Tryz.prog 46 #[.pointer (some ⟨bx,0,none⟩),.string (⟨#[107]⟩ ++ S (digitsK j))] wx fun e w' => e = .returned (.tuple #[.string (S []),.int .i64 2]) /\ Below wx.heap.size wx w') := fun wx hb => by
     refine (HGEk.out wx hb).mono ?_
     rintro e w' ⟨rfl,h⟩
     refine ⟨?_,h⟩
     split <;> rfl
    have HLO2 : Hid (∀ wx : World,Below w.heap.size w wx -> Calls Tryz.prog 47 #[.string (S T),.string (S ix),.string (⟨#[107]⟩ ++ S (digitsK j))] wx fun e w' => ∃ m : Nat,e = .returned (.tuple #[.string (S []),.int .i64 (m : Int),.int .i64 2]) /\ Below wx.heap.size wx w') := HLOk.out
    clear HGEk HLOk HLAk ek kl ho ht
    generalize S (digitsK j) = D at *
    generalize S [] = V at *
    go_wp2_with (first | (go_at_call 44; refine (HDG.out _).mono ?_; rintro e w5 ⟨rfl,hb5⟩; have HT5 : Hid (TlAt w w5 w2.heap.size ((toldL l j).map sdT) ((toldL l j).map Tl.at') v u8) := HT.out.below hb5; have HB5 : Hid (Below w.heap.size w w5) := HT5.out.bl; clear hb5) | (go_at_call 47; refine (HLO2.out w5 HB5.out).mono ?_; rintro e w6 ⟨m,rfl,hb6⟩; have HT6 : Hid (TlAt w w6 w2.heap.size ((toldL l j).map sdT) ((toldL l j).map Tl.at') v u8) := HT5.out.below hb6; have HB6 : Hid (Below w.heap.size w w6) := HT6.out.bl; clear hb6) | (go_at_call 46; refine (HGE2.out w6 HB6.out).mono ?_; rintro e w7 ⟨rfl,hb7⟩; have HT7 : Hid (TlAt w w7 w2.heap.size ((toldL l j).map sdT) ((toldL l j).map Tl.at') v u8) := HT6.out.below hb7; clear hb7))
    go_roundw
    case rel => exact ⟨j + 1,v,by omega,by go_num,by rw [HN.out]; exact HT7.out⟩
    case measure => simp [intOf]; omega
   | some vv =>
    have HN : Hid (toldL l (j + 1) = toldL l j ++ [⟨keyK j,vv,lastL (keyK j) l⟩]) := told_some ho
    rw [ho] at HLOk HGEk
    have HLO2 : Hid (∀ wx : World,Below w.heap.size w wx -> Calls Tryz.prog 47 #[.string (S T),.string (S ix),.string (⟨#[107]⟩ ++ S (digitsK j))] wx fun e w' => ∃ m : Nat,e = .returned (.tuple #[.string (S vv),.int .i64 (m : Int),.int .i64 0]) /\ Below wx.heap.size wx w') := HLOk.out
    have HGE2 : Hid (∃ (u : ByteArray) (p : Int),(p = 0 /\ S vv = u \/ p = 2) /\ ∀ wx : World,Below w.heap.size w wx -> Calls Tryz.prog 46 #[.pointer (some ⟨bx,0,none⟩),.string (⟨#[107]⟩ ++ S (digitsK j))] wx fun e w' => e = .returned (.tuple #[.string u,.int .i64 p]) /\ Below wx.heap.size wx w') := by
     by_cases h : f2.isSome = true
     ·refine ⟨S vv,0,.inl ⟨rfl,rfl⟩,fun wx hb => (HGEk.out wx hb).mono ?_⟩
      rintro e w' ⟨rfl,h'⟩
      rw [if_pos h]
      exact ⟨rfl,h'⟩
     ·refine ⟨S [],2,.inr rfl,fun wx hb => (HGEk.out wx hb).mono ?_⟩
      rintro e w' ⟨rfl,h'⟩
      rw [if_neg h]
      exact ⟨rfl,h'⟩
    obtain ⟨gu,gp,hgp,hge⟩ := HGE2.out
    have HGE3 : Hid (∀ wx : World,Below w.heap.size w wx -> Calls Tryz.prog 46 #[.pointer (some ⟨bx,0,none⟩),.string (⟨#[107]⟩ ++ S (digitsK j))] wx fun e w' => e = .returned (.tuple #[.string gu,.int .i64 gp]) /\ Below wx.heap.size wx w') := hge
    have HEK : Hid (S (keyK j) = ⟨#[107]⟩ ++ S (digitsK j)) := ek
    clear HGEk HLOk HGE2 kl ho ht hge ek
    generalize S (digitsK j) = D at *
    have HVV : Hid (S vv = S vv) := rfl
    generalize hV : S vv = V at *
    have HV : Hid (S vv = V) := hV
    clear hV HVV
    have hcv : (V.toList == V.toList) = true := by simp
    obtain ⟨Lj,hLj⟩ : ∃ Lj,Lj = (toldL l j).map sdT := ⟨_,rfl⟩
    obtain ⟨Aj,hAj⟩ : ∃ Aj,Aj = (toldL l j).map Tl.at' := ⟨_,rfl⟩
    rw [<- hLj,<- hAj] at HT
    have hLl : Lj.length <= 60 := by rw [hLj,List.length_map]; omega
    have hAl : Aj.length <= 60 := by rw [hAj,List.length_map]; omega
    have HLj : Hid (Lj = (toldL l j).map sdT) := hLj
    have HAj : Hid (Aj = (toldL l j).map Tl.at') := hAj
    clear hLj hAj
    rcases hgp with ⟨rfl,rfl⟩ | rfl
    all_goals
     go_wp2_with (first | (go_at_call 44; refine (HDG.out _).mono ?_; rintro e w5 ⟨rfl,hb5⟩; have HT5 : Hid (TlAt w w5 w2.heap.size Lj Aj v u8) := HT.out.below hb5; have HB5 : Hid (Below w.heap.size w w5) := HT5.out.bl; clear hb5) | (go_at_call 47; refine (HLO2.out w5 HB5.out).mono ?_; rintro e w6 ⟨m,rfl,hb6⟩; have HT6 : Hid (TlAt w w6 w2.heap.size Lj Aj v u8) := HT5.out.below hb6; have HB6 : Hid (Below w.heap.size w w6) := HT6.out.bl; clear hb6) | (go_at_call 46; refine (HGE3.out w6 HB6.out).mono ?_; rintro e w7 ⟨rfl,hb7⟩; have HT7 : Hid (TlAt w w7 w2.heap.size Lj Aj v u8) := HT6.out.below hb7; have c7 : w7.cell? ⟨w2.heap.size,0,none⟩ = some v := HT7.out.held.box.cell (j := 0) rfl; have hz7 : w2.heap.size < w7.heap.size := HT7.out.held.box.lt; obtain ⟨g8,cp8,X8,hrun,cX,fX,htX⟩ := HT7.out.pushL ⟨true,keyK j,vv,0,0⟩ (by omega); rw [HEK.out,HV.out] at hrun; have HRUN : Hid _ := hrun; have HT8 : Hid (TlAt w (X8.setCell ⟨w2.heap.size,0,none⟩ (.slice (some ⟨g8,0,none⟩) (Lj.length + 1) cp8)) w2.heap.size (Lj ++ [⟨true,keyK j,vv,0,0⟩]) Aj (.slice (some ⟨g8,0,none⟩) (Lj.length + 1) cp8) u8) := htX; obtain ⟨av,acp,hve⟩ := own_len HT7.out.held.row; subst hve; clear hb7 hrun htX) | (at_builtin; refine wp_append_run rfl (.tmp 96) (.tmp 100) 32 32 rfl rfl rfl HRUN.out ?_))
     refine (HLAk.out _).mono ?_
     rintro e w9 ⟨rfl,hb9⟩
     obtain ⟨g9,cp9,X9,hrun9,ht9⟩ := (HT8.out.below hb9).pushA (lastL (keyK j) l) (by omega)
     have HRUN9 : Hid _ := hrun9
     have HT9 : Hid (TlAt w X9 w2.heap.size (Lj ++ [⟨true,keyK j,vv,0,0⟩]) (Aj ++ [lastL (keyK j) l]) (.slice (some ⟨g8,0,none⟩) (Lj.length + 1) cp8) (.slice (some ⟨g9,0,none⟩) (Aj.length + 1) cp9)) := ht9
     clear hb9 hrun9 ht9
     go_wp2_with (first | (at_builtin; refine wp_append_run rfl (.tmp 104) (.tmp 108) 25 25 rfl rfl rfl HRUN9.out ?_))
     go_roundw
     case rel =>
      refine ⟨j + 1,.slice (some ⟨g8,0,none⟩) (Lj.length + 1) cp8,by omega,by go_num,?_⟩
      rw [HN.out,List.map_append,List.map_append,<- HLj.out,<- HAj.out]
      exact HT9.out
     case measure => simp [intOf]; omega
  ·have hje : j = 60 := by omega
   subst hje
   rw [show ((60 : Nat) : Int) = 60 from rfl]
   obtain ⟨Z0,hZ0⟩ : ∃ Z0,Z0 = toldL l 60 := ⟨_,rfl⟩
   rw [<- hZ0] at ht HT HEL
   have hZl : Z0.length <= 60 := by rw [hZ0]; exact told_len l 60
   clear HFI HIN HLO HGE HLA HST HT0 hZ0
   obtain ⟨av,acp,hva⟩ := own_len ht.row
   obtain ⟨N,hNe⟩ : ∃ N,N = Z0.length := ⟨_,rfl⟩
   rw [List.length_map,<- hNe] at hva
   rw [<- hNe] at hZl
   subst hva
   clear ht
   have HNe : Hid (N = Z0.length) := hNe
   clear hNe
   go_wp2_with fail
   go_loopw [16] (fun iv wr => ∃ (i : Nat) (Z : List Tl),iv = .int .i64 (i : Int) /\ i <= N /\ Z.length = N /\ List.Perm Z Z0 /\ OrdTo Z i /\ ∃ v,TlAt w wr w2.heap.size (Z.map sdT) (Z.map Tl.at') v (.slice av N acp)) (fun iv _ => N - (intOf iv).toNat)
   case atStart => exact ⟨0,Z0,rfl,by omega,HNe.out.symm,List.Perm.refl _,OrdTo.begin' _,v,HT.out⟩
   case round =>
    obtain ⟨i,Z,rfl,hiN,hZN,hperm,hord,v1,ht1⟩ := hrel
    have HT1 : Hid (TlAt w wr w2.heap.size (Z.map sdT) (Z.map Tl.at') v1 (.slice av N acp)) := ht1
    have HPZ : Hid (Z.length = N /\ List.Perm Z Z0 /\ OrdTo Z i) := ⟨hZN,hperm,hord⟩
    clear ht1 hperm hord hZN
    by_cases hlt : i < N
    ·go_wp2_with fail
     go_loopw [17] (fun iv wr => ∃ (k : Nat) (Z : List Tl),iv = .int .i64 (k : Int) /\ i < k /\ k <= N /\ Z.length = N /\ List.Perm Z Z0 /\ OrdIn Z i k /\ ∃ v,TlAt w wr w2.heap.size (Z.map sdT) (Z.map Tl.at') v (.slice av N acp)) (fun iv _ => N - (intOf iv).toNat)
     case atStart => exact ⟨i + 1,Z,by go_num,by omega,by omega,HPZ.out.1,HPZ.out.2.1,OrdIn.begin' HPZ.out.2.2,v1,HT1.out⟩
     case round =>
      obtain ⟨k,Z,rfl,hik,hkN,hZN,hperm,hord,v1,ht1⟩ := hrel
      by_cases hkl : k < N
      ·obtain ⟨gl,cl,ga,ca,e1,e2,n1,n2,n3,f1,f2',hcs⟩ := ht1.cells hZN (by omega)
       subst e1
       injection e2 with e2 e3 e4
       subst e2
       subst e4
       clear e3
       obtain ⟨ci,ki,vi⟩ := hcs i hlt
       obtain ⟨ck,kk,vk⟩ := hcs k hkl
       have cb : wr.cell? ⟨w2.heap.size,0,none⟩ = some (.slice (some ⟨gl,0,none⟩) N cl) := ht1.held.box.cell (j := 0) rfl
       have HT1 : Hid (TlAt w wr w2.heap.size (Z.map sdT) (Z.map Tl.at') (.slice (some ⟨gl,0,none⟩) N cl) (.slice (some ⟨ga,0,none⟩) N acp)) := ht1
       have HPZ2 : Hid (Z.length = N /\ List.Perm Z Z0 /\ OrdIn Z i k) := ⟨hZN,hperm,hord⟩
       by_cases hcmp : (Z.getD k tl0).at' < (Z.getD i tl0).at'
       ·have HPS : Hid ((swapT Z i k).length = N /\ List.Perm (swapT Z i k) Z0 /\ OrdIn (swapT Z i k) i (k + 1)) := ⟨by rw [swapT_length,hZN],(swapT_perm (by omega) (by omega)).trans hperm,hord.swap hik (by omega) hcmp⟩
        have HSE : Hid ((swapT Z i k).map Tl.at' = ((Z.map Tl.at').set i (Z.getD k tl0).at').set k (Z.getD i tl0).at' /\ (swapT Z i k).map sdT = ((Z.map sdT).set i (sdT (Z.getD k tl0))).set k (sdT (Z.getD i tl0))) := by
         unfold swapT
         exact ⟨by rw [List.map_set,List.map_set],by rw [List.map_set,List.map_set]⟩
        have HGI : Hid ((Z.map sdT)[i]? = some (sdT (Z.getD i tl0)) /\ (Z.map sdT)[k]? = some (sdT (Z.getD k tl0))) := by
         rw [getD_get (show i < Z.length by omega),getD_get (show k < Z.length by omega),List.getElem?_map,List.getElem?_map,List.getElem?_eq_getElem (show i < Z.length by omega),List.getElem?_eq_getElem (show k < Z.length by omega)]
         exact ⟨rfl,rfl⟩
        have HLN : Hid ((Z.map sdT).length = N /\ (Z.map Tl.at').length = N) := ⟨by rw [List.length_map,hZN],by rw [List.length_map,hZN]⟩
        have f2i := f2' i
        have f2k := f2' k
        have hne : i ≠ k := by omega
        have hne' : k ≠ i := by omega
        generalize swapT Z i k = Z' at *
        generalize Z.getD i tl0 = xi at *
        generalize Z.getD k tl0 = xk at *
        clear ht1 hperm hord hZN hcs f2'
        have hbz : w2.heap.size < wr.heap.size := HT1.out.held.box.lt
        have hglz : gl < wr.heap.size := own_lt HT1.out.held.row gl rfl
        have n1' := n1.symm
        have n2' := n2.symm
        have n3' := n3.symm
        go_wp2_with fail
        go_region
        all_goals
         go_wp2_with fail
         have HTy : Hid (TlAt w (((wr.setCell ⟨ga,i,none⟩ (.int .i64 xk.at')).setCell ⟨ga,k,none⟩ (.int .i64 xi.at')).alloc (.cells #[.string (S xi.key),.string (S xi.val)] 54)).drew w2.heap.size (Z.map sdT) (((Z.map Tl.at').set i xk.at').set k xi.at') (.slice (some ⟨gl,0,none⟩) N cl) (.slice (some ⟨ga,0,none⟩) N acp)) :=
          ((HT1.out.setA' HLN.out.2 i xk.at').setA' (by rw [List.length_set]; exact HLN.out.2) k xi.at').below (((Below.refl _ _).alloc (Nat.le_refl _) _).drew)
         have yb : Bx (((wr.setCell ⟨ga,i,none⟩ (.int .i64 xk.at')).setCell ⟨ga,k,none⟩ (.int .i64 xi.at')).alloc (.cells #[.string (S xi.key),.string (S xi.val)] 54)).drew wr.heap.size #[.string (S xi.key),.string (S xi.val)] 54 := by
          have := bx_new ((wr.setCell ⟨ga,i,none⟩ (.int .i64 xk.at')).setCell ⟨ga,k,none⟩ (.int .i64 xi.at')) #[.string (S xi.key),.string (S xi.val)] 54 rfl
          have e : ((wr.setCell ⟨ga,i,none⟩ (.int .i64 xk.at')).setCell ⟨ga,k,none⟩ (.int .i64 xi.at')).heap.size = wr.heap.size := by simp
          rw [e] at this
          exact this
         have hWz : wr.heap.size < (((wr.setCell ⟨ga,i,none⟩ (.int .i64 xk.at')).setCell ⟨ga,k,none⟩ (.int .i64 xi.at')).alloc (.cells #[.string (S xi.key),.string (S xi.val)] 54)).drew.heap.size := yb.lt
         generalize (((wr.setCell ⟨ga,i,none⟩ (.int .i64 xk.at')).setCell ⟨ga,k,none⟩ (.int .i64 xi.at')).alloc (.cells #[.string (S xi.key),.string (S xi.val)] 54)).drew = W at *
         obtain ⟨cb2,fl,hit⟩ := HTy.out.items HLN.out.1
         obtain ⟨ki2,vi2⟩ := hit i _ HGI.out.1
         obtain ⟨kk2,vk2⟩ := hit k _ HGI.out.2
         have y0 : W.cell? ⟨wr.heap.size,0,none⟩ = some (.string (S xi.key)) := yb.cell (j := 0) rfl
         have y1 : W.cell? ⟨wr.heap.size,1,none⟩ = some (.string (S xi.val)) := yb.cell (j := 1) rfl
         have fl1 := fl (i * 2)
         have fl2 := fl (i * 2 + 1)
         have fl3 := fl (k * 2)
         have fl4 := fl (k * 2 + 1)
         have m1 : gl ≠ wr.heap.size := by omega
         have m2 : wr.heap.size ≠ gl := by omega
         have m3 : i * 2 ≠ k * 2 := by omega
         have m4 : i * 2 + 1 ≠ k * 2 := by omega
         have m5 : i * 2 ≠ k * 2 + 1 := by omega
         have m6 : k * 2 ≠ i * 2 := by omega
         have m7 : k * 2 + 1 ≠ i * 2 := by omega
         have m8 : k * 2 ≠ i * 2 + 1 := by omega
         unfold sdT at ki2 vi2 kk2 vk2
         dsimp only at ki2 vi2 kk2 vk2
         have HTz : Hid _ := (HTy.out.setL' HLN.out.1 i (sdT xk)).setL' (by rw [List.length_set]; exact HLN.out.1) k (sdT xi)
         clear fl hit ki kk vi vk ci ck f2i f2k cb yb hcmp
         generalize wr.heap.size = gy at *
         go_region
         all_goals
          go_wp2_with fail
          go_region
          all_goals
           go_wp2
           go_roundw
           case rel =>
            refine ⟨k + 1,Z',by go_num,by omega,by omega,HPS.out.1,HPS.out.2.1,HPS.out.2.2,.slice (some ⟨gl,0,none⟩) N cl,?_⟩
            rw [HSE.out.1,HSE.out.2]
            exact HTz.out.drew.drew
           case measure => simp [intOf]; omega
       ·have HPS : Hid (Z.length = N /\ List.Perm Z Z0 /\ OrdIn Z i (k + 1)) := ⟨hZN,hperm,hord.keep hcmp⟩
        generalize Z.getD i tl0 = xi at *
        generalize Z.getD k tl0 = xk at *
        clear ht1 hperm hord hZN hcs f1 f2'
        go_wp2_with fail
        go_region
        all_goals
         go_wp2
         go_roundw
         case rel => exact ⟨k + 1,Z,by go_num,by omega,by omega,HPS.out.1,HPS.out.2.1,HPS.out.2.2,_,HT1.out.drew⟩
         case measure => simp [intOf]; omega
      ·have hk : k = N := by omega
       have HPS : Hid (Z.length = N /\ List.Perm Z Z0 /\ OrdTo Z (i + 1)) := ⟨hZN,hperm,hord.done (by omega)⟩
       have HT1 : Hid (TlAt w wr w2.heap.size (Z.map sdT) (Z.map Tl.at') v1 (.slice av N acp)) := ht1
       subst hk
       clear ht1 hperm hord hZN
       go_wp2
       go_roundw
       case rel => exact ⟨i + 1,Z,by go_num,by omega,HPS.out.1,HPS.out.2.1,HPS.out.2.2,v1,HT1.out⟩
       case measure => simp [intOf]; omega
    ·have hi : i = N := by omega
     have HE : Hid (Z.map (fun t => (t.key,t.val)) = H) := HEL.out Z HPZ.out.2.1 (HPZ.out.2.2.done (by have := HPZ.out.1; omega))
     have hZN := HPZ.out.1
     subst hi
     clear hZN
     go_wp2
     go_ret
     refine ⟨w2.heap.size,Z.map sdT,v1,rfl,HT1.out.held,HT1.out.ge,?_,?_,HT1.out.bl⟩
     ·rw [<- HE.out,List.map_map]; rfl
     ·rw [List.length_map]; have := HPZ.out.1; omega
theorem kmends_any (E : Sent) (n : Nat) (G : Nat -> Prop) (bx blk seed bits c : Nat) (d d' : Dk) (va : Value) (all : List (List Sd)) (bs : List (List Ent)) (f1 f2 : Option Fl) (w : World) (h : LaAt E n G bx d va all w) (hok : DkOk d) (hm : d.mend = (0,d')) (hM : MendedAt blk seed bits c d' all bs f1 f2) (hc : c <= 400) (hal : all.length <= 1000) :
  Calls Tryz.prog 30 #[.pointer (some ⟨bx,0,none⟩),va] w fun e w' => e = .returned (.bool true) /\ (∃ G',LaAt E n G' bx d' va all w') /\ DkOk d' /\ Below n w w' := by
 have hok' : DkOk d' := by
  have := hok.mend
  rw [hm] at this
  exact this
 have HME : Hid (Calls Tryz.prog 59 #[.pointer (some ⟨bx,0,none⟩)] w fun e w' => e = .returned (.int .i64 0) /\ ∃ G',LaAt E n G' bx d' va all w' /\ Below n w w') := by
  obtain ⟨q,hq⟩ := h.st
  refine (smend_any E n G bx d q w h.env h.gs hq hok).mono ?_
  rw [hm]
  rintro e w' ⟨rfl,hd⟩
  obtain ⟨k1,k2⟩ := h.store hd
  exact ⟨rfl,_,k1,k2⟩
 have HTO : Hid (∀ (G1 : Nat -> Prop) (w1 : World),LaAt E n G1 bx d' va all w1 -> Calls Tryz.prog 31 #[.pointer (some ⟨bx,0,none⟩)] w1 fun e w' => ∃ bh L v,e = .returned (.pointer (some ⟨bh,0,none⟩)) /\ HeldAt w' w1.heap.size bh L v /\ w1.heap.size <= bh /\ L.map kv = (heldS bs.flatten).map kv /\ L.length <= 60 /\ Below w1.heap.size w1 w') := fun G1 w1 hl => by
  have he := hM.eq
  subst he
  exact ktold_any E n G1 bx blk seed bits bs _ f1 f2 none c w1 hl.env hl.st hok' hM.ok hc hM.idx hM.keys
 obtain ⟨Ls,hLs,hsaid⟩ := hM.said
 obtain ⟨is,his,eis⟩ := List.getElem_of_mem hLs
 have HSA : Hid (∃ (is : Nat) (L : List Sd),all[is]? = some L /\ L.map kv = (heldS bs.flatten).map kv) := ⟨is,Ls,by rw [List.getElem?_eq_getElem his,eis],hsaid⟩
 have HOK : Hid (DkOk d') := hok'
 clear hok' hok hm hM h hLs hsaid eis
 generalize (heldS bs.flatten).map kv = H at *
 go_enter Tryz.func30,Tryz.ntmps30
 go_wp2_with (first | (go_at_call 59; refine HME.out.mono ?_; rintro e w1 ⟨rfl,G1,hl1,hb1⟩; have HL1 : Hid (LaAt E n G1 bx d' va all w1) := hl1; have HB1 : Hid (Below n w w1) := hb1; clear hl1 hb1) | (go_at_call 31; refine (HTO.out G1 w1 HL1.out).mono ?_; rintro e w2 ⟨bh,Ln,vn,rfl,hh2,hge2,hkv2,hln2,hb2⟩; have HH2 : Hid (HeldAt w2 w1.heap.size bh Ln vn) := hh2; have HKV : Hid (Ln.map kv = H) := hkv2; have HL2 : Hid (LaAt E n G1 bx d' va all w2) := HL1.out.below hb2; have HB2 : Hid (Below n w w2) := HB1.out.trans (hb2.mono HL1.out.env.le); clear hh2 hkv2 hb2 hge2))
 obtain ⟨g,ps,off,cap,cur,hp,hgG,hpl,hone⟩ := HL2.out.ptrs
 have hva := hp.eq
 subst hva
 rw [hpl]
 have HONE : Hid (∀ (i : Nat) (hi : i < all.length),∃ p v,w2.cell? ⟨g,off + i,none⟩ = some (.pointer (some ⟨p,0,none⟩)) /\ HeldAt w2 n p all[i] v /\ all[i].length <= 1000 /\ g < w2.heap.size) := fun i hi => by
  have hi' : i < ps.length := by omega
  have ho := hone i ps[i] all[i] (List.getElem?_eq_getElem hi') (List.getElem?_eq_getElem hi)
  obtain ⟨v,h1,h2⟩ := ho.held
  exact ⟨ps[i],v,hp.cell (List.getElem?_eq_getElem hi'),h1,ho.few,hp.box.lt⟩
 clear hp hgG hpl hone
 have HBN : Hid (∀ wx : World,Below w2.heap.size w2 wx -> wx.cell? ⟨bh,0,none⟩ = some vn) := fun wx hb => (HH2.out.box.below hb HH2.out.box.lt).cell (j := 0) rfl
 go_loopw [7] (fun iv wr => ∃ i : Nat,iv = .int .i64 (i : Int) /\ i <= all.length /\ Below w2.heap.size w2 wr /\ ∀ (i' : Nat) (L : List Sd),i' < i -> all[i']? = some L -> L.map kv ≠ H) (fun iv _ => all.length - (intOf iv).toNat)
 case atStart => exact ⟨0,rfl,by omega,Below.refl _ _,fun i' L h => by omega⟩
 case round =>
  obtain ⟨i,rfl,hi,hb,hno⟩ := hrel
  have HBr : Hid (Below w2.heap.size w2 wr) := hb
  have HNO : Hid (∀ (i' : Nat) (L : List Sd),i' < i -> all[i']? = some L -> L.map kv ≠ H) := hno
  clear hno
  by_cases hlt : i < all.length
  ·obtain ⟨p,v,cp,hh,hfew,hgl⟩ := HONE.out i hlt
   have c1 : wr.cell? ⟨g,off + i,none⟩ = some (.pointer (some ⟨p,0,none⟩)) := (hb.cell (p := ⟨g,off + i,none⟩) hgl).trans cp
   have c2 : wr.cell? ⟨p,0,none⟩ = some v := (hh.box.below hb hh.box.lt).cell (j := 0) rfl
   have c3 := HBN.out wr hb
   have HSM : Hid (∀ wx : World,Below w2.heap.size w2 wx -> Calls Tryz.prog 49 #[v,vn] wx fun e w' => ∃ b,e = .returned (.bool b) /\ (b = true ↔ all[i].map kv = Ln.map kv) /\ Below wx.heap.size wx w') := fun wx hbx => ksame2_any n w1.heap.size v vn all[i] Ln wx (own_chg hh.row (Chg.of_below (F := fun _ => False) hbx) (fun _ _ h => h)) (own_chg HH2.out.row (Chg.of_below (F := fun _ => False) hbx) (fun _ _ h => h)) (by omega) (by omega)
   have HAI : Hid (all[i]? = some all[i]) := List.getElem?_eq_getElem hlt
   obtain ⟨av,acp,hve⟩ := own_len hh.row
   subst hve
   obtain ⟨avn,acpn,hvn⟩ := own_len HH2.out.row
   subst hvn
   have HSN : Hid (∀ wx : World,Below w2.heap.size w2 wx -> wx.cell? ⟨g,off + i,none⟩ = some (.pointer (some ⟨p,0,none⟩)) /\ wx.cell? ⟨p,0,none⟩ = some (.slice av all[i].length acp) /\ wx.cell? ⟨bh,0,none⟩ = some (.slice avn Ln.length acpn)) := fun wx hbx => ⟨(hbx.cell (p := ⟨g,off + i,none⟩) hgl).trans cp,(hh.box.below hbx hh.box.lt).cell (j := 0) rfl,HBN.out wx hbx⟩
   clear hh cp hb
   generalize all[i] = Li at *
   go_wp2_with fail
   go_region_held3 (fun w' => w'.cell? ⟨g,off + i,none⟩ = some (.pointer (some ⟨p,0,none⟩)) /\ w'.cell? ⟨p,0,none⟩ = some (.slice av Li.length acp) /\ w'.cell? ⟨bh,0,none⟩ = some (.slice avn Ln.length acpn)) (first | (exact ⟨c1,c2,c3⟩) | (assumption)) (first | (go_at_call 49; refine (HSM.out _ ?_).mono ?_; exact HBr.out.drew; rintro e w3 ⟨b,rfl,hiff,hb3⟩; have HIF : Hid (b = true ↔ Li.map kv = Ln.map kv) := hiff; have hb3' : Below wr.heap.size wr w3 := ⟨hb3.os,hb3.tape,hb3.output,hb3.size,hb3.block⟩; have HB3 : Hid (Below w2.heap.size w2 w3) := HBr.out.trans (hb3'.mono HBr.out.size); have hS3 := HSN.out w3 HB3.out; clear hiff hb3 hb3'))
   all_goals
    cases b with
    | true =>
     go_wp2
     go_ret
     exact ⟨rfl,⟨G1,HL2.out.below HB3.out⟩,HOK.out,HB2.out.trans (HB3.out.mono HL2.out.env.le)⟩
    | false =>
     go_wp2
     go_roundw
     case rel =>
      refine ⟨i + 1,by go_num,by omega,HB3.out,fun i' L h1 h2 h3 => ?_⟩
      by_cases e : i' = i
      ·subst e
       rw [HAI.out] at h2
       injection h2 with h2
       subst h2
       have := HIF.out.2 (h3.trans HKV.out.symm)
       cases this
      ·exact HNO.out i' L (by omega) h2 h3
     case measure => simp [intOf]; omega
  ·obtain ⟨is,L,h1,h2⟩ := HSA.out
   have := (List.getElem?_eq_some_iff.1 h1).1
   exact absurd h2 (HNO.out is L (by omega) h1)
end Go.Proofs.YtdhgebdbiehchaaGreatDoor
