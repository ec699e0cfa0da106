/- On the way: LwMade, RfStep, RfOne, RfSync, LwTwo, LwTwo2, RfOps, RfWr. -/
import Derived.Test.YtdhgebdbiehchaaGreatDoorB38
namespace Go.Proofs.YtdhgebdbiehchaaGreatDoor
open Go.RowKit Go.Maps
set_option linter.unusedSimpArgs false
set_option linter.unusedVariables false
set_option maxRecDepth 100000
set_option maxHeartbeats 1600000
def q0 : RfP := ⟨0,0,0,0,.slice none 0 0⟩
theorem rdisk_bad (room : Int) (w : World) (h : room < 0 \/ 100000 < room) :
  Calls Tryz.prog 117 #[.int .i64 room] w fun e w' => e = .returned (.tuple #[.pointer none,.int .i64 1]) /\ w' = w := by
 by_cases h0 : room < 0
 ·go_enter Tryz.func117,Tryz.ntmps117
  go_wp2
  go_ret2
  exact ⟨rfl,rfl⟩
 ·have h1 : 100000 < room := by omega
  go_enter Tryz.func117,Tryz.ntmps117
  go_wp2
  go_ret2
  exact ⟨rfl,rfl⟩
theorem rdisk_good (room : Nat) (w : World) (h : room <= 100000) :
  Calls Tryz.prog 117 #[.int .i64 (room : Int)] w fun e w' => e = .returned (.tuple #[.pointer (some ⟨w.heap.size,0,none⟩),.int .i64 0]) /\ w' = w.alloc (.cells (refC (dk0 room) q0) 273) := by
 have h0 : ¬ ((room : Int) < 0) := by omega
 have h1 : ¬ ((100000 : Int) < (room : Int)) := by omega
 go_enter Tryz.func117,Tryz.ntmps117
 go_wp2
 go_ret2
 exact ⟨rfl,rfl⟩
theorem ref_new (room : Nat) (w : World) : RefAt (w.alloc (.cells (refC (dk0 room) q0) 273)) (Gnew w (w.alloc (.cells (refC (dk0 room) q0) 273))) w.heap.size (dk0 room) q0 :=
 ⟨bx_new _ _ _ rfl,World.ownsRow_nil _ _ _ _,fun e => (by cases e),fun n k e => (by cases e),by decide,fun b e => (by cases e),⟨Nat.le_refl _,by simp⟩,fun g e => (by cases e)⟩
theorem info_pair : (Tryz.prog.info? 118).map (fun i => (i.zero,i.size,i.bytes)) = some (some (.pointer none),1,8) := by kernel_rfl
def ptrs (ps : List (Nat × Nat × Nat)) : List Value := ps.map fun p => .pointer (some ⟨p.1,0,none⟩)
theorem app_pair {W : World} {v : Value} {ps : List (Nat × Nat × Nat)} {p : Nat × Nat × Nat} {g0 : Nat} (h1 : W.ownsRow 0 118 1 v ps.length (ptrs ps)) (hg : W.cell? ⟨g0,0,none⟩ = some (.pointer (some ⟨p.1,0,none⟩))) (hl : ps.length <= 140737488352000 / 8) :
  ∃ g cap w',(Builtin.append_ #[61,61] 61 #[v,.slice (some ⟨g0,0,none⟩) 1 1]).run Tryz.prog W = .ok (.slice (some ⟨g,0,none⟩) (ps.length + 1) cap) w' /\
   w'.ownsRow 0 118 1 (.slice (some ⟨g,0,none⟩) (ps.length + 1) cap) (ps.length + 1) (ptrs (ps ++ [p])) /\ W.grownBy w' v.ownBlock /\ (v.ownBlock = some g \/ g = W.heap.size) /\ g < w'.heap.size := by
 obtain ⟨i0,hi,hz0,hz1,hz2⟩ := info_parts info_pair
 obtain ⟨g,cap,w',a1,a2,a3,a4,a5⟩ := run_append_lies (P := Tryz.prog) W 61 61 0 118 i0 (.pointer none) 1 8 Tryz.underlying61 hi hz0 hz1 hz2 rfl (by decide) v ps.length (ptrs ps) h1 ⟨g0,0,none⟩ 1 1 [.pointer (some ⟨p.1,0,none⟩)] rfl (fun j u hu => by cases j with | zero => cases hu; exact hg | succ j => cases hu) (by simp [Value.oneCell']) (by omega) (by unfold maxLen; omega) (by omega) (Nat.zero_le _) _ rfl
 have e : ptrs ps ++ [.pointer (some ⟨p.1,0,none⟩)] = ptrs (ps ++ [p]) := by simp [ptrs]
 rw [e] at a2
 exact ⟨g,cap,w',a1,a2,a3,a4,a5⟩
theorem own_bx {W : World} {b base e size n : Nat} {cs : Array Value} {t : TypeId} {v : Value} {xs : List Value} (h : Bx W b cs t) (h' : W.ownsRow base e size v n xs) (ht : e ≠ t) : v.ownBlock ≠ some b := by
 rcases own_unlike h h' ht with h1 | h1
 ·rw [h1]; simp
 ·exact h1
theorem own_rw {w : World} {b1 e1 s1 n1 b2 e2 s2 n2 : Nat} {v1 v2 : Value} {x1 x2 : List Value} (h1 : w.ownsRow b1 e1 s1 v1 n1 x1) (h2 : w.ownsRow b2 e2 s2 v2 n2 x2) (he : e1 ≠ e2) : ∀ g,v1.ownBlock = some g -> v2.ownBlock ≠ some g := fun g e1 e2 => by
 rcases own_apart h1 h2 he with h | h
 ·rw [h] at e1; cases e1
 ·exact h (e1.trans e2.symm)
theorem own_ty {W : World} {base e size n g : Nat} {v : Value} {xs : List Value} {cur : Array Value} {t : TypeId} {fr : Nat × Nat} (h : W.ownsRow base e size v n xs) (hv : v.ownBlock = some g) (hc : W.heap[g]? = some (.cells cur t fr)) (ht : e ≠ t) : False := by
 rcases h.2 with ⟨rfl,_⟩ | ⟨g',cap,cur',rfl,_,hg,_⟩
 ·cases hv
 ·have : g' = g := by simpa [Value.ownBlock] using hv
  subst this
  rw [hc] at hg
  simp at hg
  exact ht hg.2.1.symm
theorem LawAt.pushed {w w1 w2 w4 : World} {κ : Nat -> Nat} {n bw : Nat} {ds : List (Dk × Dk)} {P : LawP} {ls : List Mark} {x y g cap : Nat} {d : Dk} {q : StP} {r : RfP} (h : LawAt w κ n bw ds P ls) (hn : n <= w.heap.size) (hb1 : Below w.heap.size w w1) (hx : StoreAt w1 (Gnew w w1) x d q) (hb2 : Below w1.heap.size w1 w2) (hy : RefAt w2 (Gnew w1 w2) y d r)
  {t : TypeId} (hg : ((w2.alloc (.cells #[.pointer (some ⟨x,0,none⟩),.pointer (some ⟨y,0,none⟩)] 198)).alloc (.cells #[.pointer (some ⟨w2.heap.size,0,none⟩)] t)).grownBy w4 P.pv.ownBlock)
  (ho : w4.ownsRow 0 118 1 (.slice (some ⟨g,0,none⟩) (P.ps.length + 1) cap) (P.ps.length + 1) (ptrs (P.ps ++ [(w2.heap.size,x,y)]))) (hat : P.pv.ownBlock = some g \/ w2.heap.size < g) (hgl : g < w4.heap.size) :
  ∃ κ',LawAt (w4.setCell ⟨bw,0,none⟩ (.slice (some ⟨g,0,none⟩) (P.ps.length + 1) cap)) κ' n bw (ds ++ [(d,d)]) ⟨.slice (some ⟨g,0,none⟩) (P.ps.length + 1) cap,P.ps ++ [(w2.heap.size,x,y)],P.isv,P.imv,P.next⟩ ls /\ (∀ k,κ k = 1 -> k < w.heap.size -> κ' k = 1) /\ Chg (fun k => k = bw \/ P.pv.ownBlock = some k) w (w4.setCell ⟨bw,0,none⟩ (.slice (some ⟨g,0,none⟩) (P.ps.length + 1) cap)) := by
 obtain ⟨w3,hw3⟩ : ∃ w3,w3 = (w2.alloc (.cells #[.pointer (some ⟨x,0,none⟩),.pointer (some ⟨y,0,none⟩)] 198)).alloc (.cells #[.pointer (some ⟨w2.heap.size,0,none⟩)] t) := ⟨_,rfl⟩
 rw [<- hw3] at hg
 obtain ⟨w5,hw5⟩ : ∃ w5,w5 = w4.setCell ⟨bw,0,none⟩ (.slice (some ⟨g,0,none⟩) (P.ps.length + 1) cap) := ⟨_,rfl⟩
 rw [<- hw5]
 have z1 := hb1.size
 have z2 := hb2.size
 have z3 : w3.heap.size = w2.heap.size + 2 := by rw [hw3]; simp
 have z4 := hg.size
 have z5 : w5.heap.size = w4.heap.size := by rw [hw5]; simp
 have hlen := h.len
 have hbw := h.box.lt
 have hb23 : Below w2.heap.size w2 w3 := by rw [hw3]; exact ((Below.refl _ _).alloc (Nat.le_refl _) _).alloc (by simp) _
 have c03 : Chg (fun k => k = bw \/ P.pv.ownBlock = some k) w w3 := ((Chg.of_below hb1).trans0 hb2).trans0 hb23
 have c04 : Chg (fun k => k = bw \/ P.pv.ownBlock = some k) w w4 := c03.grown hg (fun k e => .inl (.inr e))
 have c05 : Chg (fun k => k = bw \/ P.pv.ownBlock = some k) w w5 := by rw [hw5]; exact c04.set bw 0 _ (.inl (.inl rfl))
 have rowlt : ∀ k,P.pv.ownBlock = some k -> k < w.heap.size := own_lt h.row
 have c15 : Chg (fun k => k = bw \/ P.pv.ownBlock = some k) w1 w5 := by
  have a : Chg (fun k => k = bw \/ P.pv.ownBlock = some k) w1 w4 := ((Chg.of_below hb2).trans0 hb23).grown hg (fun k e => .inl (.inr e))
  rw [hw5]; exact a.set bw 0 _ (.inl (.inl rfl))
 have c25 : Chg (fun k => k = bw \/ P.pv.ownBlock = some k) w2 w5 := by
  have a : Chg (fun k => k = bw \/ P.pv.ownBlock = some k) w2 w4 := (Chg.of_below hb23).grown hg (fun k e => .inl (.inr e))
  rw [hw5]; exact a.set bw 0 _ (.inl (.inl rfl))
 obtain ⟨κ',hκ'⟩ : ∃ κ' : Nat -> Nat,κ' = fun k => if k < w.heap.size then κ k else if k < w1.heap.size then 2 * ds.length + 2 else if k < w2.heap.size then 2 * ds.length + 3 else if k < w5.heap.size then 0 else κ k := ⟨_,rfl⟩
 have kold : ∀ k,k < w.heap.size -> κ' k = κ k := fun k hk => by rw [hκ']; simp only; rw [if_pos hk]
 have knew : ∀ k,w2.heap.size <= k -> k < w5.heap.size -> κ' k = 0 := fun k hk hk2 => by rw [hκ']; simp only; rw [if_neg (by omega),if_neg (by omega),if_neg (by omega),if_pos hk2]
 have hr : ∀ c k,Rg κ n w c k -> Rg κ' n w5 c k := fun c k hk => ⟨(kold k hk.2.2).trans hk.1,hk.2.1,by have := hk.2.2; omega⟩
 have np : ∀ k,P.pv.ownBlock = some k -> k ≠ bw := fun k e e' => own_bx h.box h.row (by decide) (by rw [<- e']; exact e)
 have hbx4 : Bx w4 bw #[P.pv,P.isv,P.imv,.int .i64 P.next] 65 := by
  have a : Bx w3 bw #[P.pv,P.isv,P.imv,.int .i64 P.next] 65 := ((h.box.below hb1 hbw).below hb2 (by omega)).below hb23 (by omega)
  exact (hg.block bw (by omega) (fun e => np bw e.symm rfl)).trans a
 have hgb : g ≠ bw := by
  intro e
  rcases hat with h5 | h5
  ·exact np g h5 e
  ·omega
 have hpbx : Bx w5 w2.heap.size #[.pointer (some ⟨x,0,none⟩),.pointer (some ⟨y,0,none⟩)] 198 := by
  have a : Bx w3 w2.heap.size #[.pointer (some ⟨x,0,none⟩),.pointer (some ⟨y,0,none⟩)] 198 := by rw [hw3]; exact (bx_new w2 _ _ rfl).alloc _
  have b : Bx w4 w2.heap.size #[.pointer (some ⟨x,0,none⟩),.pointer (some ⟨y,0,none⟩)] 198 := (hg.block w2.heap.size (by omega) (fun e => by have := rowlt _ e.symm; omega)).trans a
  rw [hw5]; exact b.other (by omega) _
 refine ⟨κ',⟨?_,hr _ _ h.col,?_,by simp [hlen],?_,?_,?_,?_⟩,fun k e hk => (kold k hk).trans e,c05⟩
 ·rw [hw5]; exact hbx4.setj 0 _
 ·rw [List.length_append,hlen]
  show w5.ownsRow _ _ _ _ (ds.length + 1) _
  rw [hw5,<- hlen]
  exact ho.kept (grown_setB _ _ _ _) (.inr fun e => hgb (by simpa [Value.ownBlock] using e))
 ·intro k e
  have e' : g = k := by simpa [Value.ownBlock] using e
  subst e'
  rcases hat with h5 | h5
  ·exact hr _ _ (h.crow _ h5)
  ·exact ⟨knew _ (by omega) (by omega),by omega,by omega⟩
 ·intro j d1 p1 hd1 hp1
  by_cases hj : j < ds.length
  ·rw [List.getElem?_append_left hj] at hd1
   rw [List.getElem?_append_left (by omega)] at hp1
   have hpr := h.pairs j d1 p1 hd1 hp1
   refine ⟨hpr.box.chg c05 ?_,hr _ _ hpr.col,?_,?_⟩
   ·rintro (e | e)
    ·have a := hpr.box
     rw [e] at a
     have b := h.box
     rw [Bx,a] at b
     injection b with b
     injection b with b1 b2
     have := congrArg Array.size b1
     simp at this
    ·exact own_bx hpr.box h.row (by decide) e
   ·obtain ⟨q1,hq1⟩ := hpr.px
    refine ⟨q1,(hq1.keep c05 ?_).mono (hr _)⟩
    rintro k hk (e | e)
    ·subst e; have := h.col.1; have := hk.1; omega
    ·have := (h.crow k e).1; have := hk.1; omega
   ·obtain ⟨q1,hq1⟩ := hpr.py
    refine ⟨q1,(hq1.kept c05 ?_).mono (hr _)⟩
    rintro k hk (e | e)
    ·subst e; have := h.col.1; have := hk.1; omega
    ·have := (h.crow k e).1; have := hk.1; omega
  ·have hj2 : j = ds.length := by
    have := (List.getElem?_eq_some_iff.1 hd1).1
    simp at this
    omega
   subst hj2
   rw [List.getElem?_append_right (by omega)] at hd1
   rw [List.getElem?_append_right (by omega)] at hp1
   simp [hlen] at hd1 hp1
   subst hd1
   subst hp1
   refine ⟨hpbx,⟨knew _ (Nat.le_refl _) (by omega),by omega,by omega⟩,⟨q,(hx.keep c15 ?_).mono ?_⟩,⟨r,(hy.kept c25 ?_).mono ?_⟩⟩
   ·rintro k hk (e | e)
    ·have := hk.1; omega
    ·have := rowlt k e; have := hk.1; omega
   ·rintro k ⟨hk1,hk2⟩
    refine ⟨?_,by omega,by omega⟩
    rw [hκ']; simp only; rw [if_neg (by omega),if_pos hk2]
   ·rintro k hk (e | e)
    ·have := hk.1; omega
    ·have := rowlt k e; have := hk.1; omega
   ·rintro k ⟨hk1,hk2⟩
    refine ⟨?_,by omega,by omega⟩
    rw [hκ']; simp only; rw [if_neg (by omega),if_neg (by omega),if_pos hk2]
 ·have nn : ∀ {e size m : Nat} {v : Value} {xs : List Value},w.ownsRow 0 e size v m xs -> e ≠ 118 -> e ≠ 65 -> ∀ k,v.ownBlock = some k -> ¬ (k = bw \/ P.pv.ownBlock = some k) := fun hrow he1 he2 k e => by
   rintro (e' | e')
   ·exact own_bx h.box hrow he2 (by rw [<- e']; exact e)
   ·exact own_rw hrow h.row he1 k e e'
  have hm := h.marks
  exact ⟨own_chg hm.is c05 (nn hm.is (by decide) (by decide)),own_chg hm.im c05 (nn hm.im (by decide) (by decide)),fun k e => hr _ _ (hm.cis k e),fun k e => hr _ _ (hm.cim k e),fun mk hmk => (hm.each mk hmk).kept (fun g hg ⟨cur,hcur⟩ => c05.keep g hg.2.2 (by
   rintro (e | e)
   ·rw [e,show w.heap[bw]? = _ from h.box] at hcur
    simp at hcur
   ·exact own_ty h.row e hcur (by decide))) (fun g hg => hr _ _ hg)⟩
 ·intro k hk
  rw [hκ']; simp only
  rw [if_neg (by omega),if_neg (by omega),if_neg (by omega),if_neg (by omega)]
  exact h.out k (by omega)
theorem made_push {w w1 w2 : World} {κ : Nat -> Nat} {n bw : Nat} {ds : List (Dk × Dk)} {P : LawP} {ls : List Mark} {x y : Nat} {d : Dk} {q : StP} {r : RfP} (h : LawAt w κ n bw ds P ls) (hn : n <= w.heap.size) (hb1 : Below w.heap.size w w1) (hx : StoreAt w1 (Gnew w w1) x d q) (hb2 : Below w1.heap.size w1 w2) (hy : RefAt w2 (Gnew w1 w2) y d r) (hl : ds.length <= 1353245081000) :
  ∃ g cap w4,(Builtin.append_ #[61,61] 61 #[P.pv,.slice (some ⟨w2.heap.size + 1,0,none⟩) 1 1]).run Tryz.prog ((w2.alloc (.cells #[.pointer (some ⟨x,0,none⟩),.pointer (some ⟨y,0,none⟩)] 198)).alloc (.cells #[.pointer (some ⟨w2.heap.size,0,none⟩)] 118)) = .ok (.slice (some ⟨g,0,none⟩) (P.ps.length + 1) cap) w4 /\
   Bx w4 bw #[P.pv,P.isv,P.imv,.int .i64 P.next] 65 /\
   ∃ κ',LawAt (w4.setCell ⟨bw,0,none⟩ (.slice (some ⟨g,0,none⟩) (P.ps.length + 1) cap)) κ' n bw (ds ++ [(d,d)]) ⟨.slice (some ⟨g,0,none⟩) (P.ps.length + 1) cap,P.ps ++ [(w2.heap.size,x,y)],P.isv,P.imv,P.next⟩ ls /\ (∀ k,κ k = 1 -> k < w.heap.size -> κ' k = 1) /\ Chg (fun k => k = bw \/ P.pv.ownBlock = some k) w (w4.setCell ⟨bw,0,none⟩ (.slice (some ⟨g,0,none⟩) (P.ps.length + 1) cap)) := by
 obtain ⟨w3,hw3⟩ : ∃ w3,w3 = (w2.alloc (.cells #[.pointer (some ⟨x,0,none⟩),.pointer (some ⟨y,0,none⟩)] 198)).alloc (.cells #[.pointer (some ⟨w2.heap.size,0,none⟩)] 118) := ⟨_,rfl⟩
 have z1 := hb1.size
 have z2 := hb2.size
 have z3 : w3.heap.size = w2.heap.size + 2 := by rw [hw3]; simp
 have hb23 : Below w2.heap.size w2 w3 := by rw [hw3]; exact ((Below.refl _ _).alloc (Nat.le_refl _) _).alloc (by simp) _
 have hb03 : Below w.heap.size w w3 := (hb1.trans (hb2.mono z1)).trans (hb23.mono (by omega))
 have hrow : w3.ownsRow 0 118 1 P.pv P.ps.length (ptrs P.ps) := by
  have := own_below h.row hb03 (Nat.le_refl _)
  rw [<- h.len] at this
  exact this
 have hcell : w3.cell? ⟨w2.heap.size + 1,0,none⟩ = some (.pointer (some ⟨w2.heap.size,0,none⟩)) := by
  rw [hw3]
  exact (bx_new (w2.alloc (.cells #[.pointer (some ⟨x,0,none⟩),.pointer (some ⟨y,0,none⟩)] 198)) #[.pointer (some ⟨w2.heap.size,0,none⟩)] 118 (by simp)).cell (j := 0) rfl
 obtain ⟨g,cap,w4,a1,a2,a3,a4,a5⟩ := app_pair (p := (w2.heap.size,x,y)) hrow hcell (by rw [h.len]; omega)
 have hbx3 : Bx w3 bw #[P.pv,P.isv,P.imv,.int .i64 P.next] 65 := h.box.below hb03 h.box.lt
 have hbx4 : Bx w4 bw #[P.pv,P.isv,P.imv,.int .i64 P.next] 65 := (a3.block bw hbx3.lt (fun e => own_bx h.box h.row (by decide) e.symm)).trans hbx3
 rw [hw3] at a1 a3
 refine ⟨g,cap,w4,a1,hbx4,?_⟩
 exact h.pushed hn hb1 hx hb2 hy a3 a2 (a4.imp id (fun e => by omega)) a5
theorem Inv.pushed {E : Sent} {n bw nd c : Nat} {m : Bool} {Fr : Nat -> Prop} {w w5 : World} {κ κ' : Nat -> Nat} {ds : List (Dk × Dk)} {P P' : LawP} {ls : List Mark} {room : Nat} (h1 : LawAt w κ n bw ds P ls) (h2 : Env0 n w E) (h3 : ∀ d ∈ ds,d.1 = d.2 /\ DkOk d.1) (h4 : m = false -> ls = []) (h5 : ds.length = nd) (h6 : ls.length <= 4 * c /\ 0 <= P.next /\ P.next <= (c : Int)) (h7 : ∀ k,Fr k -> κ k = 1 /\ k < w.heap.size)
  (hr : room <= 100000) (hL : LawAt w5 κ' n bw (ds ++ [(dk0 room,dk0 room)]) P' ls) (hκ : ∀ k,κ k = 1 -> k < w.heap.size -> κ' k = 1) (hC : Chg (fun k => k = bw \/ P.pv.ownBlock = some k) w w5) (hN : P'.next = P.next) : Inv E n bw m (nd + 1) c Fr w5 /\ Chg (Mv n Fr) w w5 := by
 have hsz := hC.size
 have hmv : Chg (Mv n Fr) w w5 := hC.mono (fun k hk e => by
  have hc0 : Rg κ n w 0 k := by
   rcases e with e | e
   ·rw [e]; exact h1.col
   ·exact h1.crow k e
  exact ⟨hc0.2.1,fun hf => by have := (h7 k hf).1; have := hc0.1; omega⟩)
 refine ⟨⟨κ',_,P',ls,hL,h2.chg hmv (fun k hk => hk.1),?_,h4,by simp [h5],by rw [hN]; exact h6,fun k hk => ⟨hκ k (h7 k hk).1 (h7 k hk).2,Nat.lt_of_lt_of_le (h7 k hk).2 hsz⟩⟩,hmv⟩
 intro d hd
 simp only [List.mem_append,List.mem_singleton] at hd
 rcases hd with hd | rfl
 ·exact h3 d hd
 ·refine ⟨rfl,DkOk.disk (room := (room : Int)) ?_⟩
  unfold diskD
  rw [if_neg (by omega)]
  simp [dk0]
theorem made_any (E : Sent) (n bw nd c : Nat) (m : Bool) (Fr : Nat -> Prop) (room : Int) (w : World) (hI : Inv E n bw m nd c Fr w) (hnd : nd <= 1353245081000) :
  Calls Tryz.prog 64 #[.pointer (some ⟨bw,0,none⟩),.int .i64 room] w fun e w' => e = .returned (.bool true) /\ (∃ nd',nd' <= nd + 1 /\ Inv E n bw m nd' c Fr w') /\ Chg (Mv n Fr) w w' := by
 by_cases hbad : room < 0 \/ 100000 < room
 ·have HX := disk_bad room w hbad
  have HY := rdisk_bad room w hbad
  have HI : Hid (Inv E n bw m nd c Fr w) := hI
  clear hI hbad
  go_enter Tryz.func64,Tryz.ntmps64
  go_wp2_with (first | (go_at_call 35; refine HX.mono ?_; rintro e w ⟨rfl,rfl⟩) | (go_at_call 117; refine HY.mono ?_; rintro e w ⟨rfl,rfl⟩) | (go_at_call 114; refine (num_any _ _).mono ?_; rintro e w ⟨rfl,rfl⟩))
  go_ret
  exact ⟨rfl,⟨nd,by omega,HI.out⟩,Chg.refl _ _⟩
 ·obtain ⟨r,rfl⟩ : ∃ r : Nat,room = r := ⟨room.toNat,by omega⟩
  have hr : r <= 100000 := by omega
  have HX := disk_good r w hr
  have HY : Hid (∀ w1 : World,Calls Tryz.prog 117 #[.int .i64 (r : Int)] w1 fun e w' => e = .returned (.tuple #[.pointer (some ⟨w1.heap.size,0,none⟩),.int .i64 0]) /\ RefAt w' (Gnew w1 w') w1.heap.size (dk0 r) q0 /\ Below w1.heap.size w1 w') := fun w1 => (rdisk_good r w1 hr).mono fun e w' ⟨a1,a2⟩ => by
   subst a2
   exact ⟨a1,ref_new r w1,(Below.refl _ _).alloc (Nat.le_refl _) _⟩
  obtain ⟨κ,ds,P,ls,h1,h2,h3,h4,h5,h6,h7⟩ := hI
  have HPV : Hid (∀ w2 : World,Below w.heap.size w w2 -> w2.cell? ⟨bw,0,none⟩ = some P.pv) := fun w2 hb => (h1.box.below hb h1.box.lt).cell (j := 0) rfl
  have HPU : Hid (∀ (w1 w2 : World) (x y : Nat) (q : StP) (rr : RfP),Below w.heap.size w w1 -> StoreAt w1 (Gnew w w1) x (dk0 r) q -> Below w1.heap.size w1 w2 -> RefAt w2 (Gnew w1 w2) y (dk0 r) rr ->
    ∃ g cap w4,(Builtin.append_ #[61,61] 61 #[P.pv,.slice (some ⟨w2.heap.size + 1,0,none⟩) 1 1]).run Tryz.prog ((w2.alloc (.cells #[.pointer (some ⟨x,0,none⟩),.pointer (some ⟨y,0,none⟩)] 198)).alloc (.cells #[.pointer (some ⟨w2.heap.size,0,none⟩)] 118)) = .ok (.slice (some ⟨g,0,none⟩) (P.ps.length + 1) cap) w4 /\
     w4.cell? ⟨bw,0,none⟩ = some P.pv /\ w4.frozen? ⟨bw,0,none⟩ = false /\ Hid (Inv E n bw m (nd + 1) c Fr (w4.setCell ⟨bw,0,none⟩ (.slice (some ⟨g,0,none⟩) (P.ps.length + 1) cap)) /\ Chg (Mv n Fr) w (w4.setCell ⟨bw,0,none⟩ (.slice (some ⟨g,0,none⟩) (P.ps.length + 1) cap)))) := fun w1 w2 x y q rr b1 b2 b3 b4 => by
   obtain ⟨g,cap,w4,e1,e2,κ',e3,e4,e5⟩ := made_push h1 h2.le b1 b2 b3 b4 (by omega)
   exact ⟨g,cap,w4,e1,e2.cell (j := 0) rfl,e2.frozen 0,Inv.pushed h1 h2 h3 h4 h5 h6 h7 hr e3 e4 e5 rfl⟩
  obtain ⟨pv,hpv⟩ : ∃ pv,pv = P.pv := ⟨_,rfl⟩
  obtain ⟨a,cp,hv⟩ := own_len h1.row
  rw [hv] at HPV HPU
  clear h1 h2 h3 h4 h5 h6 h7 hbad hv hpv
  go_enter Tryz.func64,Tryz.ntmps64
  go_wp2_with (first | (go_at_call 35; refine HX.mono ?_; rintro e w1 ⟨x,q,rfl,hx,hb1⟩; have HX1 : Hid (StoreAt w1 (Gnew w w1) x (dk0 r) q) := hx; have HB1 : Hid (Below w.heap.size w w1) := hb1; clear hx hb1) | (go_at_call 117; refine (HY.out _).mono ?_; rintro e w2 ⟨rfl,hy,hb2⟩; have c0 := HPV.out w2 (HB1.out.trans (hb2.mono HB1.out.size)); obtain ⟨g,cap,w4,hrun,c4,f4,hend⟩ := HPU.out w1 w2 _ _ _ _ HB1.out HX1.out hb2 hy; have HRUN : Hid _ := hrun; clear hy hb2 hrun) | (go_at_call 114; refine (num_any _ _).mono ?_; rintro e w2 ⟨rfl,rfl⟩) | (at_builtin; refine wp_append_run rfl (.tmp 37) (.tmp 42) 61 61 rfl rfl rfl HRUN.out ?_))
  go_ret
  exact ⟨rfl,⟨nd + 1,by omega,hend.out.1⟩,hend.out.2⟩
def nilP (q : RfP) : RfP := ⟨q.keep,q.c0,q.c1,q.c2,.slice none 0 0⟩
theorem fall_cells {W : World} {b : Nat} {d : Dk} {k i : Nat} {q : RfP} (h : Bx W b (refC (fallK d k i) q) 273) (hi : i < 3) :
  W.cell? ⟨b,2 + i * 3 + 1,none⟩ = some (.string (S (txtO (d.file i)))) /\ W.cell? ⟨b,2 + i * 3 + 2,none⟩ = some (.int .i64 (synO (d.file i) : Int)) /\ W.cell? ⟨b,12,none⟩ = some (.int .i64 (q.keep : Int)) := by
 match i,hi with
 | 0,_ => exact ⟨h.cell (j := 3) rfl,h.cell (j := 4) rfl,h.cell (j := 12) rfl⟩
 | 1,_ => exact ⟨h.cell (j := 6) rfl,h.cell (j := 7) rfl,h.cell (j := 12) rfl⟩
 | 2,_ => exact ⟨h.cell (j := 9) rfl,h.cell (j := 10) rfl,h.cell (j := 12) rfl⟩
theorem fall_zero {W : World} {b : Nat} {d : Dk} {q : RfP} (h : Bx W b (refC d q) 273) (k : Nat) :
  Bx ((((W.setCell ⟨b,1,none⟩ (.bool true)).setCell ⟨b,11,none⟩ (.int .i64 (-1))).setCell ⟨b,13,none⟩ (.bool false)).setCell ⟨b,17,none⟩ (.slice none 0 0)) b (refC (fallK d k 0) (nilP q)) 273 :=
 (((h.setj 1 _).setj 11 _).setj 13 _).setj 17 _
theorem txt_le {d : Dk} (hok : DkOk d) (i : Nat) : (txtO (d.file i)).length <= 100000 := by
 have h1 := hok.used
 have h2 := hok.room
 have e : ∀ f : Option Fl,(txtO f).length = lenF f := fun f => by cases f <;> rfl
 rw [e]
 unfold Dk.used at h1
 unfold Dk.file
 split
 ·omega
 ·split
  ·omega
  ·split
   ·omega
   ·simp [lenF]
theorem falls_any (G : Nat -> Prop) (b : Nat) (d : Dk) (q : RfP) (w : World) (hR : RefAt w G b d q) (hok : DkOk d) :
  Calls Tryz.prog 177 #[.pointer (some ⟨b,0,none⟩)] w fun e w' => e = .returned (.tuple #[]) /\ RDone G b w (d.falls q.keep) w' := by
 have f1 := hR.box.frozen 1
 have f11 := hR.box.frozen 11
 have f13 := hR.box.frozen 13
 have f17 := hR.box.frozen 17
 have c1 := hR.box.cell (j := 1) rfl
 have c11 := hR.box.cell (j := 11) rfl
 have c13 := hR.box.cell (j := 13) rfl
 have c17 := hR.box.cell (j := 17) rfl
 have HZ := fall_zero hR.box q.keep
 have hlt := hR.box.lt
 have hkp := hR.keep
 have hsy := hok.sync
 have HTL : Hid (∀ i,(txtO (d.file i)).length <= 100000) := txt_le hok
 have HR : Hid (RefAt w G b d q) := hR
 have HSY : Hid (∀ i f,d.file i = some f -> f.sync <= f.text.length) := hsy
 clear hR hok hsy
 go_enter Tryz.func177,Tryz.ntmps177
 go_wp2
 go_loopw [2] (fun i wr => ∃ (k : Nat),k <= 3 /\ i = .int .i64 k /\ Bx wr b (refC (fallK d q.keep k) (nilP q)) 273 /\ w.grownBy wr (some b)) (fun i _ => 3 - (intOf i).toNat)
 case atStart => exact ⟨0,by omega,rfl,HZ,grown_trans (grown_trans (grown_trans (grown_setB w b 1 _) (grown_setB _ b 11 _)) (grown_setB _ b 13 _)) (grown_setB _ b 17 _)⟩
 case round =>
  obtain ⟨k,hk,rfl,hbx,hg⟩ := hrel
  by_cases hlt3 : k < 3
  ·obtain ⟨ct,cs,ck⟩ := fall_cells hbx hlt3
   have ft := hbx.frozen (2 + k * 3 + 1)
   have fs := hbx.frozen (2 + k * 3 + 2)
   have HN : Hid (Bx ((wr.setCell ⟨b,2 + k * 3 + 1,none⟩ (.string (S ((txtO (d.file k)).take (fallN q.keep (d.file k)))))).setCell ⟨b,2 + k * 3 + 2,none⟩ (.int .i64 (fallN q.keep (d.file k) : Int))) b (refC (fallK d q.keep (k + 1)) (nilP q)) 273) := by
    have := fall_box hbx hlt3 HSY.out
    rw [Nat.mul_comm 3 k] at this
    exact this
   have hle := fallN_le q.keep (d.file k) (fun g hg => HSY.out k g hg)
   have htl := HTL.out k
   have hNd : fallN q.keep (d.file k) = synO (d.file k) + min q.keep ((txtO (d.file k)).length - synO (d.file k)) := rfl
   have hsl : synO (d.file k) <= (txtO (d.file k)).length := by
    cases hf : d.file k with
    | none => exact Nat.le_refl _
    | some f => exact HSY.out k f hf
   have HG : Hid (w.grownBy wr (some b)) := hg
   have ck' : wr.cell? ⟨b,12,none⟩ = some (.int .i64 (q.keep : Int)) := ck
   clear ck hbx hg HZ c1 c11 c13 c17 f1 f11 f13 f17
   generalize txtO (d.file k) = T at *
   generalize synO (d.file k) = Y at *
   generalize fallN q.keep (d.file k) = N at *
   have hsz : (S T).size = T.length := S_size T
   have HC : ∀ wx : World,(Instr.slice 9 (.string (S T)) none (some (.int .i64 (N : Int))) none).run Tryz.prog wx = .ok (.string (S (T.take N))) wx := by
    intro wx
    have := cut_upto (S T) N (by rw [hsz]; exact hle) (N : Int) rfl wx
    rw [show (S T).data.toList = T from rfl] at this
    exact this
   generalize q.keep = K at *
   by_cases hcase : K < T.length - Y
   ·have e1 : ((Y : Int) + (K : Int)) = (N : Int) := by omega
    have e0 : (K : Int) < (T.length : Int) - (Y : Int) := by omega
    clear hNd
    go_wp2_with fail
    go_region
    all_goals
     go_wp2_with fail
     go_region
     all_goals
      go_wp2_with fail
      go_region
      all_goals
       go_wp2
       go_roundw
       case rel => exact ⟨k + 1,by omega,by go_num,HN.out,grown_drew (grown_drew (grown_drew (grown_trans (grown_trans HG.out (grown_setB _ b _ _)) (grown_setB _ b _ _))))⟩
       case measure => simp [intOf]; omega
   ·have e1 : N = T.length := by omega
    have e0 : ¬ ((K : Int) < (T.length : Int) - (Y : Int)) := by omega
    clear hNd
    subst e1
    have HN2 : Hid (Bx ((wr.setCell ⟨b,2 + k * 3 + 1,none⟩ (.string (S T))).setCell ⟨b,2 + k * 3 + 2,none⟩ (.int .i64 (T.length : Int))) b (refC (fallK d K (k + 1)) (nilP q)) 273) := by
     have := HN.out
     rw [List.take_length] at this
     exact this
    go_wp2_with fail
    go_region
    all_goals
     go_wp2_with fail
     go_region
     all_goals
      go_wp2
      go_roundw
      case rel => exact ⟨k + 1,by omega,by go_num,HN2.out,grown_drew (grown_drew (grown_trans (grown_trans HG.out (grown_setB _ b _ _)) (grown_setB _ b _ _)))⟩
      case measure => simp [intOf]; omega
  ·have e : k = 3 := by omega
   subst e
   go_wp2
   refine bodyPost_end (v := .tuple #[]) ?_ rfl ⟨rfl,⟨nilP q,?_⟩,chg_one hg HR.out.gb⟩
   ·simp [results,Tryz.results177,go_sem]
   ·exact ⟨hbx,World.ownsRow_nil _ _ _ _,fun e => (by cases e),fun n k e => (by cases e),hkp,fun blk e => (by cases e),.inl HR.out.gb,fun g e => (by cases e)⟩
theorem RefAt.lefted {W : World} {G : Nat -> Prop} {b : Nat} {d : Dk} {q : RfP} {n k : Nat} (h : RefAt W G b d q) (hn : n <= 9223372036854775807) (hk : q.keep = k) : RefAt (W.setCell ⟨b,11,none⟩ (.int .i64 (n : Int))) G b { d with left := some (n,k) } q :=
 ⟨h.box.setj 11 _,own_box (cs := refC d q) (t := 0) h.row h.ne 11 _,h.ne,fun n' k' e => by cases e; exact ⟨hn,hk⟩,h.keep,h.blk,h.gb,h.gv⟩
theorem rstep_any (G : Nat -> Prop) (b : Nat) (d : Dk) (q : RfP) (w : World) (hR : RefAt w G b d q) (hok : DkOk d) :
  Calls Tryz.prog 176 #[.pointer (some ⟨b,0,none⟩)] w fun e w' => e = .returned (.bool d.count.1) /\ RDone G b w d.count.2 w' := by
 have c11 : w.cell? ⟨b,11,none⟩ = some (.int .i64 (leftI d.left)) := hR.box.cell (j := 11) rfl
 have f11 := hR.box.frozen 11
 have HR : Hid (RefAt w G b d q) := hR
 have hL := hR.left
 have HF := falls_any G b d q w hR hok
 clear hR hok
 cases hl : d.left with
 | none =>
  have HC : Hid (d.count = (true,d)) := by show _ = _; unfold Dk.count; rw [hl]
  rw [hl] at c11
  have c11' : w.cell? ⟨b,11,none⟩ = some (.int .i64 (-1)) := c11
  clear c11 HF hL
  go_enter Tryz.func176,Tryz.ntmps176
  go_wp2
  go_ret
  exact ⟨by rw [HC.out]; rfl,by rw [HC.out]; exact RDone.refl HR.out⟩
 | some p =>
  obtain ⟨n,k⟩ := p
  obtain ⟨hn,hk⟩ := hL n k hl
  rw [hl] at c11
  cases n with
  | zero =>
   have HC : Hid (d.count = (false,d.falls k)) := by show _ = _; unfold Dk.count; rw [hl]
   have c11' : w.cell? ⟨b,11,none⟩ = some (.int .i64 0) := c11
   rw [hk] at HF
   clear c11 hL
   go_enter Tryz.func176,Tryz.ntmps176
   go_wp2_with (first | (go_at_call 177; refine HF.mono ?_; rintro e w1 ⟨rfl,hd⟩; have HD : Hid (RDone G b w (d.falls k) w1) := hd; clear hd))
   go_ret
   exact ⟨by rw [HC.out]; rfl,by rw [HC.out]; exact HD.out⟩
  | succ m =>
   have HC : Hid (d.count = (true,{ d with left := some (m,k) })) := by show _ = _; unfold Dk.count; rw [hl]
   have c11' : w.cell? ⟨b,11,none⟩ = some (.int .i64 ((m : Int) + 1)) := c11
   have HN : Hid (RefAt (w.setCell ⟨b,11,none⟩ (.int .i64 (m : Int))) G b { d with left := some (m,k) } q) := HR.out.lefted (by omega) hk
   have e1 : (m : Int) + 1 - 1 = m := by omega
   clear c11 hL HF
   go_enter Tryz.func176,Tryz.ntmps176
   go_wp2
   go_ret
   refine ⟨by rw [HC.out]; rfl,?_⟩
   rw [HC.out]
   have HN2 := HN.out
   exact ⟨⟨q,HN2.mono (fun k hk => .inl hk)⟩,chg_one (grown_setB _ _ _ _) HR.out.gb⟩
theorem file_cells {W : World} {b : Nat} {d : Dk} {i : Nat} {q : RfP} (h : Bx W b (refC d q) 273) (hi : i < 3) :
  W.cell? ⟨b,2 + i * 3,none⟩ = some (.bool (d.file i).isSome) /\ W.cell? ⟨b,2 + i * 3 + 1,none⟩ = some (.string (S (txtO (d.file i)))) /\ W.cell? ⟨b,2 + i * 3 + 2,none⟩ = some (.int .i64 (synO (d.file i) : Int)) := by
 match i,hi with
 | 0,_ => exact ⟨h.cell (j := 2) rfl,h.cell (j := 3) rfl,h.cell (j := 4) rfl⟩
 | 1,_ => exact ⟨h.cell (j := 5) rfl,h.cell (j := 6) rfl,h.cell (j := 7) rfl⟩
 | 2,_ => exact ⟨h.cell (j := 8) rfl,h.cell (j := 9) rfl,h.cell (j := 10) rfl⟩
theorem refC_put1 {d : Dk} {q : RfP} {i : Nat} {f : Fl} (hi : i < 3) (hf : d.file i = some f) (t : List UInt8) : (refC d q).setIfInBounds (2 + i * 3 + 1) (.string (S t)) = refC (d.put i (some ⟨t,f.sync⟩)) q := by
 match i,hi with
 | 0,_ => have h : d.f0 = some f := hf; simp [refC,Dk.put,h,synO,txtO]
 | 1,_ => have h : d.f1 = some f := hf; simp [refC,Dk.put,h,synO,txtO]
 | 2,_ => have h : d.f2 = some f := hf; simp [refC,Dk.put,h,synO,txtO]
theorem refC_put2 {d : Dk} {q : RfP} {i : Nat} {f : Fl} (hi : i < 3) (hf : d.file i = some f) (n : Nat) : (refC d q).setIfInBounds (2 + i * 3 + 2) (.int .i64 (n : Int)) = refC (d.put i (some ⟨f.text,n⟩)) q := by
 match i,hi with
 | 0,_ => have h : d.f0 = some f := hf; simp [refC,Dk.put,h,synO,txtO]
 | 1,_ => have h : d.f1 = some f := hf; simp [refC,Dk.put,h,synO,txtO]
 | 2,_ => have h : d.f2 = some f := hf; simp [refC,Dk.put,h,synO,txtO]
theorem refC_put3 {d : Dk} {q : RfP} {i : Nat} (hi : i < 3) : (((refC d q).setIfInBounds (2 + i * 3) (.bool true)).setIfInBounds (2 + i * 3 + 1) (.string ⟨#[]⟩)).setIfInBounds (2 + i * 3 + 2) (.int .i64 0) = refC (d.put i (some ⟨[],0⟩)) q := by
 match i,hi with
 | 0,_ => rfl
 | 1,_ => rfl
 | 2,_ => rfl
theorem RefAt.file {W W' : World} {G : Nat -> Prop} {b : Nat} {d : Dk} {q : RfP} {i : Nat} {f : Option Fl} (h : RefAt W G b d q) (hb : Bx W' b (refC (d.put i f) q) 273) (hg : W.grownBy W' (some b)) : RefAt W' G b (d.put i f) q := by
 obtain ⟨p1,p2,p3,p4,p5⟩ := put_same d i f
 refine ⟨hb,?_,h.ne,by rw [p3]; exact h.left,h.keep,by rw [p4]; exact h.blk,h.gb,h.gv⟩
 rw [p5]
 exact own_chg h.row (chg_one (F := fun k => k = b) hg rfl) (fun g e hk => h.ne (by rw [e,hk]))
theorem RefAt.text {W : World} {G : Nat -> Prop} {b : Nat} {d : Dk} {q : RfP} {i : Nat} {f : Fl} (h : RefAt W G b d q) (hi : i < 3) (hf : d.file i = some f) (t : List UInt8) : RefAt (W.setCell ⟨b,2 + i * 3 + 1,none⟩ (.string (S t))) G b (d.put i (some ⟨t,f.sync⟩)) q :=
 h.file (by have := h.box.setj (2 + i * 3 + 1) (.string (S t)); rw [refC_put1 hi hf] at this; exact this) (grown_setB _ _ _ _)
theorem RefAt.synced {W : World} {G : Nat -> Prop} {b : Nat} {d : Dk} {q : RfP} {i : Nat} {f : Fl} (h : RefAt W G b d q) (hi : i < 3) (hf : d.file i = some f) (n : Nat) : RefAt (W.setCell ⟨b,2 + i * 3 + 2,none⟩ (.int .i64 (n : Int))) G b (d.put i (some ⟨f.text,n⟩)) q :=
 h.file (by have := h.box.setj (2 + i * 3 + 2) (.int .i64 (n : Int)); rw [refC_put2 hi hf] at this; exact this) (grown_setB _ _ _ _)
theorem RefAt.made {W : World} {G : Nat -> Prop} {b : Nat} {d : Dk} {q : RfP} {i : Nat} (h : RefAt W G b d q) (hi : i < 3) : RefAt (((W.setCell ⟨b,2 + i * 3,none⟩ (.bool true)).setCell ⟨b,2 + i * 3 + 1,none⟩ (.string ⟨#[]⟩)).setCell ⟨b,2 + i * 3 + 2,none⟩ (.int .i64 0)) G b (d.put i (some ⟨[],0⟩)) q :=
 h.file (by have := ((h.box.setj (2 + i * 3) (.bool true)).setj (2 + i * 3 + 1) (.string ⟨#[]⟩)).setj (2 + i * 3 + 2) (.int .i64 0); rw [refC_put3 hi] at this; exact this) (grown_trans (grown_trans (grown_setB _ _ _ _) (grown_setB _ _ _ _)) (grown_setB _ _ _ _))
theorem count_file {d d' : Dk} (h : d.count = (true,d')) (i : Nat) : d'.file i = d.file i := by
 rw [count_ok h]; rfl
theorem RDone.at {G : Nat -> Prop} {b : Nat} {w w1 : World} {d' d2 : Dk} {q : RfP} {w2 : World} (h : RDone G b w d' w1) (h2 : RefAt w2 (Fx G w w1) b d2 q) (hg : w1.grownBy w2 (some b)) (hb : G b) (hs : w2.heap.size = w1.heap.size) : RDone G b w d2 w2 := by
 refine ⟨⟨q,h2.mono ?_⟩,h.2.grown hg (fun k e => by cases e; exact .inl hb)⟩
 rintro k (hk | hk)
 ·exact .inl hk
 ·exact .inr ⟨hk.1,by omega⟩
theorem used_txt (d : Dk) : d.used = (txtO d.f0).length + (txtO d.f1).length + (txtO d.f2).length := by
 have e : ∀ f : Option Fl,(txtO f).length = lenF f := fun f => by cases f <;> rfl
 rw [e,e,e]; rfl
theorem appends_any (G : Nat -> Prop) (b : Nat) (d : Dk) (q : RfP) (i : Nat) (t : List UInt8) (w : World) (hR : RefAt w G b d q) (hok : DkOk d) (hi : i < 3) (hf : (d.file i).isSome = true) (ht : t.length <= 1000000) :
  Calls Tryz.prog 199 #[.pointer (some ⟨b,0,none⟩),.int .i64 (i : Int),.string (S t)] w fun e w' => e = .returned (.int .i64 (d.one (stAppend i t)).1) /\ RDone G b w (d.one (stAppend i t)).2 w' := by
 have HST := rstep_any G b d q w hR hok
 have hgb := hR.gb
 have hok' := hok.count
 obtain ⟨bb,d',hct⟩ : ∃ b d',d.count = (b,d') := ⟨_,_,rfl⟩
 rw [hct] at HST hok'
 change DkOk d' at hok'
 cases bb with
 | false =>
  have HE := one_no (st := stAppend i t) hct
  clear hR hok hct hok'
  go_enter Tryz.func199,Tryz.ntmps199
  go_wp2_with (first | (go_at_call 176; refine HST.mono ?_; rintro e w1 ⟨rfl,hd⟩; have HD : Hid (RDone G b w d' w1) := hd; clear hd))
  go_ret
  exact ⟨by rw [HE]; rfl,by rw [HE]; exact HD.out⟩
 | true =>
  have HE := one_yes (st := stAppend i t) hct
  have hfi := count_file hct i
  rw [<- hfi] at hf
  obtain ⟨f,hf'⟩ : ∃ f,d'.file i = some f := Option.isSome_iff_exists.1 hf
  have hu := used_txt d'
  have hu2 := hok'.used
  have hu3 := hok'.room
  have HT0 := txt_le hok' i
  have ht1 : txtO (d'.file i) = f.text := by rw [hf']; rfl
  have HCL : Hid (∀ (w1 : World) (q' : RfP),RefAt w1 (Fx G w w1) b d' q' -> (w1.cell? ⟨b,0,none⟩ = some (.int .i64 (d'.room : Int)) /\ w1.cell? ⟨b,3,none⟩ = some (.string (S (txtO d'.f0))) /\ w1.cell? ⟨b,6,none⟩ = some (.string (S (txtO d'.f1))) /\ w1.cell? ⟨b,9,none⟩ = some (.string (S (txtO d'.f2))) /\ w1.cell? ⟨b,2 + i * 3 + 1,none⟩ = some (.string (S f.text)) /\ w1.frozen? ⟨b,2 + i * 3 + 1,none⟩ = false)) := fun w1 q' h => by
   have h1 := (file_cells h.box hi).2.1
   rw [ht1] at h1
   exact ⟨h.box.cell (j := 0) rfl,h.box.cell (j := 3) rfl,h.box.cell (j := 6) rfl,h.box.cell (j := 9) rfl,h1,h.box.frozen _⟩
  rw [ht1] at HT0
  have b0 : (txtO d'.f0).length <= 100000 := txt_le hok' 0
  have b1 : (txtO d'.f1).length <= 100000 := txt_le hok' 1
  have b2 : (txtO d'.f2).length <= 100000 := txt_le hok' 2
  have z0 : (S (txtO d'.f0)).size = (txtO d'.f0).length := S_size _
  have z1 : (S (txtO d'.f1)).size = (txtO d'.f1).length := S_size _
  have z2 : (S (txtO d'.f2)).size = (txtO d'.f2).length := S_size _
  have z3 : (S t).size = t.length := S_size _
  have z4 : (S f.text).size = f.text.length := S_size _
  by_cases hroom : d'.room < d'.used + t.length
  ·have HE2 : Hid (d.one (stAppend i t) = (6,d')) := by
    show d.one (stAppend i t) = (6,d')
    rw [HE]; unfold Dk.take
    rw [if_neg (by simp [stAppend]),show (stAppend i t).i = i from rfl,hf']
    show (if (1 : Nat) = 1 then (if d'.room < d'.used + t.length then ((6 : Int),d') else (0,d'.put i (some ⟨f.text ++ t,f.sync⟩))) else _) = _
    rw [if_pos rfl,if_pos hroom]
   have hr2 : (d'.room : Int) < ((txtO d'.f0).length : Int) + ((txtO d'.f1).length : Int) + ((txtO d'.f2).length : Int) + (t.length : Int) := by omega
   clear hR hok hct hok' HE hu hroom hfi hf
   generalize txtO d'.f0 = t0 at *
   generalize txtO d'.f1 = t1 at *
   generalize txtO d'.f2 = t2 at *
   go_enter Tryz.func199,Tryz.ntmps199
   go_wp2_with (first | (go_at_call 176; refine HST.mono ?_; rintro e w1 ⟨rfl,hd⟩; have HD : Hid (RDone G b w d' w1) := hd; obtain ⟨⟨q',hq'⟩,hc'⟩ := hd; obtain ⟨k0,k3,k6,k9,ki,kf⟩ := HCL.out w1 q' hq'; clear hq' hc'))
   go_region
   all_goals
    go_wp2
    go_ret
    exact ⟨by rw [HE2.out]; rfl,by rw [HE2.out]; exact HD.out.below (Below.refl _ _).drew⟩
  ·have HE2 : Hid (d.one (stAppend i t) = (0,d'.put i (some ⟨f.text ++ t,f.sync⟩))) := by
    show d.one (stAppend i t) = (0,d'.put i (some ⟨f.text ++ t,f.sync⟩))
    rw [HE]; unfold Dk.take
    rw [if_neg (by simp [stAppend]),show (stAppend i t).i = i from rfl,hf']
    show (if (1 : Nat) = 1 then (if d'.room < d'.used + t.length then ((6 : Int),d') else (0,d'.put i (some ⟨f.text ++ t,f.sync⟩))) else _) = _
    rw [if_pos rfl,if_neg hroom]
   have hr2 : ¬ (d'.room : Int) < ((txtO d'.f0).length : Int) + ((txtO d'.f1).length : Int) + ((txtO d'.f2).length : Int) + (t.length : Int) := by omega
   have HPT : Hid (∀ (w1 : World) (q' : RfP),RefAt w1 (Fx G w w1) b d' q' -> RefAt (w1.setCell ⟨b,2 + i * 3 + 1,none⟩ (.string (S (f.text ++ t)))) (Fx G w w1) b (d'.put i (some ⟨f.text ++ t,f.sync⟩)) q') := fun w1 q' h => h.text hi hf' _
   have ht2 : t.length <= 100000 := by omega
   clear hR hok hct hok' HE hu hroom hfi hf ht1 hf'
   generalize txtO d'.f0 = t0 at *
   generalize txtO d'.f1 = t1 at *
   generalize txtO d'.f2 = t2 at *
   generalize f.text = ft at *
   go_enter Tryz.func199,Tryz.ntmps199
   go_wp2_with (first | (go_at_call 176; refine HST.mono ?_; rintro e w1 ⟨rfl,hd⟩; have HD : Hid (RDone G b w d' w1) := hd; obtain ⟨⟨q',hq'⟩,hc'⟩ := hd; obtain ⟨k0,k3,k6,k9,ki,kf⟩ := HCL.out w1 q' hq'; have HQ := HPT.out w1 q' hq'; clear hq' hc'))
   go_region
   all_goals
    go_wp2_with fail
    go_region
    all_goals
     go_wp2
     go_ret
     refine ⟨by rw [HE2.out]; rfl,?_⟩
     rw [HE2.out,S_append]
     exact (HD.out.at HQ (grown_setB _ _ _ _) hgb (by simp)).below (Below.refl _ _).drew.drew
theorem syncs_any (G : Nat -> Prop) (b : Nat) (d : Dk) (q : RfP) (i : Nat) (w : World) (hR : RefAt w G b d q) (hok : DkOk d) (hi : i < 3) (hf : (d.file i).isSome = true) :
  Calls Tryz.prog 175 #[.pointer (some ⟨b,0,none⟩),.int .i64 (i : Int)] w fun e w' => e = .returned (.int .i64 (d.one (stSync i)).1) /\ RDone G b w (d.one (stSync i)).2 w' := by
 have HST := rstep_any G b d q w hR hok
 have hgb := hR.gb
 have hok' := hok.count
 obtain ⟨bb,d',hct⟩ : ∃ b d',d.count = (b,d') := ⟨_,_,rfl⟩
 rw [hct] at HST hok'
 change DkOk d' at hok'
 cases bb with
 | false =>
  have HE := one_no (st := stSync i) hct
  clear hR hok hct hok'
  go_enter Tryz.func175,Tryz.ntmps175
  go_wp2_with (first | (go_at_call 176; refine HST.mono ?_; rintro e w1 ⟨rfl,hd⟩; have HD : Hid (RDone G b w d' w1) := hd; clear hd))
  go_ret
  exact ⟨by rw [HE]; rfl,by rw [HE]; exact HD.out⟩
 | true =>
  have HE := one_yes (st := stSync i) hct
  have hfi := count_file hct i
  rw [<- hfi] at hf
  obtain ⟨f,hf'⟩ : ∃ f,d'.file i = some f := Option.isSome_iff_exists.1 hf
  have ht1 : txtO (d'.file i) = f.text := by rw [hf']; rfl
  have HCL : Hid (∀ (w1 : World) (q' : RfP),RefAt w1 (Fx G w w1) b d' q' -> (w1.cell? ⟨b,2 + i * 3 + 1,none⟩ = some (.string (S f.text)) /\ w1.cell? ⟨b,2 + i * 3 + 2,none⟩ = some (.int .i64 (synO (d'.file i) : Int)) /\ w1.frozen? ⟨b,2 + i * 3 + 2,none⟩ = false)) := fun w1 q' h => by
   have h1 := (file_cells h.box hi).2
   rw [ht1] at h1
   exact ⟨h1.1,h1.2,h.box.frozen _⟩
  have z4 : (S f.text).size = f.text.length := S_size _
  have HE2 : Hid (d.one (stSync i) = (0,d'.put i (some ⟨f.text,f.text.length⟩))) := by
   show d.one (stSync i) = (0,d'.put i (some ⟨f.text,f.text.length⟩))
   rw [HE]; unfold Dk.take
   rw [if_neg (by simp [stSync]),show (stSync i).i = i from rfl,hf']
   rfl
  have HPT : Hid (∀ (w1 : World) (q' : RfP),RefAt w1 (Fx G w w1) b d' q' -> RefAt (w1.setCell ⟨b,2 + i * 3 + 2,none⟩ (.int .i64 (f.text.length : Int))) (Fx G w w1) b (d'.put i (some ⟨f.text,f.text.length⟩)) q') := fun w1 q' h => h.synced hi hf' _
  clear hR hok hct hok' HE hfi hf ht1 hf'
  generalize synO (d'.file i) = Y at *
  generalize f.text = ft at *
  go_enter Tryz.func175,Tryz.ntmps175
  go_wp2_with (first | (go_at_call 176; refine HST.mono ?_; rintro e w1 ⟨rfl,hd⟩; have HD : Hid (RDone G b w d' w1) := hd; obtain ⟨⟨q',hq'⟩,hc'⟩ := hd; obtain ⟨k0,k1,kf⟩ := HCL.out w1 q' hq'; have HQ := HPT.out w1 q' hq'; clear hq' hc'))
  go_region
  all_goals
   go_wp2
   go_ret
   refine ⟨by rw [HE2.out]; rfl,?_⟩
   rw [HE2.out]
   exact (HD.out.at HQ (grown_setB _ _ _ _) hgb (by simp)).below (Below.refl _ _).drew
theorem rsteps_three (d : Dk) (a b c : St) : d.steps [a,b,c] = if (d.one a).1 = 0 then (if ((d.one a).2.one b).1 = 0 then ((d.one a).2.one b).2.one c else (d.one a).2.one b) else d.one a := by
 rw [steps_cons,steps_cons,steps_cons]
 simp only [Dk.steps]
 split
 ·split
  ·generalize ((d.one a).2.one b).2.one c = r
   obtain ⟨e,x⟩ := r
   split
   ·rename_i h; simp only at h; rw [h]
   ·rfl
  ·rfl
 ·rfl
theorem steps_one1 (d : Dk) (a : St) : d.steps [a] = d.one a := by
 rw [steps_cons]
 simp only [Dk.steps]
 generalize d.one a = r
 obtain ⟨e,x⟩ := r
 split
 ·rename_i h; simp only at h; rw [h]
 ·rfl
theorem one_file {d : Dk} {i : Nat} {t : List UInt8} (hi : i < 3) (h0 : (d.one (stMake i)).1 = 0) (h1 : ((d.one (stMake i)).2.one (stAppend i t)).1 = 0) : (((d.one (stMake i)).2.one (stAppend i t)).2.file i).isSome = true := by
 obtain ⟨bb,d1,hct⟩ : ∃ b d',(d.one (stMake i)).2.count = (b,d') := ⟨_,_,rfl⟩
 cases bb with
 | false => rw [one_no hct] at h1; cases h1
 | true =>
  rw [one_yes hct] at h1 ⊢
  unfold Dk.take at h1 ⊢
  rw [if_neg (by simp [stAppend])] at h1 ⊢
  split at h1
  ·cases h1
  ·rename_i f hf
   rw [if_pos (show (stAppend i t).tag = 1 from rfl)] at h1 ⊢
   split at h1
   ·cases h1
   ·rename_i hroom
    rw [if_neg hroom]
    show ((d1.put i (some ⟨f.text ++ t,f.sync⟩)).file i).isSome = true
    rw [file_put _ _ _ _ (show i <= 2 by omega),if_pos rfl]
    rfl
theorem make_there {d d' : Dk} {i : Nat} (hi : i < 3) (h : d.count = (true,d')) : d.one (stMake i) = (0,d'.put i (some ⟨[],0⟩)) := by
 rw [one_yes h]; unfold Dk.take; rw [if_pos (show (stMake i).tag = 0 from rfl)]; rfl
theorem makes_any (G : Nat -> Prop) (b : Nat) (d : Dk) (q : RfP) (i : Nat) (t : List UInt8) (w : World) (hR : RefAt w G b d q) (hok : DkOk d) (hi : i < 3) (ht : t.length <= 1000000) :
  Calls Tryz.prog 172 #[.pointer (some ⟨b,0,none⟩),.int .i64 (i : Int),.string (S t)] w fun e w' => e = .returned (.int .i64 (d.steps [stMake i,stAppend i t,stSync i]).1) /\ RDone G b w (d.steps [stMake i,stAppend i t,stSync i]).2 w' := by
 have HST := rstep_any G b d q w hR hok
 have hgb := hR.gb
 have hok' := hok.count
 rw [rsteps_three]
 obtain ⟨bb,d',hct⟩ : ∃ b d',d.count = (b,d') := ⟨_,_,rfl⟩
 rw [hct] at HST hok'
 change DkOk d' at hok'
 cases bb with
 | false =>
  have HE : Hid ((if (d.one (stMake i)).1 = 0 then (if ((d.one (stMake i)).2.one (stAppend i t)).1 = 0 then ((d.one (stMake i)).2.one (stAppend i t)).2.one (stSync i) else (d.one (stMake i)).2.one (stAppend i t)) else d.one (stMake i)) = (8,d')) := by
   rw [one_no (st := stMake i) hct]; rfl
  generalize (if (d.one (stMake i)).1 = 0 then (if ((d.one (stMake i)).2.one (stAppend i t)).1 = 0 then ((d.one (stMake i)).2.one (stAppend i t)).2.one (stSync i) else (d.one (stMake i)).2.one (stAppend i t)) else d.one (stMake i)) = R at *
  clear hR hok hct hok'
  go_enter Tryz.func172,Tryz.ntmps172
  go_wp2_with (first | (go_at_call 176; refine HST.mono ?_; rintro e w1 ⟨rfl,hd⟩; have HD : Hid (RDone G b w d' w1) := hd; clear hd))
  go_ret
  exact ⟨by rw [HE.out]; rfl,by rw [HE.out]; exact HD.out⟩
 | true =>
  have hm := make_there hi hct
  have hofile := one_file (d := d) (i := i) (t := t) hi (by rw [hm])
  rw [hm] at hofile ⊢
  rw [if_pos rfl]
  simp only at hofile ⊢
  have hfm : ((d'.put i (some ⟨[],0⟩)).file i).isSome = true := by rw [file_put _ _ _ _ (show i <= 2 by omega),if_pos rfl]; rfl
  have hokm : DkOk (d'.put i (some ⟨[],0⟩)) := by
   have := hok'.take (s := stMake i) (fine_make i)
   exact this
  have hoka : DkOk ((d'.put i (some ⟨[],0⟩)).one (stAppend i t)).2 := by
   have := hokm.steps [stAppend i t] (by intro s hs; simp at hs; subst hs; exact fine_append _ _)
   rw [steps_one1] at this
   exact this
  have HMD : Hid (∀ (w1 : World) (q' : RfP),RefAt w1 (Fx G w w1) b d' q' -> RDone G b w d' w1 -> RDone G b w (d'.put i (some ⟨[],0⟩)) (((w1.setCell ⟨b,2 + i * 3,none⟩ (.bool true)).setCell ⟨b,2 + i * 3 + 1,none⟩ (.string ⟨#[]⟩)).setCell ⟨b,2 + i * 3 + 2,none⟩ (.int .i64 0))) := fun w1 q' h h2 =>
   h2.at (h.made hi) (grown_trans (grown_trans (grown_setB _ _ _ _) (grown_setB _ _ _ _)) (grown_setB _ _ _ _)) hgb (by simp)
  have HFR : Hid (∀ (w1 : World) (q' : RfP),RefAt w1 (Fx G w w1) b d' q' -> (∃ u,w1.cell? ⟨b,2 + i * 3,none⟩ = some (.bool u)) /\ (∃ u,w1.cell? ⟨b,2 + i * 3 + 1,none⟩ = some (.string u)) /\ (∃ u,w1.cell? ⟨b,2 + i * 3 + 2,none⟩ = some (.int .i64 u)) /\ w1.frozen? ⟨b,2 + i * 3,none⟩ = false /\ w1.frozen? ⟨b,2 + i * 3 + 1,none⟩ = false /\ w1.frozen? ⟨b,2 + i * 3 + 2,none⟩ = false) := fun w1 q' h => by
   obtain ⟨h1,h2,h3⟩ := file_cells h.box hi
   exact ⟨⟨_,h1⟩,⟨_,h2⟩,⟨_,h3⟩,h.box.frozen _,h.box.frozen _,h.box.frozen _⟩
  have HAP : Hid (∀ w1 : World,RDone G b w (d'.put i (some ⟨[],0⟩)) w1 -> Calls Tryz.prog 199 #[.pointer (some ⟨b,0,none⟩),.int .i64 (i : Int),.string (S t)] w1 fun e w' => e = .returned (.int .i64 ((d'.put i (some ⟨[],0⟩)).one (stAppend i t)).1) /\ RDone G b w ((d'.put i (some ⟨[],0⟩)).one (stAppend i t)).2 w') := fun w1 h => by
   obtain ⟨⟨q1,h1⟩,h2⟩ := h
   exact (appends_any _ b _ q1 i t w1 h1 hokm hi hfm ht).mono fun e w' ⟨a1,a2⟩ => ⟨a1,RDone.then ⟨⟨q1,h1⟩,h2⟩ a2⟩
  have HSY : Hid (((d'.put i (some ⟨[],0⟩)).one (stAppend i t)).1 = 0 -> ∀ w1 : World,RDone G b w ((d'.put i (some ⟨[],0⟩)).one (stAppend i t)).2 w1 -> Calls Tryz.prog 175 #[.pointer (some ⟨b,0,none⟩),.int .i64 (i : Int)] w1 fun e w' => e = .returned (.int .i64 (((d'.put i (some ⟨[],0⟩)).one (stAppend i t)).2.one (stSync i)).1) /\ RDone G b w (((d'.put i (some ⟨[],0⟩)).one (stAppend i t)).2.one (stSync i)).2 w') := fun h0 w1 h => by
   obtain ⟨⟨q1,h1⟩,h2⟩ := h
   exact (syncs_any _ b _ q1 i w1 h1 hoka hi (hofile h0)).mono fun e w' ⟨a1,a2⟩ => ⟨a1,RDone.then ⟨⟨q1,h1⟩,h2⟩ a2⟩
  clear hofile hoka hfm hm
  generalize (d'.put i (some ⟨[],0⟩)).one (stAppend i t) = r at *
  obtain ⟨re,rd⟩ := r
  simp only at HAP HSY ⊢
  by_cases h0 : re = 0
  ·subst h0
   rw [if_pos rfl]
   have HSY2 : Hid (∀ w1 : World,RDone G b w rd w1 -> _) := HSY.out rfl
   clear HSY
   generalize rd.one (stSync i) = r2 at *
   clear hR hok hct hok' hokm
   go_enter Tryz.func172,Tryz.ntmps172
   go_wp2_with (first | (go_at_call 176; refine HST.mono ?_; rintro e w1 ⟨rfl,hd⟩; have HD : Hid (RDone G b w d' w1) := hd; obtain ⟨⟨q',hq'⟩,hc'⟩ := hd; obtain ⟨⟨u0,k0⟩,⟨u1,k1⟩,⟨u2,k2⟩,kf0,kf1,kf2⟩ := HFR.out w1 q' hq'; have HQ := HMD.out w1 q' hq' HD.out; have HQ1 := HAP.out _ HQ; clear hq' hc' HQ) | (go_at_call 199; refine HQ1.mono ?_; rintro e w2 ⟨rfl,hd2⟩; have HD2 : Hid (RDone G b w rd w2) := hd2; clear hd2) | (go_at_call 175; refine (HSY2.out w2 HD2.out).mono ?_; rintro e w3 ⟨rfl,hd3⟩; have HD3 : Hid (RDone G b w r2.2 w3) := hd3; clear hd3))
   go_ret
   exact ⟨rfl,HD3.out⟩
  ·rw [if_neg h0]
   clear hR hok hct hok' hokm
   go_enter Tryz.func172,Tryz.ntmps172
   go_wp2_with (first | (go_at_call 176; refine HST.mono ?_; rintro e w1 ⟨rfl,hd⟩; have HD : Hid (RDone G b w d' w1) := hd; obtain ⟨⟨q',hq'⟩,hc'⟩ := hd; obtain ⟨⟨u0,k0⟩,⟨u1,k1⟩,⟨u2,k2⟩,kf0,kf1,kf2⟩ := HFR.out w1 q' hq'; have HQ := HMD.out w1 q' hq' HD.out; have HQ1 := HAP.out _ HQ; clear hq' hc' HQ) | (go_at_call 199; refine HQ1.mono ?_; rintro e w2 ⟨rfl,hd2⟩; have HD2 : Hid (RDone G b w rd w2) := hd2; clear hd2))
   go_ret
   exact ⟨rfl,HD2.out⟩
theorem RefAt.opened {W : World} {G : Nat -> Prop} {b : Nat} {d : Dk} {q : RfP} {blk : Nat} {c1 c2 : Int} (h : RefAt W G b d q) : RefAt (((((W.setCell ⟨b,13,none⟩ (.bool true)).setCell ⟨b,14,none⟩ (.int .i64 (blk : Int))).setCell ⟨b,15,none⟩ (.int .i64 c1)).setCell ⟨b,16,none⟩ (.int .i64 c2)).setCell ⟨b,17,none⟩ (.slice none 0 0)) G b (d.opens blk) ⟨q.keep,blk,c1,c2,.slice none 0 0⟩ :=
 ⟨((((h.box.setj 13 _).setj 14 _).setj 15 _).setj 16 _).setj 17 _,World.ownsRow_nil _ _ _ _,fun e => (by cases e),h.left,h.keep,fun b e => by cases e; rfl,h.gb,fun g e => (by cases e)⟩
theorem opens_any (G : Nat -> Prop) (b : Nat) (d : Dk) (q : RfP) (blk : Nat) (c1 c2 : Int) (w : World) (hR : RefAt w G b d q) :
  Calls Tryz.prog 173 #[.pointer (some ⟨b,0,none⟩),.agg #[.int .i64 (blk : Int),.int .i64 c1,.int .i64 c2]] w fun e w' => e = .returned (.tuple #[]) /\ RDone G b w (d.opens blk) w' := by
 have hb : ∀ o : Obj,Bx (w.alloc o) b (refC d q) 273 := fun o => hR.box.alloc o
 have f13 := hR.box.frozen 13
 have f14 := hR.box.frozen 14
 have f15 := hR.box.frozen 15
 have f16 := hR.box.frozen 16
 have f17 := hR.box.frozen 17
 have c13 := hR.box.cell (j := 13) rfl
 have c14 := hR.box.cell (j := 14) rfl
 have c15 := hR.box.cell (j := 15) rfl
 have c16 := hR.box.cell (j := 16) rfl
 have c17 := hR.box.cell (j := 17) rfl
 have hlt := hR.box.lt
 have hne : b ≠ w.heap.size := by omega
 have hne2 : w.heap.size ≠ b := by omega
 have HO : Hid (RefAt (((((w.setCell ⟨b,13,none⟩ (.bool true)).setCell ⟨b,14,none⟩ (.int .i64 (blk : Int))).setCell ⟨b,15,none⟩ (.int .i64 c1)).setCell ⟨b,16,none⟩ (.int .i64 c2)).setCell ⟨b,17,none⟩ (.slice none 0 0)) G b (d.opens blk) ⟨q.keep,blk,c1,c2,.slice none 0 0⟩) := hR.opened
 have hgb := hR.gb
 clear hR hb
 go_enter Tryz.func173,Tryz.ntmps173
 go_wp2
 refine bodyPost_end (v := .tuple #[]) ?_ rfl ⟨rfl,?_⟩
 ·simp [results,Tryz.results173,go_sem]
 ·have h1 : RDone G b w (d.opens blk) (((((w.setCell ⟨b,13,none⟩ (.bool true)).setCell ⟨b,14,none⟩ (.int .i64 (blk : Int))).setCell ⟨b,15,none⟩ (.int .i64 c1)).setCell ⟨b,16,none⟩ (.int .i64 c2)).setCell ⟨b,17,none⟩ (.slice none 0 0)) :=
   ⟨⟨_,HO.out.mono (fun k hk => .inl hk)⟩,chg_one (grown_trans (grown_trans (grown_trans (grown_trans (grown_setB _ _ _ _) (grown_setB _ _ _ _)) (grown_setB _ _ _ _)) (grown_setB _ _ _ _)) (grown_setB _ _ _ _)) hgb⟩
  exact h1.below ((Below.refl _ _).alloc (Nat.le_refl _) _)
theorem all_set {ds : List (Dk × Dk)} {j : Nat} {d' : Dk} {x : Dk × Dk} (h : ∀ d ∈ ds,d.1 = d.2 /\ DkOk d.1) (hok : DkOk d') (a b : Dk × Dk) (hb : b = (d',d')) : ∀ d ∈ (ds.set j a).set j b,d.1 = d.2 /\ DkOk d.1 := by
 intro d hd
 rw [List.set_set] at hd
 rcases List.mem_or_eq_of_mem_set hd with h1 | h1
 ·exact h d h1
 ·subst h1; subst hb; exact ⟨rfl,hok⟩
theorem law_two {E : Sent} {n bw nd c : Nat} {m : Bool} {Fr : Nat -> Prop} {w : World} {κ : Nat -> Nat} {ds : List (Dk × Dk)} {P : LawP} {ls : List Mark}
  (h1 : LawAt w κ n bw ds P ls) (h2 : Env0 n w E) (h3 : ∀ d ∈ ds,d.1 = d.2 /\ DkOk d.1) (h4 : m = false -> ls = []) (h5 : ds.length = nd) (h6 : ls.length <= 4 * c /\ 0 <= P.next /\ P.next <= (c : Int)) (h7 : ∀ k,Fr k -> κ k = 1 /\ k < w.heap.size)
  {j : Nat} {d d' : Dk} {p : Nat × Nat × Nat} (hd : ds[j]? = some (d,d)) (hp : P.ps[j]? = some p) (hok' : DkOk d') (fx fy : Nat) (ax ay : Array Value) (code : Int)
  (HX : ∀ (w1 : World) (G : Nat -> Prop) (q : StP),Env0 n w1 E -> (∀ k,G k -> n <= k /\ k < w1.heap.size) -> StoreAt w1 G p.2.1 d q -> Calls Tryz.prog fx ax w1 fun e w' => e = .returned (.int .i64 code) /\ Done E G p.2.1 w1 d' w')
  (HY : ∀ (w1 : World) (G : Nat -> Prop) (q : RfP),(∀ k,G k -> k < w1.heap.size) -> RefAt w1 G p.2.2 d q -> Calls Tryz.prog fy ay w1 fun e w' => e = .returned (.int .i64 code) /\ RDone G p.2.2 w1 d' w') :
  ∃ XD : World -> World -> Prop,
   (∀ w1 : World,Below w.heap.size w w1 -> Calls Tryz.prog fx ax w1 fun e w2 => e = .returned (.int .i64 code) /\ XD w1 w2) /\
   (∀ w1 w2 : World,XD w1 w2 -> (∀ k,w.heap.size <= k -> k < w1.heap.size -> w2.heap[k]? = w1.heap[k]?) /\ Bx w2 p.1 #[.pointer (some ⟨p.2.1,0,none⟩),.pointer (some ⟨p.2.2,0,none⟩)] 198 /\ w1.heap.size <= w2.heap.size /\
    ∀ w3 : World,Below w2.heap.size w2 w3 -> Calls Tryz.prog fy ay w3 fun e w' => e = .returned (.int .i64 code) /\ Inv E n bw m nd c Fr w' /\ Chg (Mv n Fr) w w' /\ (∀ k,Rg κ n w 0 k -> w'.heap[k]? = w.heap[k]?) /\ ∀ k,w.heap.size <= k -> k < w1.heap.size -> w'.heap[k]? = w1.heap[k]?) := by
 have hn := h2.le
 refine ⟨fun w1 w2 => Below w.heap.size w w1 /\ LawAt w2 (recol κ w1 w2 (2 * j + 2)) n bw (ds.set j (d',d)) P ls /\ Chg (Rg κ n w1 (2 * j + 2)) w1 w2 /\ Env0 n w2 E,?_,?_⟩
 ·intro w1 hb
  have hL := h1.below hb
  have hE : Env0 n w1 E := h2.below (hb.mono hn)
  obtain ⟨q,hq⟩ := (hL.pairs j _ p hd hp).px
  refine (HX w1 _ q hE (fun k hk => ⟨hk.2.1,hk.2.2⟩) hq).mono ?_
  rintro e w2 ⟨rfl,hD⟩
  exact ⟨rfl,hb,hL.didX (Nat.le_trans hn hb.size) hd hp hD,hD.2,hE.chg hD.2 (fun k hk => hk.2.1)⟩
 ·rintro w1 w2 ⟨hb,hL,hc,hE⟩
  have hL1 := h1.below hb
  have hp2 := hL.pairs j (d',d) p (by rw [List.getElem?_set]; simp [(List.getElem?_eq_some_iff.1 hd).1]) hp
  refine ⟨fun k hk hk1 => hc.keep k hk1 (fun hr => ?_),hp2.box,hc.size,fun w3 hb3 => ?_⟩
  ·have h8 := h1.out k hk
   have h9 := hr.1
   omega
  ·have hL3 := hL.below hb3
   obtain ⟨r,hr⟩ := (hL3.pairs j (d',d) p (by rw [List.getElem?_set]; simp [(List.getElem?_eq_some_iff.1 hd).1]) hp).py
   refine (HY w3 _ r (fun k hk => hk.2.2) hr).mono ?_
   rintro e w4 ⟨rfl,hD⟩
   refine ⟨rfl,?_,?_,?_,?_⟩
   ·have hL4 := hL3.didY (Nat.le_trans hn (Nat.le_trans hb.size (Nat.le_trans hc.size hb3.size))) (j := j) (d := (d',d)) (by rw [List.getElem?_set]; simp [(List.getElem?_eq_some_iff.1 hd).1]) hp hD
    refine ⟨_,_,P,ls,hL4,?_,all_set (x := (d,d)) h3 hok' _ _ rfl,h4,by simpa using h5,h6,fun k hk => ?_⟩
    ·exact (hE.below (hb3.mono hE.le)).chg hD.2 (fun k hk => hk.2.1)
    ·obtain ⟨h8,h9⟩ := h7 k hk
     have a1 := hb.size
     have a2 := hc.size
     have a3 := hb3.size
     have a4 := hD.2.size
     refine ⟨?_,by omega⟩
     rw [recol_old (by omega),recol_old (by omega)]
     exact h8
   ·have e1 : Chg (Mv n Fr) w w1 := Chg.of_below hb
    have e2 : Chg (Fx (Mv n Fr) w w1) w1 w2 := hc.mono (fun k hk hr => by
     by_cases hkw : k < w.heap.size
     ·exact .inl ⟨hr.2.1,fun hf => by have := (h7 k hf).1; have := hr.1; omega⟩
     ·exact .inr ⟨by omega,hk⟩)
    have e12 := e1.trans e2
    have e3 : Chg (Fx (Mv n Fr) w w2) w2 w3 := Chg.of_below hb3
    have e123 := e12.trans e3
    refine e123.trans (hD.2.mono (fun k hk hr => ?_))
    by_cases hkw : k < w.heap.size
    ·refine .inl ⟨hr.2.1,fun hf => ?_⟩
     have h8 := (h7 k hf).1
     have h9 := hr.1
     rw [recol_old (Nat.lt_of_lt_of_le hkw hb.size)] at h9
     omega
    ·exact .inr ⟨by omega,hk⟩
   ·intro k hk
    have a1 := hb.size
    have a2 := hc.size
    have a3 := hb3.size
    have hkw := hk.2.2
    have e4 : w4.heap[k]? = w3.heap[k]? := hD.2.keep k (by omega) (fun hr => by
     have h9 := hr.1
     rw [recol_old (by omega)] at h9
     have := hk.1
     omega)
    have e3 : w3.heap[k]? = w2.heap[k]? := hb3.block k (by omega)
    have e2 : w2.heap[k]? = w1.heap[k]? := hc.keep k (by omega) (fun hr => by have := hr.1; have := hk.1; omega)
    have e1 : w1.heap[k]? = w.heap[k]? := hb.block k hkw
    rw [e4,e3,e2,e1]
   ·intro k hk hk1
    have a2 := hc.size
    have a3 := hb3.size
    have e4 : w4.heap[k]? = w3.heap[k]? := hD.2.keep k (by omega) (fun hr => by
     have h9 := hr.1
     rw [recol_old (by omega)] at h9
     have := h1.out k hk
     omega)
    have e3 : w3.heap[k]? = w2.heap[k]? := hb3.block k (by omega)
    have e2 : w2.heap[k]? = w1.heap[k]? := hc.keep k (by omega) (fun hr => by have := hr.1; have := h1.out k hk; omega)
    rw [e4,e3,e2]
def Left (E : Sent) (n bw : Nat) (m : Bool) (nd c : Nat) (Fr : Nat -> Prop) (k10 : Prop) (pv : Value) (w w' : World) : Prop :=
 (∃ c',c' <= c + 1 /\ (k10 -> c' = c) /\ Inv E n bw m nd c' Fr w') /\ Chg (Mv n Fr) w w' /\ w'.cell? ⟨bw,0,none⟩ = w.cell? ⟨bw,0,none⟩ /\ ∀ g,pv.ownBlock = some g -> w'.heap[g]? = w.heap[g]?
def Does (m : Bool) (o : OpV) : Prop := ∀ (E : Sent) (n bw nd c : Nat) (Fr : Nat -> Prop) (w : World) (κ : Nat -> Nat) (ds : List (Dk × Dk)) (P : LawP) (ls : List Mark) (j : Nat) (d : Dk) (p : Nat × Nat × Nat),
 LawAt w κ n bw ds P ls -> Env0 n w E -> (∀ d ∈ ds,d.1 = d.2 /\ DkOk d.1) -> (m = false -> ls = []) -> ds.length = nd -> (ls.length <= 4 * c /\ 0 <= P.next /\ P.next <= (c : Int)) -> (∀ k,Fr k -> κ k = 1 /\ k < w.heap.size) -> c <= 1353245081000 -> ds[j]? = some (d,d) -> P.ps[j]? = some p ->
 Calls Tryz.prog 65 #[.pointer (some ⟨bw,0,none⟩),.pointer (some ⟨p.1,0,none⟩),o.val] w fun e w' => e = .returned (.bool true) /\ Left E n bw m nd c Fr (o.kind = 10) P.pv w w'
def opC (o : OpV) : Array Value := #[.int .i64 o.kind,.int .i64 o.at',.int .i64 o.x,.int .i64 o.y,.string o.s,.string o.t,.string o.u,.int .i64 o.c0,.int .i64 o.c1,.int .i64 o.c2]
def dS (pb px py ob : Nat) (x y : Int) (s t : ByteArray) (c0 c1 c2 : Int) (w' : World) : Prop :=
 (w'.cell? ⟨pb,0,none⟩ = some (.pointer (some ⟨px,0,none⟩)) /\ w'.cell? ⟨pb,1,none⟩ = some (.pointer (some ⟨py,0,none⟩))) /\ (w'.cell? ⟨ob,2,none⟩ = some (.int .i64 x) /\ w'.cell? ⟨ob,3,none⟩ = some (.int .i64 y)) /\ (w'.cell? ⟨ob,4,none⟩ = some (.string s) /\ w'.cell? ⟨ob,5,none⟩ = some (.string t)) /\ (w'.cell? ⟨ob,7,none⟩ = some (.int .i64 c0) /\ w'.cell? ⟨ob,8,none⟩ = some (.int .i64 c1) /\ w'.cell? ⟨ob,9,none⟩ = some (.int .i64 c2))
theorem dS_of {w' : World} {pb px py ob : Nat} {o : OpV} (h1 : Bx w' pb #[.pointer (some ⟨px,0,none⟩),.pointer (some ⟨py,0,none⟩)] 198) (h2 : Bx w' ob (opC o) 68) : dS pb px py ob o.x o.y o.s o.t o.c0 o.c1 o.c2 w' :=
 ⟨⟨h1.cell (j := 0) rfl,h1.cell (j := 1) rfl⟩,⟨h2.cell (j := 2) rfl,h2.cell (j := 3) rfl⟩,⟨h2.cell (j := 4) rfl,h2.cell (j := 5) rfl⟩,h2.cell (j := 7) rfl,h2.cell (j := 8) rfl,h2.cell (j := 9) rfl⟩
theorem does_two {E : Sent} {n bw nd c : Nat} {m : Bool} {Fr : Nat -> Prop} {w : World} {κ : Nat -> Nat} {ds : List (Dk × Dk)} {P : LawP} {ls : List Mark} (o : OpV)
  (h1 : LawAt w κ n bw ds P ls) (h2 : Env0 n w E) (h3 : ∀ d ∈ ds,d.1 = d.2 /\ DkOk d.1) (h4 : m = false -> ls = []) (h5 : ds.length = nd) (h6 : ls.length <= 4 * c /\ 0 <= P.next /\ P.next <= (c : Int)) (h7 : ∀ k,Fr k -> κ k = 1 /\ k < w.heap.size)
  {j : Nat} {d d' : Dk} {p : Nat × Nat × Nat} (hd : ds[j]? = some (d,d)) (hp : P.ps[j]? = some p) (hok' : DkOk d') (fx fy : Nat) (ax ay : Array Value) (code : Int)
  (HX : ∀ (w1 : World) (G : Nat -> Prop) (q : StP),Env0 n w1 E -> (∀ k,G k -> n <= k /\ k < w1.heap.size) -> StoreAt w1 G p.2.1 d q -> Calls Tryz.prog fx ax w1 fun e w' => e = .returned (.int .i64 code) /\ Done E G p.2.1 w1 d' w')
  (HY : ∀ (w1 : World) (G : Nat -> Prop) (q : RfP),(∀ k,G k -> k < w1.heap.size) -> RefAt w1 G p.2.2 d q -> Calls Tryz.prog fy ay w1 fun e w' => e = .returned (.int .i64 code) /\ RDone G p.2.2 w1 d' w') :
  ∃ XD : World -> Prop,dS p.1 p.2.1 p.2.2 w.heap.size o.x o.y o.s o.t o.c0 o.c1 o.c2 (w.alloc (.cells (opC o) 68)) /\
   (∀ w1 : World,Below (w.alloc (.cells (opC o) 68)).heap.size (w.alloc (.cells (opC o) 68)) w1 -> Calls Tryz.prog fx ax w1 fun e w2 => e = .returned (.int .i64 code) /\ XD w2) /\
   (∀ w2 : World,XD w2 -> dS p.1 p.2.1 p.2.2 w.heap.size o.x o.y o.s o.t o.c0 o.c1 o.c2 w2 /\ ∀ w3 : World,Below w2.heap.size w2 w3 -> Calls Tryz.prog fy ay w3 fun e w' => e = .returned (.int .i64 code) /\ dS p.1 p.2.1 p.2.2 w.heap.size o.x o.y o.s o.t o.c0 o.c1 o.c2 w' /\ Left E n bw m nd c Fr (o.kind = 10) P.pv w w') := by
 obtain ⟨XD,hX,hY⟩ := law_two h1 h2 h3 h4 h5 h6 h7 hd hp hok' fx fy ax ay code HX HY
 have hpr := h1.pairs j _ p hd hp
 have hB0 : Below w.heap.size w (w.alloc (.cells (opC o) 68)) := (Below.refl _ _).alloc (Nat.le_refl _) _
 have hz0 : (w.alloc (.cells (opC o) 68)).heap.size = w.heap.size + 1 := by simp
 refine ⟨fun w2 => ∃ w1,Below (w.alloc (.cells (opC o) 68)).heap.size (w.alloc (.cells (opC o) 68)) w1 /\ XD w1 w2,?_,?_,?_⟩
 ·exact dS_of (hpr.box.below hB0 hpr.box.lt) (bx_new _ _ _ rfl)
 ·intro w1 hb
  refine (hX w1 (hB0.trans (hb.mono (by omega)))).mono ?_
  rintro e w2 ⟨rfl,hx⟩
  exact ⟨rfl,w1,hb,hx⟩
 ·rintro w2 ⟨w1,hb,hx⟩
  obtain ⟨k1,k2,k3,k4⟩ := hY w1 w2 hx
  have hz1 := hb.size
  have ho1 : Bx w1 w.heap.size (opC o) 68 := (bx_new w (opC o) _ rfl).below hb (by omega)
  refine ⟨dS_of k2 ((k1 _ (Nat.le_refl _) (by omega)).trans ho1),fun w3 hb3 => (k4 w3 hb3).mono ?_⟩
  rintro e w' ⟨rfl,a1,a2,a3,a4⟩
  refine ⟨rfl,dS_of ((a3 _ hpr.col).trans hpr.box) ((a4 _ (Nat.le_refl _) (by omega)).trans ho1),⟨c,by omega,fun _ => rfl,a1⟩,a2,?_,fun g hg => a3 g (h1.crow g hg)⟩
  unfold World.cell?
  rw [a3 _ h1.col]
theorem rcreate_bad {d : Dk} {a b c : Int} (h : wellB a b c = false) : d.create a b c = (1,d) := by unfold Dk.create; rw [if_pos h]
theorem rcreate_down {d : Dk} {a b c : Int} (h : wellB a b c = true) (hd : d.down = true) : d.create a b c = (7,d) := by unfold Dk.create; rw [if_neg (by simp [h]),if_pos hd]
theorem rcreate_there {d : Dk} {a b c : Int} (h : wellB a b c = true) (hd : d.down = false) (hf : d.f0.isSome = true) : d.create a b c = (5,d) := by unfold Dk.create; rw [if_neg (by simp [h]),if_neg (by simp [hd]),if_pos hf]
theorem rcreate_go {d : Dk} {a b c : Int} (h : wellB a b c = true) (hd : d.down = false) (hf : d.f0.isSome = false) : d.create a b c = d.opening a.toNat [stMake 0,stAppend 0 (headL a.toNat b.toNat c.toNat),stSync 0] := by unfold Dk.create; rw [if_neg (by simp [h]),if_neg (by simp [hd]),if_neg (by simp [hf])]
theorem rcreate_any (G : Nat -> Prop) (b : Nat) (d : Dk) (q : RfP) (x y z : Int) (w : World) (hR : RefAt w G b d q) (hok : DkOk d) (hGz : ∀ k,G k -> k < w.heap.size) :
  Calls Tryz.prog 118 #[.pointer (some ⟨b,0,none⟩),.agg #[.int .i64 x,.int .i64 y,.int .i64 z]] w fun e w' => e = .returned (.int .i64 (d.create x y z).1) /\ RDone G b w (d.create x y z).2 w' := by
 have HWL : Hid (∀ wx : World,_) := fun wx => well_any x y z wx
 have HS0 : Hid (∀ w1 : World,Below w.heap.size w w1 -> RDone G b w d w1) := fun w1 hb => RDone.of_below hR hb
 have HB0 : Hid (∀ w1 : World,Below (w.alloc (.cells #[.int .i64 x,.int .i64 y,.int .i64 z] 29)).heap.size (w.alloc (.cells #[.int .i64 x,.int .i64 y,.int .i64 z] 29)) w1 -> Below w.heap.size w w1) := fun w1 hb => ((Below.refl _ _).alloc (Nat.le_refl _) _).trans (hb.mono (by simp))
 have HXC : Hid (∀ w1 : World,Below (w.alloc (.cells #[.int .i64 x,.int .i64 y,.int .i64 z] 29)).heap.size (w.alloc (.cells #[.int .i64 x,.int .i64 y,.int .i64 z] 29)) w1 -> Bx w1 w.heap.size #[.int .i64 x,.int .i64 y,.int .i64 z] 29) := fun w1 hb => (bx_new w _ _ rfl).below hb (by simp)
 have HCL : Hid (∀ w1 : World,Below w.heap.size w w1 -> w1.cell? ⟨b,1,none⟩ = some (.bool d.down) /\ w1.cell? ⟨b,2,none⟩ = some (.bool d.f0.isSome)) := fun w1 hb => by
  have := hR.box.below hb hR.box.lt
  exact ⟨this.cell (j := 1) rfl,this.cell (j := 2) rfl⟩
 cases hw : wellB x y z with
 | false =>
  have HE : Hid (d.create x y z = (1,d)) := rcreate_bad hw
  rw [hw] at HWL
  clear hR hok hGz
  go_enter Tryz.func118,Tryz.ntmps118
  go_wp2_with (first | (go_at_call 171; refine (HWL.out _).mono ?_; rintro e w1 ⟨rfl,hb⟩; have HB := HB0.out w1 hb; clear hb))
  go_ret
  exact ⟨by rw [HE.out]; rfl,by rw [HE.out]; exact HS0.out _ HB⟩
 | true =>
  rw [hw] at HWL
  cases hd : d.down with
  | true =>
   have HE : Hid (d.create x y z = (7,d)) := rcreate_down hw hd
   rw [hd] at HCL
   clear hR hok hGz
   go_enter Tryz.func118,Tryz.ntmps118
   go_wp2_with (first | (go_at_call 171; refine (HWL.out _).mono ?_; rintro e w1 ⟨rfl,hb⟩; have HB : Hid (Below w.heap.size w w1) := HB0.out w1 hb; obtain ⟨k1,k2⟩ := HCL.out w1 HB.out; clear hb))
   go_ret
   exact ⟨by rw [HE.out]; rfl,by rw [HE.out]; exact HS0.out _ HB.out⟩
  | false =>
   rw [hd] at HCL
   cases hf : d.f0.isSome with
   | true =>
    have HE : Hid (d.create x y z = (5,d)) := rcreate_there hw hd hf
    rw [hf] at HCL
    clear hR hok hGz
    go_enter Tryz.func118,Tryz.ntmps118
    go_wp2_with (first | (go_at_call 171; refine (HWL.out _).mono ?_; rintro e w1 ⟨rfl,hb⟩; have HB : Hid (Below w.heap.size w w1) := HB0.out w1 hb; obtain ⟨k1,k2⟩ := HCL.out w1 HB.out; clear hb))
    go_ret
    exact ⟨by rw [HE.out]; rfl,by rw [HE.out]; exact HS0.out _ HB.out⟩
   | false =>
    rw [hf] at HCL
    have HE := rcreate_go hw hd hf
    have hwb : 0 <= x /\ x <= 400 /\ 0 <= y /\ y <= 4294967295 /\ 0 <= z /\ z <= 32 := by unfold wellB at hw; simp at hw; omega
    obtain ⟨x,rfl⟩ : ∃ n : Nat,x = n := ⟨x.toNat,by omega⟩
    rw [opening_eq] at HE
    have HHD : Hid (∀ wx : World,Calls Tryz.prog 61 #[.agg #[.int .i64 (x : Int),.int .i64 y,.int .i64 z]] wx fun e w' => e = .returned (.string (S (headL x y.toNat z.toNat))) /\ Below wx.heap.size wx w') := fun wx => head_any x y z wx (by omega) (by omega) (by omega) (by omega) (by omega) (by omega)
    have HMK : Hid (∀ w1 : World,Below w.heap.size w w1 -> Calls Tryz.prog 172 #[.pointer (some ⟨b,0,none⟩),.int .i64 0,.string (S (headL x y.toNat z.toNat))] w1 fun e w' => e = .returned (.int .i64 (d.steps [stMake 0,stAppend 0 (headL x y.toNat z.toNat),stSync 0]).1) /\ RDone G b w1 (d.steps [stMake 0,stAppend 0 (headL x y.toNat z.toNat),stSync 0]).2 w') := fun w1 hb =>
     makes_any G b d q 0 (headL x y.toNat z.toNat) w1 (hR.below hb) hok (by omega) (by rw [headL_length]; omega)
    have HE2 : Hid (d.create (x : Int) y z = if (d.steps [stMake 0,stAppend 0 (headL x y.toNat z.toNat),stSync 0]).1 = 0 then (0,(d.steps [stMake 0,stAppend 0 (headL x y.toNat z.toNat),stSync 0]).2.opens x) else d.steps [stMake 0,stAppend 0 (headL x y.toNat z.toNat),stSync 0]) := HE
    clear HE
    generalize headL x y.toNat z.toNat = hd14 at *
    generalize d.steps [stMake 0,stAppend 0 hd14,stSync 0] = r at *
    obtain ⟨re,rd⟩ := r
    simp only at HE2 HMK
    have HXK : Hid (∀ w1 w2 : World,Below (w.alloc (.cells #[.int .i64 (x : Int),.int .i64 y,.int .i64 z] 29)).heap.size (w.alloc (.cells #[.int .i64 (x : Int),.int .i64 y,.int .i64 z] 29)) w1 -> RDone G b w1 rd w2 -> w2.cell? ⟨w.heap.size,0,none⟩ = some (.int .i64 (x : Int)) /\ w2.cell? ⟨w.heap.size,1,none⟩ = some (.int .i64 y) /\ w2.cell? ⟨w.heap.size,2,none⟩ = some (.int .i64 z)) := fun w1 w2 hb h2 => by
     have := (HXC.out w1 hb).chg h2.2 (fun hg => absurd (hGz _ hg) (by omega))
     exact ⟨this.cell (j := 0) rfl,this.cell (j := 1) rfl,this.cell (j := 2) rfl⟩
    by_cases h0 : re = 0
    ·subst h0
     have HE3 : Hid (d.create (x : Int) y z = (0,rd.opens x)) := HE2
     have HOP : Hid (∀ w1 w2 : World,Below w.heap.size w w1 -> RDone G b w1 rd w2 -> Calls Tryz.prog 173 #[.pointer (some ⟨b,0,none⟩),.agg #[.int .i64 (x : Int),.int .i64 y,.int .i64 z]] w2 fun e w' => e = .returned (.tuple #[]) /\ RDone G b w (rd.opens x) w') := fun w1 w2 hb h => by
      have h' := h
      obtain ⟨⟨q1,h1⟩,h2⟩ := h'
      exact (opens_any _ b rd q1 x y z w2 h1).mono fun e w' ⟨a1,a2⟩ => ⟨a1,RDone.later hb (h.then a2)⟩
     clear hR hok hGz HE2 HS0
     go_enter Tryz.func118,Tryz.ntmps118
     go_wp2_with (first | (go_at_call 171; refine (HWL.out _).mono ?_; rintro e w1 ⟨rfl,hb⟩; have HB : Hid (Below w.heap.size w w1) := HB0.out w1 hb; have hx := HXC.out w1 hb; have x0 := hx.cell (j := 0) rfl; have x1 := hx.cell (j := 1) rfl; have x2 := hx.cell (j := 2) rfl; have HBA : Hid (Below _ _ w1) := hb; obtain ⟨k1,k2⟩ := HCL.out w1 HB.out; clear hb hx) | (go_at_call 61; refine (HHD.out _).mono ?_; rintro e w2 ⟨rfl,hb⟩; have HB2 : Hid (Below w.heap.size w w2) := HB.out.trans (hb.mono HB.out.size); have HBA2 : Hid (Below _ _ w2) := HBA.out.trans (hb.mono HBA.out.size); clear hb) | (go_at_call 172; refine (HMK.out w2 HB2.out).mono ?_; rintro e w3 ⟨rfl,hd3⟩; obtain ⟨y0,y1,y2⟩ := HXK.out w2 w3 HBA2.out hd3; have HD3 : Hid (RDone G b w2 rd w3) := hd3; clear hd3) | (go_at_call 173; refine (HOP.out w2 w3 HB2.out HD3.out).mono ?_; rintro e w4 ⟨rfl,hd4⟩; have HD4 : Hid (RDone G b w (rd.opens x) w4) := hd4; clear hd4))
     go_ret
     exact ⟨by rw [HE3.out]; rfl,by rw [HE3.out]; exact HD4.out⟩
    ·have HE3 : Hid (d.create (x : Int) y z = (re,rd)) := by
      have := HE2.out
      rw [if_neg h0] at this
      exact this
     clear hR hok hGz HE2 HS0
     go_enter Tryz.func118,Tryz.ntmps118
     go_wp2_with (first | (go_at_call 171; refine (HWL.out _).mono ?_; rintro e w1 ⟨rfl,hb⟩; have HB : Hid (Below w.heap.size w w1) := HB0.out w1 hb; have hx := HXC.out w1 hb; have x0 := hx.cell (j := 0) rfl; have x1 := hx.cell (j := 1) rfl; have x2 := hx.cell (j := 2) rfl; obtain ⟨k1,k2⟩ := HCL.out w1 HB.out; clear hb hx) | (go_at_call 61; refine (HHD.out _).mono ?_; rintro e w2 ⟨rfl,hb⟩; have HB2 : Hid (Below w.heap.size w w2) := HB.out.trans (hb.mono HB.out.size); clear hb) | (go_at_call 172; refine (HMK.out w2 HB2.out).mono ?_; rintro e w3 ⟨rfl,hd3⟩; have HD3 : Hid (RDone G b w2 rd w3) := hd3; clear hd3))
     go_ret
     exact ⟨by rw [HE3.out]; rfl,by rw [HE3.out]; exact RDone.later HB2.out HD3.out⟩
def entsT (ws : List Ent) : List (Bool × ByteArray × ByteArray) := ws.map fun e => (e.put,S e.key,S e.val)
theorem entB_L (e : Ent) : entryL e.put (S e.key).data.toList (S e.val).data.toList = entB e := by
 unfold entryL entB
 rw [show (S e.key).data.toList = e.key from rfl,show (S e.val).data.toList = e.val from rfl]
 have f : ∀ n,lowL n 1 = [UInt8.ofNat n] := fun n => by
  simp [lowL]
  apply UInt8.toNat_inj.1
  simp
 rw [f,f]
 cases e.put <;> simp
theorem entsT_L (ws : List Ent) : entsL (entsT ws) = entsB ws := by
 induction ws with
 | nil => rfl
 | cons e ws ih =>
  have h1 : entsL (entsT (e :: ws)) = entryL e.put (S e.key).data.toList (S e.val).data.toList ++ entsL (entsT ws) := rfl
  rw [h1,ih,entB_L]
  simp [entsB]
theorem blockT_L (ws : List Ent) : blockL (entsT ws) = blockB ws := by
 unfold blockL blockB
 rw [entsT_L,show (entsT ws).length = ws.length by simp [entsT]]
theorem ent_sizes {ws : List Ent} (h : ∀ e ∈ ws,EntOk e) : (entsB ws).length <= 53 * ws.length := by
 induction ws with
 | nil => simp [entsB]
 | cons e ws ih =>
  have h1 := h e (by simp)
  have h2 := ih (fun x hx => h x (by simp [hx]))
  have : entsB (e :: ws) = entB e ++ entsB ws := by simp [entsB]
  rw [this,List.length_append]
  have : (entB e).length = 3 + e.key.length + e.val.length := by simp [entB]; omega
  obtain ⟨a,b,c,_⟩ := h1
  simp
  omega
theorem refBlock_row {W : World} {v : Value} {ws : List Ent} (h : W.ownsRow 0 114 3 v ws.length (cellsE ws)) (hne : ws ≠ []) (hok : ∀ e ∈ ws,EntOk e) (hl : ws.length <= 255) :
  Calls Tryz.prog 62 #[v] W fun e w' => e = .returned (.string (S (blockB ws))) /\ Below W.heap.size W w' := by
 have hpos : 0 < ws.length := by cases ws with | nil => exact absurd rfl hne | cons _ _ => simp
 obtain ⟨g,cap,rfl,_,hg,hc⟩ := own_cellsN h hpos
 have el : (entsT ws).length = ws.length := by simp [entsT]
 have := block_any g cap (entsT ws) W hg ?_ (by omega) ?_
 ·rw [blockT_L,el] at this
  exact this
 ·intro i hi
  have hi' : i < ws.length := by omega
  obtain ⟨a,b,c⟩ := cellsE_get hi'
  have e1 : (entsT ws)[i] = (ws[i].put,S ws[i].key,S ws[i].val) := by simp [entsT]
  rw [e1]
  exact ⟨(hc _ (by omega)).trans a,(hc _ (by omega)).trans b,(hc _ (by omega)).trans c⟩
 ·intro e he
  simp [entsT] at he
  obtain ⟨x,hx,rfl⟩ := he
  obtain ⟨a,b,c,_⟩ := hok x hx
  simp only [S_size]
  omega
theorem RefAt.emptied {W : World} {G : Nat -> Prop} {b : Nat} {d : Dk} {q : RfP} (h : RefAt W G b d q) : RefAt (W.setCell ⟨b,17,none⟩ (.slice none 0 0)) G b { d with waits := [] } (nilP q) :=
 ⟨h.box.setj 17 _,World.ownsRow_nil _ _ _ _,fun e => (by cases e),h.left,h.keep,h.blk,h.gb,fun g e => (by cases e)⟩
theorem rwrites_none (b : Nat) (d : Dk) (q : RfP) (w : World) (G : Nat -> Prop) (hR : RefAt w G b d q) (hw : d.waits = []) :
  Calls Tryz.prog 174 #[.pointer (some ⟨b,0,none⟩)] w fun e w' => e = .returned (.int .i64 0) /\ w' = w := by
 have c17 : w.cell? ⟨b,17,none⟩ = some q.v := hR.box.cell (j := 17) rfl
 obtain ⟨a,cp,hv⟩ := own_len hR.row
 rw [hv,hw] at c17
 have c17' : w.cell? ⟨b,17,none⟩ = some (.slice a 0 cp) := c17
 clear c17 hv hR
 go_enter Tryz.func174,Tryz.ntmps174
 go_wp2
 go_ret
 exact ⟨rfl,rfl⟩
theorem rwrites_some (G : Nat -> Prop) (b : Nat) (d : Dk) (q : RfP) (w : World) (hR : RefAt w G b d q) (hok : DkOk d) (hw : d.waits ≠ []) (hf : d.f0.isSome = true) :
  Calls Tryz.prog 174 #[.pointer (some ⟨b,0,none⟩)] w fun e w' => e = .returned (.int .i64 d.write.1) /\ RDone G b w d.write.2 w' := by
 have hpos : 0 < d.waits.length := by
  cases hc : d.waits with
  | nil => exact absurd hc hw
  | cons _ _ => simp
 have hl := hok.most
 have hsz := ent_sizes hok.ents
 have hbl : (blockB d.waits).length <= 1000000 := by unfold blockB; rw [sealL_length]; simp [lowL_length]; omega
 have HBK := refBlock_row hR.row hw hok.ents hl
 obtain ⟨g,cap,hv,_,_,_⟩ := own_cellsN hR.row hpos
 have c17 : w.cell? ⟨b,17,none⟩ = some q.v := hR.box.cell (j := 17) rfl
 rw [hv] at c17 HBK
 have hgb := hR.gb
 have HAP : Hid (∀ w1 : World,Below w.heap.size w w1 -> Calls Tryz.prog 199 #[.pointer (some ⟨b,0,none⟩),.int .i64 0,.string (S (blockB d.waits))] w1 fun e w' => e = .returned (.int .i64 (d.steps [stAppend 0 (blockB d.waits)]).1) /\ RDone G b w (d.steps [stAppend 0 (blockB d.waits)]).2 w') := fun w1 hb => by
  rw [steps_one1]
  exact (appends_any G b d q 0 (blockB d.waits) w1 (hR.below hb) hok (by omega) hf hbl).mono fun e w' ⟨a1,a2⟩ => ⟨a1,RDone.later hb a2⟩
 have HWE := write_eq d
 have hnz : ¬ ((d.waits.length : Int) = 0) := by omega
 have hnz2 : d.waits.length ≠ 0 := by omega
 generalize d.steps [stAppend 0 (blockB d.waits)] = r at *
 obtain ⟨re,rd⟩ := r
 simp only at HWE HAP
 clear hsz hbl
 generalize blockB d.waits = bl at *
 generalize d.waits.length = n at *
 by_cases h0 : re = 0
 ·subst h0
  rw [if_pos rfl] at HWE
  have HE : Hid (d.write = (0,{ rd with waits := [] })) := HWE
  have HCL : Hid (∀ w2 : World,RDone G b w rd w2 -> ∃ q2,w2.cell? ⟨b,17,none⟩ = some (RfP.v q2) /\ w2.frozen? ⟨b,17,none⟩ = false /\ RefAt w2 (Fx G w w2) b rd q2) := fun w2 h => by
   obtain ⟨⟨q2,h1⟩,h2⟩ := h
   exact ⟨q2,h1.box.cell (j := 17) rfl,h1.box.frozen 17,h1⟩
  clear hR hok hw hf HWE hv
  go_enter Tryz.func174,Tryz.ntmps174
  go_wp2_with (first | (go_at_call 62; refine HBK.mono ?_; rintro e w1 ⟨rfl,hb⟩; have HB : Hid (Below w.heap.size w w1) := hb; clear hb) | (go_at_call 199; refine (HAP.out w1 HB.out).mono ?_; rintro e w2 ⟨rfl,hd2⟩; obtain ⟨q2,k17,kf17,hq2⟩ := HCL.out w2 hd2; have HD2 : Hid (RDone G b w rd w2) := hd2; have HQ2 : Hid (RefAt w2 (Fx G w w2) b rd q2) := hq2; clear hd2 hq2))
  go_ret
  refine ⟨by rw [HE.out]; rfl,?_⟩
  rw [HE.out]
  exact HD2.out.at HQ2.out.emptied (grown_setB _ _ _ _) hgb (by simp)
 ·rw [if_neg h0] at HWE
  have HE : Hid (d.write = (re,rd)) := HWE
  clear hR hok hw hf HWE hv
  go_enter Tryz.func174,Tryz.ntmps174
  go_wp2_with (first | (go_at_call 62; refine HBK.mono ?_; rintro e w1 ⟨rfl,hb⟩; have HB : Hid (Below w.heap.size w w1) := hb; clear hb) | (go_at_call 199; refine (HAP.out w1 HB.out).mono ?_; rintro e w2 ⟨rfl,hd2⟩; have HD2 : Hid (RDone G b w rd w2) := hd2; clear hd2))
  go_ret
  exact ⟨by rw [HE.out]; rfl,by rw [HE.out]; exact HD2.out⟩
theorem steps_f0' {d : Dk} {t : List UInt8} (h : d.f0.isSome = true) : d.write.2.f0.isSome = true := by
 have := steps_f0 h [stAppend 0 (blockB d.waits)] (by intro s hs; simp at hs; subst hs; exact fine_append _ _)
 rw [write_eq]
 split
 ·exact this
 ·exact this
theorem rflush_any (G : Nat -> Prop) (b : Nat) (d : Dk) (q : RfP) (w : World) (hR : RefAt w G b d q) (hok : DkOk d) :
  Calls Tryz.prog 120 #[.pointer (some ⟨b,0,none⟩)] w fun e w' => e = .returned (.int .i64 d.flush.1) /\ RDone G b w d.flush.2 w' := by
 have c1 : w.cell? ⟨b,1,none⟩ = some (.bool d.down) := hR.box.cell (j := 1) rfl
 have c13 : w.cell? ⟨b,13,none⟩ = some (.bool d.opn.isSome) := hR.box.cell (j := 13) rfl
 have HS0 : Hid (RDone G b w d w) := RDone.refl hR
 cases hd : d.down with
 | true =>
  have HE : Hid (d.flush = (7,d)) := flush_down hd
  rw [hd] at c1
  clear hR hok
  go_enter Tryz.func120,Tryz.ntmps120
  go_wp2
  go_ret
  exact ⟨by rw [HE.out]; rfl,by rw [HE.out]; exact HS0.out⟩
 | false =>
  rw [hd] at c1
  cases ho : d.opn with
  | none =>
   have HE : Hid (d.flush = (2,d)) := flush_none hd ho
   rw [ho] at c13
   have c13' : w.cell? ⟨b,13,none⟩ = some (.bool false) := c13
   clear hR hok c13
   go_enter Tryz.func120,Tryz.ntmps120
   go_wp2
   go_ret
   exact ⟨by rw [HE.out]; rfl,by rw [HE.out]; exact HS0.out⟩
  | some blk =>
   rw [ho] at c13
   have c13' : w.cell? ⟨b,13,none⟩ = some (.bool true) := c13
   have hf := (hok.opn blk ho).1
   cases hwe : d.waits.isEmpty with
   | true =>
    have hwn : d.waits = [] := List.isEmpty_iff.1 hwe
    have HE : Hid (d.flush = d.one (stSync 0)) := by show _ = _; rw [flush_sync hd ho hwe,steps_one1]
    have HWR := rwrites_none b d q w G hR hwn
    have HSY := syncs_any G b d q 0 w hR hok (by omega) hf
    generalize d.one (stSync 0) = r at *
    clear hR hok c13 HS0
    go_enter Tryz.func120,Tryz.ntmps120
    go_wp2_with (first | (go_at_call 174; refine HWR.mono ?_; rintro e w ⟨rfl,rfl⟩) | (go_at_call 175; refine HSY.mono ?_; rintro e w2 ⟨rfl,hd2⟩; have HD2 : Hid _ := hd2; clear hd2))
    go_ret
    exact ⟨by rw [HE.out]; rfl,by rw [HE.out]; exact HD2.out⟩
   | false =>
    have hne : d.waits ≠ [] := by intro e; rw [e] at hwe; cases hwe
    have HWR := rwrites_some G b d q w hR hok hne hf
    have HFL := flush_write hd ho hwe
    have hfine := write_fine hok hd
    have hf2 := steps_f0' (d := d) (t := []) hf
    generalize d.write = r at *
    obtain ⟨re,rd⟩ := r
    simp only at HFL hfine HWR hf2
    by_cases h0 : re = 0
    ·subst h0
     rw [if_pos rfl,steps_one1] at HFL
     obtain ⟨f1,f2,f3,f4⟩ := hfine rfl
     have HE : Hid (d.flush = rd.one (stSync 0)) := HFL
     have HSY : Hid (∀ w1 : World,RDone G b w rd w1 -> Calls Tryz.prog 175 #[.pointer (some ⟨b,0,none⟩),.int .i64 0] w1 fun e w' => e = .returned (.int .i64 (rd.one (stSync 0)).1) /\ RDone G b w (rd.one (stSync 0)).2 w') := fun w1 h => by
      have h' := h
      obtain ⟨⟨q1,h1⟩,h2⟩ := h'
      exact (syncs_any _ b rd q1 0 w1 h1 f1 (by omega) hf2).mono fun e w' ⟨a1,a2⟩ => ⟨a1,h.then a2⟩
     generalize rd.one (stSync 0) = r at *
     clear hR hok c13 HS0 HFL hfine f1 f2 f3 f4 hf2
     go_enter Tryz.func120,Tryz.ntmps120
     go_wp2_with (first | (go_at_call 174; refine HWR.mono ?_; rintro e w1 ⟨rfl,hd1⟩; have HD1 : Hid (RDone G b w rd w1) := hd1; clear hd1) | (go_at_call 175; refine (HSY.out w1 HD1.out).mono ?_; rintro e w2 ⟨rfl,hd2⟩; have HD2 : Hid (RDone G b w r.2 w2) := hd2; clear hd2))
     go_ret
     exact ⟨by rw [HE.out]; rfl,by rw [HE.out]; exact HD2.out⟩
    ·rw [if_neg h0] at HFL
     have HE : Hid (d.flush = (re,rd)) := HFL
     clear hR hok c13 HS0 HFL hfine hf2
     go_enter Tryz.func120,Tryz.ntmps120
     go_wp2_with (first | (go_at_call 174; refine HWR.mono ?_; rintro e w1 ⟨rfl,hd1⟩; have HD1 : Hid (RDone G b w rd w1) := hd1; clear hd1))
     go_ret
     exact ⟨by rw [HE.out]; rfl,by rw [HE.out]; exact HD1.out⟩
end Go.Proofs.YtdhgebdbiehchaaGreatDoor
