/- On the way: RfAt, RfStep, RfOne, RfSync, PAdd, PAdd2, PPut, PNew, PCreate, PCreate2, PCreate3, PCreate4, KpBegun, PFail, PFail2, LwAt, LwTwo, LwTwo2, RfOps, RfWr, RfAdd, RfAdd2, LwDoes, RfFile, LwAsk. -/
import Derived.Test.YtdhgebdbiehchaaGreatDoorB33
import Derived.Test.YtdhgebdbiehchaaGreatDoorB10
import Derived.Test.YtdhgebdbiehchaaGreatDoorB08
namespace Go.Proofs.YtdhgebdbiehchaaGreatDoor
open Go.RowKit Go.Maps
set_option linter.unusedSimpArgs false
set_option linter.unusedVariables false
set_option maxRecDepth 100000
set_option maxHeartbeats 3200000
def txtO (f : Option Fl) : List UInt8 := match f with
 | none => []
 | some f => f.text
def synO (f : Option Fl) : Nat := match f with
 | none => 0
 | some f => f.sync
def leftI (l : Option (Nat × Nat)) : Int := match l with
 | none => -1
 | some p => p.1
structure RfP where
 keep : Nat
 c0 : Int
 c1 : Int
 c2 : Int
 v : Value
def refC (d : Dk) (q : RfP) : Array Value := #[.int .i64 d.room,.bool d.down,.bool d.f0.isSome,.string (S (txtO d.f0)),.int .i64 (synO d.f0),.bool d.f1.isSome,.string (S (txtO d.f1)),.int .i64 (synO d.f1),.bool d.f2.isSome,.string (S (txtO d.f2)),.int .i64 (synO d.f2),
 .int .i64 (leftI d.left),.int .i64 q.keep,.bool d.opn.isSome,.int .i64 q.c0,.int .i64 q.c1,.int .i64 q.c2,q.v]
structure RefAt (W : World) (G : Nat -> Prop) (b : Nat) (d : Dk) (q : RfP) : Prop where
 box : Bx W b (refC d q) 273
 row : W.ownsRow 0 114 3 q.v d.waits.length (cellsE d.waits)
 ne : q.v.ownBlock ≠ some b
 left : ∀ n k,d.left = some (n,k) -> n <= 9223372036854775807 /\ q.keep = k
 keep : q.keep <= 9223372036854775807
 blk : ∀ blk,d.opn = some blk -> q.c0 = blk
 gb : G b
 gv : ∀ g,q.v.ownBlock = some g -> G g
theorem RefAt.mono {W : World} {G G' : Nat -> Prop} {b : Nat} {d : Dk} {q : RfP} (h : RefAt W G b d q) (hG : ∀ k,G k -> G' k) : RefAt W G' b d q :=
 ⟨h.box,h.row,h.ne,h.left,h.keep,h.blk,hG _ h.gb,fun g e => hG _ (h.gv g e)⟩
theorem RefAt.kept {W W' : World} {G K : Nat -> Prop} {b : Nat} {d : Dk} {q : RfP} (h : RefAt W G b d q) (hc : Chg K W W') (hK : ∀ k,G k -> ¬ K k) : RefAt W' G b d q :=
 ⟨h.box.chg hc (hK _ h.gb),own_chg h.row hc (fun g e => hK _ (h.gv g e)),h.ne,h.left,h.keep,h.blk,h.gb,h.gv⟩
theorem RefAt.below {W W' : World} {G : Nat -> Prop} {b : Nat} {d : Dk} {q : RfP} (h : RefAt W G b d q) (hb : Below W.heap.size W W') : RefAt W' G b d q :=
 ⟨h.box.below hb h.box.lt,own_chg h.row (Chg.of_below (F := fun _ => False) hb) (fun _ _ h => h),h.ne,h.left,h.keep,h.blk,h.gb,h.gv⟩
def RDone (G : Nat -> Prop) (b : Nat) (w : World) (d' : Dk) (w' : World) : Prop := (∃ q',RefAt w' (Fx G w w') b d' q') /\ Chg G w w'
theorem RDone.refl {G : Nat -> Prop} {b : Nat} {w : World} {d : Dk} {q : RfP} (h : RefAt w G b d q) : RDone G b w d w := ⟨⟨q,h.mono (fun k hk => .inl hk)⟩,Chg.refl _ _⟩
theorem RDone.of_below {G : Nat -> Prop} {b : Nat} {w w' : World} {d : Dk} {q : RfP} (h : RefAt w G b d q) (hb : Below w.heap.size w w') : RDone G b w d w' := ⟨⟨q,(h.below hb).mono (fun k hk => .inl hk)⟩,Chg.of_below hb⟩
theorem RDone.below {G : Nat -> Prop} {b : Nat} {w w1 w2 : World} {d : Dk} (h : RDone G b w d w1) (hb : Below w1.heap.size w1 w2) : RDone G b w d w2 := by
 obtain ⟨⟨q,h1⟩,h2⟩ := h
 refine ⟨⟨q,(h1.below hb).mono ?_⟩,h2.trans0 hb⟩
 rintro k (hk | hk)
 ·exact .inl hk
 ·exact .inr ⟨hk.1,Nat.lt_of_lt_of_le hk.2 hb.size⟩
theorem RDone.later {G : Nat -> Prop} {b : Nat} {w w1 w2 : World} {d : Dk} (hb : Below w.heap.size w w1) (h : RDone G b w1 d w2) : RDone G b w d w2 := by
 obtain ⟨⟨q,h1⟩,h2⟩ := h
 refine ⟨⟨q,h1.mono ?_⟩,(Chg.of_below hb).trans (h2.mono (fun k _ hk => .inl hk))⟩
 rintro k (hk | hk)
 ·exact .inl hk
 ·exact .inr ⟨Nat.le_trans hb.size hk.1,hk.2⟩
theorem RDone.then {G : Nat -> Prop} {b : Nat} {w w1 w2 : World} {d d2 : Dk} (h : RDone G b w d w1) (k : RDone (Fx G w w1) b w1 d2 w2) : RDone G b w d2 w2 := by
 obtain ⟨_,h2⟩ := h
 obtain ⟨⟨q,k1⟩,k2⟩ := k
 exact ⟨⟨q,k1.mono (fx_trans h2.size k2.size)⟩,h2.trans k2⟩
theorem own_box {W : World} {b : Nat} {cs : Array Value} {t : TypeId} {base e size n : Nat} {v : Value} {xs : List Value} (h : W.ownsRow base e size v n xs) (hne : v.ownBlock ≠ some b) (j : Nat) (u : Value) : (W.setCell ⟨b,j,none⟩ u).ownsRow base e size v n xs :=
 own_chg h (chg_one (F := fun k => k = b) (grown_setB W b j u) rfl) (fun g e => fun h => hne (by rw [e,h]))

theorem refC_put1 {d : Dk} {q : RfP} {i : Nat} {f : Fl} (hi : i < 3) (hf : d.file i = some f) (t : List UInt8) : (refC d q).setIfInBounds (2 + i * 3 + 1) (.string (S t)) = refC (d.put i (some ⟨t,f.sync⟩)) q := by
 match i,hi with
 | 0,_ => have h : d.f0 = some f := hf; simp [refC,Dk.put,h,synO,txtO]
 | 1,_ => have h : d.f1 = some f := hf; simp [refC,Dk.put,h,synO,txtO]
 | 2,_ => have h : d.f2 = some f := hf; simp [refC,Dk.put,h,synO,txtO]
theorem refC_put2 {d : Dk} {q : RfP} {i : Nat} {f : Fl} (hi : i < 3) (hf : d.file i = some f) (n : Nat) : (refC d q).setIfInBounds (2 + i * 3 + 2) (.int .i64 (n : Int)) = refC (d.put i (some ⟨f.text,n⟩)) q := by
 match i,hi with
 | 0,_ => have h : d.f0 = some f := hf; simp [refC,Dk.put,h,synO,txtO]
 | 1,_ => have h : d.f1 = some f := hf; simp [refC,Dk.put,h,synO,txtO]
 | 2,_ => have h : d.f2 = some f := hf; simp [refC,Dk.put,h,synO,txtO]
theorem refC_put3 {d : Dk} {q : RfP} {i : Nat} (hi : i < 3) : (((refC d q).setIfInBounds (2 + i * 3) (.bool true)).setIfInBounds (2 + i * 3 + 1) (.string ⟨#[]⟩)).setIfInBounds (2 + i * 3 + 2) (.int .i64 0) = refC (d.put i (some ⟨[],0⟩)) q := by
 match i,hi with
 | 0,_ => rfl
 | 1,_ => rfl
 | 2,_ => rfl
theorem RefAt.file {W W' : World} {G : Nat -> Prop} {b : Nat} {d : Dk} {q : RfP} {i : Nat} {f : Option Fl} (h : RefAt W G b d q) (hb : Bx W' b (refC (d.put i f) q) 273) (hg : W.grownBy W' (some b)) : RefAt W' G b (d.put i f) q := by
 obtain ⟨p1,p2,p3,p4,p5⟩ := put_same d i f
 refine ⟨hb,?_,h.ne,by rw [p3]; exact h.left,h.keep,by rw [p4]; exact h.blk,h.gb,h.gv⟩
 rw [p5]
 exact own_chg h.row (chg_one (F := fun k => k = b) hg rfl) (fun g e hk => h.ne (by rw [e,hk]))
theorem RefAt.text {W : World} {G : Nat -> Prop} {b : Nat} {d : Dk} {q : RfP} {i : Nat} {f : Fl} (h : RefAt W G b d q) (hi : i < 3) (hf : d.file i = some f) (t : List UInt8) : RefAt (W.setCell ⟨b,2 + i * 3 + 1,none⟩ (.string (S t))) G b (d.put i (some ⟨t,f.sync⟩)) q :=
 h.file (by have := h.box.setj (2 + i * 3 + 1) (.string (S t)); rw [refC_put1 hi hf] at this; exact this) (grown_setB _ _ _ _)
theorem RefAt.synced {W : World} {G : Nat -> Prop} {b : Nat} {d : Dk} {q : RfP} {i : Nat} {f : Fl} (h : RefAt W G b d q) (hi : i < 3) (hf : d.file i = some f) (n : Nat) : RefAt (W.setCell ⟨b,2 + i * 3 + 2,none⟩ (.int .i64 (n : Int))) G b (d.put i (some ⟨f.text,n⟩)) q :=
 h.file (by have := h.box.setj (2 + i * 3 + 2) (.int .i64 (n : Int)); rw [refC_put2 hi hf] at this; exact this) (grown_setB _ _ _ _)
theorem RefAt.made {W : World} {G : Nat -> Prop} {b : Nat} {d : Dk} {q : RfP} {i : Nat} (h : RefAt W G b d q) (hi : i < 3) : RefAt (((W.setCell ⟨b,2 + i * 3,none⟩ (.bool true)).setCell ⟨b,2 + i * 3 + 1,none⟩ (.string ⟨#[]⟩)).setCell ⟨b,2 + i * 3 + 2,none⟩ (.int .i64 0)) G b (d.put i (some ⟨[],0⟩)) q :=
 h.file (by have := ((h.box.setj (2 + i * 3) (.bool true)).setj (2 + i * 3 + 1) (.string ⟨#[]⟩)).setj (2 + i * 3 + 2) (.int .i64 0); rw [refC_put3 hi] at this; exact this) (grown_trans (grown_trans (grown_setB _ _ _ _) (grown_setB _ _ _ _)) (grown_setB _ _ _ _))
theorem RDone.at {G : Nat -> Prop} {b : Nat} {w w1 : World} {d' d2 : Dk} {q : RfP} {w2 : World} (h : RDone G b w d' w1) (h2 : RefAt w2 (Fx G w w1) b d2 q) (hg : w1.grownBy w2 (some b)) (hb : G b) (hs : w2.heap.size = w1.heap.size) : RDone G b w d2 w2 := by
 refine ⟨⟨q,h2.mono ?_⟩,h.2.grown hg (fun k e => by cases e; exact .inl hb)⟩
 rintro k (hk | hk)
 ·exact .inl hk
 ·exact .inr ⟨hk.1,by omega⟩
theorem RefAt.opened {W : World} {G : Nat -> Prop} {b : Nat} {d : Dk} {q : RfP} {blk : Nat} {c1 c2 : Int} (h : RefAt W G b d q) : RefAt (((((W.setCell ⟨b,13,none⟩ (.bool true)).setCell ⟨b,14,none⟩ (.int .i64 (blk : Int))).setCell ⟨b,15,none⟩ (.int .i64 c1)).setCell ⟨b,16,none⟩ (.int .i64 c2)).setCell ⟨b,17,none⟩ (.slice none 0 0)) G b (d.opens blk) ⟨q.keep,blk,c1,c2,.slice none 0 0⟩ :=
 ⟨((((h.box.setj 13 _).setj 14 _).setj 15 _).setj 16 _).setj 17 _,World.ownsRow_nil _ _ _ _,fun e => (by cases e),h.left,h.keep,fun b e => by cases e; rfl,h.gb,fun g e => (by cases e)⟩
theorem done_add {E : Sent} {G : Nat -> Prop} {bs blk : Nat} {w w4 : World} {rd : Dk} {en : Ent} (hG : ∀ k,G k -> k < w.heap.size) (h : Done E G bs w rd w4) (ho : rd.opn = some blk) (hok : DkOk rd) (hk : en.key.length <= 20) (hv : en.val.length <= 30) :
  ∃ bw4,w4.cell? ⟨bs,1,none⟩ = some (.pointer (some ⟨bw4,0,none⟩)) /\ ∀ w5 : World,Below w4.heap.size w4 w5 -> Calls Tryz.prog 101 #[.pointer (some ⟨bw4,0,none⟩),entV en] w5 fun e w' => e = .returned (.tuple #[]) /\ Done E G bs w { rd with waits := rd.waits ++ [en] } w' := by
 have hD := h
 obtain ⟨⟨q4,h1⟩,h2⟩ := h
 have hw := h1.wait
 rw [ho] at hw
 obtain ⟨bw4,hb,hwa⟩ := wait_some hw
 have c1 : w4.cell? ⟨bs,1,none⟩ = some (optP q4.ow) := h1.box.cell (j := 1) rfl
 rw [hb] at c1
 refine ⟨bw4,c1,fun w5 hb5 => ?_⟩
 have hwl := hok_waits hok
 have hmo := hok.most
 refine (addW_any bw4 blk rd.waits en q4.v w5 (hwa.below hb5) hk hv (by omega) (by omega)).mono ?_
 rintro e w6 ⟨rfl,v',k1,k2,k3⟩
 have hz5 := hb5.size
 have hGz : ∀ k,Fx G w w4 k -> k < w5.heap.size := fun k hk => by
  rcases hk with hk | hk
  ·have := hG k hk; have := h2.size; omega
  ·omega
 have hst := (h1.below hb5).waited hGz ho hb k3 k1 k2
 have h25 : Chg G w w5 := h2.trans0 hb5
 refine ⟨rfl,⟨_,hst.mono ?_⟩,h25.trans (k3.mono ?_)⟩
 ·rintro k ((hk | hk) | hk)
  ·exact .inl hk
  ·exact .inr (by have := k3.size; omega)
  ·exact .inr (by have := h2.size; omega)
 ·intro k hk e
  have hg4 : Fx G w w4 k := by
   rcases e with e | e
   ·rw [e]; exact h1.gw _ hb
   ·exact h1.gv _ e
  rcases hg4 with hg | hg
  ·exact .inl hg
  ·exact .inr (by omega)
theorem add_wrong {d : Dk} {en : Ent} (h : rightB en = false) : d.add en = (1,d) := by
 unfold Dk.add
 unfold rightB at h
 rw [Bool.not_eq_eq_eq_not,Bool.not_false] at h
 rw [if_pos (of_decide_eq_true h)]
theorem right_not {en : Ent} (h : rightB en = true) : ¬ (en.key.length < 1 \/ 20 < en.key.length \/ 30 < en.val.length) := by
 unfold rightB at h
 simpa using h
theorem add_down {d : Dk} {en : Ent} (h : rightB en = true) (hd : d.down = true) : d.add en = (7,d) := by
 unfold Dk.add
 rw [if_neg (right_not h),if_pos hd]
theorem add_none {d : Dk} {en : Ent} (h : rightB en = true) (hd : d.down = false) (ho : d.opn = none) : d.add en = (2,d) := by
 unfold Dk.add
 rw [if_neg (right_not h),if_neg (by simp [hd]),ho]
theorem add_fits {d : Dk} {en : Ent} {blk : Nat} (h : rightB en = true) (hd : d.down = false) (ho : d.opn = some blk) (hf : takesB blk d.waits en = true) : d.add en = (0,{ d with waits := d.waits ++ [en] }) := by
 unfold Dk.add
 rw [if_neg (right_not h),if_neg (by simp [hd]),ho]
 simp only
 rw [if_pos (show d.fits blk en = true from hf)]
theorem add_write {d : Dk} {en : Ent} {blk : Nat} (h : rightB en = true) (hd : d.down = false) (ho : d.opn = some blk) (hf : takesB blk d.waits en = false) : d.add en = if d.write.1 = 0 then (0,{ d.write.2 with waits := d.write.2.waits ++ [en] }) else d.write := by
 unfold Dk.add
 rw [if_neg (right_not h),if_neg (by simp [hd]),ho]
 simp only
 rw [if_neg (by rw [show d.fits blk en = false from hf]; simp)]
theorem add_refused (E : Sent) (n : Nat) (G : Nat -> Prop) (bs : Nat) (d : Dk) (q : StP) (en : Ent) (w : World) (hE : Env0 n w E) (hS : StoreAt w G bs d q) (h : rightB en = false \/ refE d ≠ 0) :
  Calls Tryz.prog 53 #[.pointer (some ⟨bs,0,none⟩),entV en] w fun e w' => e = .returned (.int .i64 (d.add en).1) /\ Done E G bs w (d.add en).2 w' := by
 have HS0 : Hid (∀ w1 : World,Below w.heap.size w w1 -> Done E G bs w d w1) := fun w1 hb => ⟨⟨q,(hS.below hb).mono (fun k h => .inl h)⟩,Chg.of_below hb⟩
 have hB0 : Below w.heap.size w (w.alloc (.cells #[.bool en.put,.string (S en.key),.string (S en.val)] 106)) := (Below.refl _ _).alloc (Nat.le_refl _) _
 have HRI := entRight_any en (w.alloc (.cells #[.bool en.put,.string (S en.key),.string (S en.val)] 106))
 have HB0 : Hid (Below w.heap.size w (w.alloc (.cells #[.bool en.put,.string (S en.key),.string (S en.val)] 106))) := hB0
 have HRF : Hid (∀ w1 : World,Below w.heap.size w w1 -> _) := fun w1 hb => refusal_any E n G bs d q w1 (hE.chg (F := fun _ => False) (Chg.of_below hb) (fun _ h => h.elim)) (hS.below hb)
 cases hr : rightB en with
 | false =>
  rw [hr] at HRI
  have HA : Hid (d.add en = (1,d)) := add_wrong hr
  unfold entV at HRI ⊢
  clear hE hS hB0
  go_enter Tryz.func53,Tryz.ntmps53
  go_wp2_with (first | (go_at_call 99; refine HRI.mono ?_; rintro e w1 ⟨rfl,hb⟩; have HB : Hid (Below w.heap.size w w1) := HB0.out.trans (hb.mono HB0.out.size); clear hb))
  go_ret
  exact ⟨by rw [HA.out]; rfl,by rw [HA.out]; exact HS0.out _ HB.out⟩
 | true =>
  rw [hr] at HRI h
  have h' : refE d ≠ 0 := by rcases h with h | h; cases h; exact h
  have HA : Hid (d.add en = (refE d,d)) := by
   show _ = _
   unfold refE at h' ⊢
   cases hd : d.down with
   | true => rw [add_down hr hd]; simp
   | false =>
    cases ho : d.opn with
    | none => rw [add_none hr hd ho]; simp
    | some b => rw [hd,ho] at h'; simp at h'
  unfold entV at HRI ⊢
  clear hE hS hB0 h
  generalize refE d = rf at *
  go_enter Tryz.func53,Tryz.ntmps53
  go_wp2_with (first | (go_at_call 99; refine HRI.mono ?_; rintro e w1 ⟨rfl,hb⟩; have HB : Hid (Below w.heap.size w w1) := HB0.out.trans (hb.mono HB0.out.size); clear hb) | (go_at_call 38; refine (HRF.out w1 HB.out).mono ?_; rintro e w2 ⟨rfl,hb2⟩; have HB2 : Hid (Below w.heap.size w w2) := HB.out.trans (hb2.mono HB.out.size); clear hb2))
  go_ret
  exact ⟨by rw [HA.out]; rfl,by rw [HA.out]; exact HS0.out _ HB2.out⟩
theorem ref_zero {d : Dk} (h : refE d = 0) : d.down = false /\ ∃ blk,d.opn = some blk := by
 unfold refE at h
 split at h
 ·cases h
 ·rename_i hd
  split at h
  ·rename_i ho
   exact ⟨by simpa using hd,Option.isSome_iff_exists.1 ho⟩
  ·cases h
def AddS (bs bw be : Nat) (en : Ent) (w w' : World) : Prop := (w'.cell? ⟨bs,1,none⟩ = some (.pointer (some ⟨bw,0,none⟩)) /\ (w'.cell? ⟨be,0,none⟩ = some (.bool en.put) /\ w'.cell? ⟨be,1,none⟩ = some (.string (S en.key)) /\ w'.cell? ⟨be,2,none⟩ = some (.string (S en.val)))) /\ Below w.heap.size w w'
theorem addS_next {bs bw be : Nat} {en : Ent} {w wx w' : World} (h : AddS bs bw be en w wx) (hb : Below wx.heap.size wx w') : AddS bs bw be en w w' := by
 obtain ⟨⟨h1,h4,h5,h6⟩,h7⟩ := h
 have f : ∀ {k j : Nat} {x : Value},wx.cell? ⟨k,j,none⟩ = some x -> w'.cell? ⟨k,j,none⟩ = some x := fun {k j x} hx => by
  have hlt := cell_lt (p := ⟨k,j,none⟩) hx
  rw [<- hx]
  unfold World.cell?
  rw [hb.block k hlt]
 exact ⟨⟨f h1,f h4,f h5,f h6⟩,h7.trans (hb.mono h7.size)⟩
theorem add_let (E : Sent) (n : Nat) (G : Nat -> Prop) (bs : Nat) (d : Dk) (q : StP) (en : Ent) (w : World) (hE : Env0 n w E) (hG : ∀ k,G k -> n <= k /\ k < w.heap.size) (hS : StoreAt w G bs d q) (hok : DkOk d) (hr : rightB en = true) (hrf : refE d = 0) :
  Calls Tryz.prog 53 #[.pointer (some ⟨bs,0,none⟩),entV en] w fun e w' => e = .returned (.int .i64 (d.add en).1) /\ Done E G bs w (d.add en).2 w' := by
 obtain ⟨hd,blk,ho⟩ := ref_zero hrf
 have hrn := right_not hr
 have hk : en.key.length <= 20 := by omega
 have hv : en.val.length <= 30 := by omega
 have hw := hS.wait
 rw [ho] at hw
 obtain ⟨bw,hbw,hwa⟩ := wait_some hw
 obtain ⟨W,hW⟩ : ∃ W : World,W = w.alloc (.cells #[.bool en.put,.string (S en.key),.string (S en.val)] 106) := ⟨_,rfl⟩
 have hB0 : Below w.heap.size w W := by rw [hW]; exact (Below.refl _ _).alloc (Nat.le_refl _) _
 have hx : Bx W w.heap.size #[.bool en.put,.string (S en.key),.string (S en.val)] 106 := by rw [hW]; exact bx_new w _ _ rfl
 have hzW : W.heap.size = w.heap.size + 1 := by rw [hW]; simp
 have HRI := entRight_any en W
 rw [hr] at HRI
 have HCE : Hid (∀ w1 : World,Below W.heap.size W w1 -> (w1.cell? ⟨w.heap.size,0,none⟩ = some (.bool en.put) /\ w1.cell? ⟨w.heap.size,1,none⟩ = some (.string (S en.key)) /\ w1.cell? ⟨w.heap.size,2,none⟩ = some (.string (S en.val))) /\ w1.cell? ⟨bs,1,none⟩ = some (.pointer (some ⟨bw,0,none⟩)) /\ Below w.heap.size w w1) := fun w1 hb => by
  have h1 := hx.below hb hx.lt
  have hb1 : Below w.heap.size w w1 := hB0.trans (hb.mono hB0.size)
  have h2 : w1.cell? ⟨bs,1,none⟩ = some (optP q.ow) := (hS.box.below hb1 hS.box.lt).cell (j := 1) rfl
  rw [hbw] at h2
  exact ⟨⟨h1.cell (j := 0) rfl,h1.cell (j := 1) rfl,h1.cell (j := 2) rfl⟩,h2,hb1⟩
 have HRF : Hid (∀ w1 : World,Below W.heap.size W w1 -> Calls Tryz.prog 38 #[.pointer (some ⟨bs,0,none⟩)] w1 fun e w' => e = .returned (.int .i64 0) /\ Below w1.heap.size w1 w') := fun w1 hb => by
  have hb1 : Below w.heap.size w w1 := hB0.trans (hb.mono hB0.size)
  have := refusal_any E n G bs d q w1 (hE.chg (F := fun _ => False) (Chg.of_below hb1) (fun _ h => h.elim)) (hS.below hb1)
  rw [hrf] at this
  exact this
 have hwl := hok_waits hok
 have hmo := hok.most
 have HTK : Hid (∀ w1 : World,Below w.heap.size w w1 -> Calls Tryz.prog 100 #[.pointer (some ⟨bw,0,none⟩),.agg #[.bool en.put,.string (S en.key),.string (S en.val)]] w1 fun e w' => e = .returned (.bool (takesB blk d.waits en)) /\ Below w1.heap.size w1 w') := fun w1 hb => takes_any bw blk d.waits en q.v w1 (hwa.below hb) hk hv (by omega) (by omega)
 have HD0 : Hid (∀ w1 : World,Below w.heap.size w w1 -> Done E G bs w d w1) := fun w1 hb => ⟨⟨q,(hS.below hb).mono (fun k h => .inl h)⟩,Chg.of_below hb⟩
 have HGZ : Hid (∀ k,G k -> k < w.heap.size) := fun k hk => (hG k hk).2
 have HOK : Hid (DkOk d) := hok
 have HHO : Hid (d.opn = some blk) := ho
 cases hf : takesB blk d.waits en with
 | true =>
  rw [hf] at HTK
  have HA : Hid (d.add en = (0,{ d with waits := d.waits ++ [en] })) := add_fits hr hd ho hf
  rw [hzW] at HCE HRF HRI
  have HSZ : Hid (∀ w1 : World,Below (w.heap.size + 1) W w1 -> w.heap.size + 1 <= w1.heap.size) := fun w1 hb => by have := hb.size; omega
  have HAD : Hid (∀ w4 : World,Below w.heap.size w w4 -> _) := fun w4 hb => done_add (en := en) HGZ.out (HD0.out w4 hb) HHO.out HOK.out hk hv
  subst hW
  unfold entV at HRI ⊢
  clear hE hG hS hok hwa hw hB0 hx hzW hbw hwl hmo ho
  go_enter Tryz.func53,Tryz.ntmps53
  go_wp2_with (first | (go_at_call 99; refine HRI.mono ?_; rintro e w1 ⟨rfl,hb⟩) | (go_at_call 38; refine (HRF.out w1 hb).mono ?_; rintro e w2 ⟨rfl,hb2⟩; have hbW : Below (w.heap.size + 1) (w.alloc (.cells #[.bool en.put,.string (S en.key),.string (S en.val)] 106)) w2 := hb.trans (hb2.mono (HSZ.out w1 hb)); obtain ⟨⟨e0,e1,e2⟩,k1,hbw2⟩ := HCE.out w2 hbW; have HBW : Hid (Below w.heap.size w w2) := hbw2; clear hb hb2 hbW hbw2))
  go_region_held3 (fun w' => (w'.cell? ⟨bs,1,none⟩ = some (.pointer (some ⟨bw,0,none⟩)) /\ (w'.cell? ⟨w.heap.size,0,none⟩ = some (.bool en.put) /\ w'.cell? ⟨w.heap.size,1,none⟩ = some (.string (S en.key)) /\ w'.cell? ⟨w.heap.size,2,none⟩ = some (.string (S en.val)))) /\ Below w.heap.size w w') (first | (exact ⟨⟨k1,e0,e1,e2⟩,HBW.out.drew⟩) | (assumption) | (exact addS_next (by assumption) (by assumption))) (first | (go_at_call 100; refine (HTK.out _ ?_).mono ?_; exact And.right (by assumption); rintro e w3 ⟨rfl,hb3⟩))
  all_goals
   have hs3 : AddS bs bw w.heap.size en w w3 := by assumption
   obtain ⟨⟨m1,m2,m3,m4⟩,m5⟩ := hs3
   obtain ⟨bw4,n1,hadd⟩ := HAD.out w3 m5
   have hbe : bw4 = bw := by rw [m1] at n1; simpa using n1.symm
   subst hbe
   have HADD : Hid _ := hadd
   clear hadd n1 m5 e0 e1 e2 k1
   go_wp2_with fail
   go_region_with (first | (go_at_call 101; refine (HADD.out _ ?_).mono ?_; exact (Below.refl _ _).drew; rintro e w5 ⟨rfl,hd5⟩))
   all_goals
    go_wp2
    go_ret
    exact ⟨by rw [HA.out]; rfl,by rw [HA.out]; exact hd5⟩
 | false =>
  rw [hf] at HTK
  have hne : d.waits ≠ [] := by intro e; unfold takesB at hf; rw [e] at hf; simp at hf
  have HWR : Hid (∀ w3 : World,Below w.heap.size w w3 -> Calls Tryz.prog 40 #[.pointer (some ⟨bs,0,none⟩)] w3 fun e w' => ∃ v,e = .returned v /\ FaultIs w' E d.write.1 v /\ Done E G bs w d.write.2 w' /\ Chg G w3 w') := fun w1 hb =>
   (write_any E n G bs blk d q w1 (hE.chg (F := fun _ => False) (Chg.of_below hb) (fun _ h => h.elim)) (fun k hk => ⟨(hG k hk).1,Nat.lt_of_lt_of_le (hG k hk).2 hb.size⟩) (hS.below hb) hok hd ho hne).mono fun e w' ⟨v,h1,h2,h3⟩ => ⟨v,h1,h2,h3.later hb,h3.2⟩
  have HAW := add_write hr hd ho hf
  have hfine := write_fine hok hd
  have HCW := codes_answer (write_codes d)
  have HEV : Hid (∀ (w1 : World) (d' : Dk),Done E G bs w d' w1 -> Env w1 E) := fun w1 d' h => (done_env hE hG h).env
  have HNG : Hid (¬ G w.heap.size) := fun h => by have := (hG _ h).2; omega
  generalize d.write = r at *
  obtain ⟨re,rd⟩ := r
  simp only at HAW hfine HCW
  by_cases h0 : re = 0
  ·subst h0
   rw [if_pos rfl] at HAW
   obtain ⟨f1,f2,f3,f4⟩ := hfine rfl
   have HA : Hid (d.add en = (0,{ rd with waits := rd.waits ++ [en] })) := HAW
   have HAD : Hid (∀ w4 : World,Done E G bs w rd w4 -> _) := fun w4 h => done_add (en := en) HGZ.out h (f3.trans HHO.out) f1 hk hv
   clear HAW hfine f1 f2 f3 f4 HCW hne
   rw [hzW] at HCE HRF HRI
   have HSZ : Hid (∀ w1 : World,Below (w.heap.size + 1) W w1 -> w.heap.size + 1 <= w1.heap.size) := fun w1 hb => by have := hb.size; omega
   subst hW
   unfold entV at HRI ⊢
   clear hE hG hS hok hwa hw hB0 hx hzW hbw hwl hmo ho
   go_enter Tryz.func53,Tryz.ntmps53
   go_wp2_with (first | (go_at_call 99; refine HRI.mono ?_; rintro e w1 ⟨rfl,hb⟩) | (go_at_call 38; refine (HRF.out w1 hb).mono ?_; rintro e w2 ⟨rfl,hb2⟩; have hbW : Below (w.heap.size + 1) (w.alloc (.cells #[.bool en.put,.string (S en.key),.string (S en.val)] 106)) w2 := hb.trans (hb2.mono (HSZ.out w1 hb)); obtain ⟨⟨e0,e1,e2⟩,k1,hbw2⟩ := HCE.out w2 hbW; have HBW : Hid (Below w.heap.size w w2) := hbw2; clear hb hb2 hbW hbw2))
   go_region_held3 (fun w' => (w'.cell? ⟨bs,1,none⟩ = some (.pointer (some ⟨bw,0,none⟩)) /\ (w'.cell? ⟨w.heap.size,0,none⟩ = some (.bool en.put) /\ w'.cell? ⟨w.heap.size,1,none⟩ = some (.string (S en.key)) /\ w'.cell? ⟨w.heap.size,2,none⟩ = some (.string (S en.val)))) /\ Below w.heap.size w w') (first | (exact ⟨⟨k1,e0,e1,e2⟩,HBW.out.drew⟩) | (assumption) | (exact addS_next (by assumption) (by assumption))) (first | (go_at_call 100; refine (HTK.out _ ?_).mono ?_; exact And.right (by assumption); rintro e w3 ⟨rfl,hb3⟩))
   all_goals
    have hs3 : AddS bs bw w.heap.size en w w3 := by assumption
    obtain ⟨⟨m1,m2,m3,m4⟩,m5⟩ := hs3
    have HM : Hid (Below w.heap.size w w3) := m5
    have HX3 : Hid (∀ w4 : World,Chg G w3 w4 -> w4.cell? ⟨w.heap.size,0,none⟩ = some (.bool en.put) /\ w4.cell? ⟨w.heap.size,1,none⟩ = some (.string (S en.key)) /\ w4.cell? ⟨w.heap.size,2,none⟩ = some (.string (S en.val))) := fun w4 hc => by
     have hlt := cell_lt (p := ⟨w.heap.size,0,none⟩) m2
     have hh := hc.keep w.heap.size hlt HNG.out
     have f : ∀ {j : Nat} {x : Value},w3.cell? ⟨w.heap.size,j,none⟩ = some x -> w4.cell? ⟨w.heap.size,j,none⟩ = some x := fun {j x} hx => by
      rw [<- hx]
      unfold World.cell?
      rw [hh]
     exact ⟨f m2,f m3,f m4⟩
    clear m1 m2 m3 m4 m5 e0 e1 e2 k1
    go_wp2_with (first | (go_at_call 40; refine (HWR.out w3 HM.out).mono ?_; rintro e w4 ⟨v,rfl,hf4,hd4,hc4⟩; obtain rfl := fault_nil hf4; obtain ⟨e0,e1,e2⟩ := HX3.out w4 hc4; obtain ⟨bw4,n1,hadd⟩ := HAD.out w4 hd4; have HADD : Hid _ := hadd; clear hadd hf4 hd4 hc4))
    go_region_with (first | (go_at_call 101; refine (HADD.out _ ?_).mono ?_; exact (Below.refl _ _).drew; rintro e w5 ⟨rfl,hd5⟩))
    all_goals
     go_wp2
     go_ret
     exact ⟨by rw [HA.out]; rfl,by rw [HA.out]; exact hd5⟩
  ·rw [if_neg h0] at HAW
   have HA : Hid (d.add en = (re,rd)) := HAW
   clear HAW hfine hne
   rw [hzW] at HCE HRF HRI
   have HSZ : Hid (∀ w1 : World,Below (w.heap.size + 1) W w1 -> w.heap.size + 1 <= w1.heap.size) := fun w1 hb => by have := hb.size; omega
   subst hW
   unfold entV at HRI ⊢
   clear hE hG hS hok hwa hw hB0 hx hzW hbw hwl hmo ho
   go_enter Tryz.func53,Tryz.ntmps53
   go_wp2_with (first | (go_at_call 99; refine HRI.mono ?_; rintro e w1 ⟨rfl,hb⟩) | (go_at_call 38; refine (HRF.out w1 hb).mono ?_; rintro e w2 ⟨rfl,hb2⟩; have hbW : Below (w.heap.size + 1) (w.alloc (.cells #[.bool en.put,.string (S en.key),.string (S en.val)] 106)) w2 := hb.trans (hb2.mono (HSZ.out w1 hb)); obtain ⟨⟨e0,e1,e2⟩,k1,hbw2⟩ := HCE.out w2 hbW; have HBW : Hid (Below w.heap.size w w2) := hbw2; clear hb hb2 hbW hbw2))
   go_region_held3 (fun w' => (w'.cell? ⟨bs,1,none⟩ = some (.pointer (some ⟨bw,0,none⟩)) /\ (w'.cell? ⟨w.heap.size,0,none⟩ = some (.bool en.put) /\ w'.cell? ⟨w.heap.size,1,none⟩ = some (.string (S en.key)) /\ w'.cell? ⟨w.heap.size,2,none⟩ = some (.string (S en.val)))) /\ Below w.heap.size w w') (first | (exact ⟨⟨k1,e0,e1,e2⟩,HBW.out.drew⟩) | (assumption) | (exact addS_next (by assumption) (by assumption))) (first | (go_at_call 100; refine (HTK.out _ ?_).mono ?_; exact And.right (by assumption); rintro e w3 ⟨rfl,hb3⟩))
   all_goals
    have hs3 : AddS bs bw w.heap.size en w w3 := by assumption
    have HM : Hid (Below w.heap.size w w3) := hs3.2
    clear e0 e1 e2 k1
    go_wp2_with (first | (go_at_call 40; refine (HWR.out w3 HM.out).mono ?_; rintro e w4 ⟨v,rfl,hf4,hd4,hc4⟩; obtain ⟨b,rfl⟩ := fault_some hf4 h0; have HFA : Hid (FaultIs w4 E re (.iface 128 (.pointer (some ⟨b,0,none⟩)))) := hf4; have HDN : Hid (Done E G bs w rd w4) := hd4; clear hf4 hd4 hc4) | (go_at_call 41; refine (answer_any E re _ w4 (HEV.out w4 _ HDN.out) HFA.out HCW).mono ?_; rintro e w7 ⟨rfl,hb7⟩))
    go_ret
    exact ⟨by rw [HA.out]; rfl,by rw [HA.out]; exact done_below HDN.out hb7⟩
theorem addE_any (E : Sent) (n : Nat) (G : Nat -> Prop) (bs : Nat) (d : Dk) (q : StP) (en : Ent) (w : World) (hE : Env0 n w E) (hG : ∀ k,G k -> n <= k /\ k < w.heap.size) (hS : StoreAt w G bs d q) (hok : DkOk d) :
  Calls Tryz.prog 53 #[.pointer (some ⟨bs,0,none⟩),entV en] w fun e w' => e = .returned (.int .i64 (d.add en).1) /\ Done E G bs w (d.add en).2 w' := by
 by_cases h : rightB en = false \/ refE d ≠ 0
 ·exact add_refused E n G bs d q en w hE hS h
 ·have h1 : rightB en = true := by cases hh : rightB en; exact absurd (.inl hh) h; rfl
  have h2 : refE d = 0 := by by_cases hh : refE d = 0; exact hh; exact absurd (.inr hh) h
  exact add_let E n G bs d q en w hE hG hS hok h1 h2
theorem putS_any (E : Sent) (n : Nat) (G : Nat -> Prop) (bs : Nat) (d : Dk) (q : StP) (key val : List UInt8) (w : World) (hE : Env0 n w E) (hG : ∀ k,G k -> n <= k /\ k < w.heap.size) (hS : StoreAt w G bs d q) (hok : DkOk d) :
  Calls Tryz.prog 26 #[.pointer (some ⟨bs,0,none⟩),.string (S key),.string (S val)] w fun e w' => e = .returned (.int .i64 (d.add ⟨true,key,val⟩).1) /\ Done E G bs w (d.add ⟨true,key,val⟩).2 w' := by
 have HA := addE_any E n G bs d q ⟨true,key,val⟩ w hE hG hS hok
 unfold entV at HA
 simp only at HA
 clear hE hG hS hok
 generalize d.add ⟨true,key,val⟩ = r at *
 go_enter Tryz.func26,Tryz.ntmps26
 go_wp2_with (first | (go_at_call 53; refine HA.mono ?_; rintro e w1 ⟨rfl,hd⟩))
 go_ret
 exact ⟨rfl,hd⟩
theorem S_nil : S [] = (⟨#[]⟩ : ByteArray) := rfl
theorem delS_any (E : Sent) (n : Nat) (G : Nat -> Prop) (bs : Nat) (d : Dk) (q : StP) (key : List UInt8) (w : World) (hE : Env0 n w E) (hG : ∀ k,G k -> n <= k /\ k < w.heap.size) (hS : StoreAt w G bs d q) (hok : DkOk d) :
  Calls Tryz.prog 24 #[.pointer (some ⟨bs,0,none⟩),.string (S key)] w fun e w' => e = .returned (.int .i64 (d.add ⟨false,key,[]⟩).1) /\ Done E G bs w (d.add ⟨false,key,[]⟩).2 w' := by
 have HA := addE_any E n G bs d q ⟨false,key,[]⟩ w hE hG hS hok
 unfold entV at HA
 simp only [S_nil] at HA
 clear hE hG hS hok
 generalize d.add ⟨false,key,[]⟩ = r at *
 go_enter Tryz.func24,Tryz.ntmps24
 go_wp2_with (first | (go_at_call 53; refine HA.mono ?_; rintro e w1 ⟨rfl,hd⟩))
 go_ret
 exact ⟨rfl,hd⟩
theorem fileR_codes (d : Dk) (s : List UInt8) : (d.fileR s).2 = 0 \/ (d.fileR s).2 = 6 \/ (d.fileR s).2 = 7 \/ (d.fileR s).2 = 8 \/ (d.fileR s).2 = 1 \/ (d.fileR s).2 = 2 := by
 unfold Dk.fileR
 split
 ·simp
 ·split <;> simp
theorem fileS_any (E : Sent) (n : Nat) (G : Nat -> Prop) (bs : Nat) (d : Dk) (q : StP) (s : ByteArray) (w : World) (hE : Env0 n w E) (hS : StoreAt w G bs d q) (hs : s.size <= 140737488351232) :
  Calls Tryz.prog 19 #[.pointer (some ⟨bs,0,none⟩),.string s] w fun e w' => e = .returned (.tuple #[.string (S (d.fileR s.data.toList).1),.int .i64 (d.fileR s.data.toList).2]) /\ Below w.heap.size w w' := by
 have c0 : w.cell? ⟨bs,0,none⟩ = some (.pointer (some ⟨q.bd,0,none⟩)) := hS.box.cell (j := 0) rfl
 have HRD := read_disk E n q.Fd q.bd d q.p s w hE hS.disk hs
 have HEV : Hid (∀ w1 : World,Below w.heap.size w w1 -> Env w1 E) := fun w1 hb => hE.env.below hb
 have HCO := fileR_codes d s.data.toList
 clear hE hS
 generalize d.fileR s.data.toList = r at *
 go_enter Tryz.func19,Tryz.ntmps19
 go_wp2_with (first | (go_at_call 50; refine HRD.mono ?_; rintro e w1 ⟨ev,rfl,hf,hb⟩; have HFA : Hid (FaultIs w1 E r.2 ev) := hf; have HB : Hid (Below w.heap.size w w1) := hb; clear hf hb) | (go_at_call 41; refine (answer_any E r.2 ev w1 (HEV.out w1 HB.out) HFA.out HCO).mono ?_; rintro e w2 ⟨rfl,hb2⟩))
 go_ret2
 exact ⟨rfl,HB.out.trans (hb2.mono HB.out.size)⟩
def dk0 (room : Nat) : Dk := ⟨room,false,none,none,none,none,none,[]⟩
theorem dk0_file (room i : Nat) : (dk0 room).file i = none := by
 unfold Dk.file dk0
 split
 ·rfl
 ·split
  ·rfl
  ·split <;> rfl
def Fnew (w : World) (k : Nat) : Prop := k = w.heap.size \/ k = w.heap.size + 1
theorem disk0 (room : Nat) (w : World) : DiskAt ((w.alloc (.map #[] 0)).alloc (.cells #[.int .i64 (room : Int),.map (some w.heap.size),.bool false,.pointer none] 183)) (Fnew w) (w.heap.size + 1) (dk0 room) ⟨w.heap.size,none,fun _ => 0,fun _ => .slice none 0 0⟩ := by
 refine ⟨bx_new _ _ _ (by simp),⟨.map [],own_tight ((World.ownsMap_made w _ _ _).alloc _) (Nat.zero_le _),?_,rfl⟩,trivial,fun i f h => (by rw [dk0_file] at h; cases h),fun i j _ h => (by rw [dk0_file] at h; cases h),fun i j _ h => (by rw [dk0_file] at h; cases h),.inr rfl,.inl rfl,fun c e => (by cases e),fun i h => (by rw [dk0_file] at h; cases h),fun i h => (by rw [dk0_file] at h; cases h),fun s k e => (by cases e)⟩
 refine view_empty.congr (fun l => ?_)
 unfold fM
 split
 ·rw [dk0_file]; rfl
 ·rfl
theorem new_any (room : Nat) (w : World) :
  Calls Tryz.prog 67 #[.int .i64 (room : Int)] w fun e w' => e = .returned (.pointer (some ⟨w.heap.size + 1,0,none⟩)) /\ w' = (w.alloc (.map #[] 0)).alloc (.cells #[.int .i64 (room : Int),.map (some w.heap.size),.bool false,.pointer none] 183) := by
 have hmm := @run_makeMap Tryz.prog
 go_enter Tryz.func67,Tryz.ntmps67
 go_wp2
 go_ret
 exact ⟨rfl,rfl⟩
def Gnew (w w' : World) (k : Nat) : Prop := w.heap.size <= k /\ k < w'.heap.size
theorem disk_good (room : Nat) (w : World) (h : room <= 100000) :
  Calls Tryz.prog 35 #[.int .i64 (room : Int)] w fun e w' => ∃ bs q,e = .returned (.tuple #[.pointer (some ⟨bs,0,none⟩),.int .i64 0]) /\ StoreAt w' (Gnew w w') bs (dk0 room) q /\ Below w.heap.size w w' := by
 have h0 : ¬ ((room : Int) < 0) := by omega
 have h1 : ¬ ((100000 : Int) < (room : Int)) := by omega
 go_enter Tryz.func35,Tryz.ntmps35
 go_wp2_with (first | (go_at_call 67; refine (new_any room w).mono ?_; rintro e w1 ⟨rfl,hw1⟩; have hsz : w1.heap.size = w.heap.size + 1 + 1 := (by rw [hw1]; simp); have HD : Hid (DiskAt w1 (Fnew w) (w.heap.size + 1) (dk0 room) ⟨w.heap.size,none,fun _ => 0,fun _ => .slice none 0 0⟩) := (by rw [hw1]; exact disk0 room w); have HB : Hid (Below w.heap.size w w1) := (by rw [hw1]; exact ((Below.refl _ _).alloc (Nat.le_refl _) _).alloc (by simp) _); clear hw1))
 go_ret2
 refine ⟨w.heap.size + 1 + 1,⟨w.heap.size + 1,Fnew w,⟨w.heap.size,none,fun _ => 0,fun _ => .slice none 0 0⟩,none,.slice none 0 0⟩,rfl,?_,HB.out.alloc (by omega) _⟩
 refine ⟨bx_new _ _ _ (by omega),HD.out.alloc _,rfl,?_,fun b e => (by cases e),fun g e => (by cases e),⟨by omega,by simp; omega⟩,?_,fun b e => (by cases e),fun g e => (by cases e)⟩
 ·rintro (e | e) <;> omega
 ·rintro k (e | e)
  ·exact ⟨by omega,by simp; omega⟩
  ·exact ⟨by omega,by simp; omega⟩
theorem create_arg {d : Dk} {a b c : Int} (h : wellB a b c = false) : d.create a b c = (1,d) := by unfold Dk.create; rw [if_pos h]
theorem create_down {d : Dk} {a b c : Int} (h : wellB a b c = true) (hd : d.down = true) : d.create a b c = (7,d) := by unfold Dk.create; rw [if_neg (by simp [h]),if_pos hd]
theorem create_there {d : Dk} {a b c : Int} (h : wellB a b c = true) (hd : d.down = false) (hf : d.f0.isSome = true) : d.create a b c = (5,d) := by unfold Dk.create; rw [if_neg (by simp [h]),if_neg (by simp [hd]),if_pos hf]
theorem create_makes {d : Dk} {a b c : Int} (h : wellB a b c = true) (hd : d.down = false) (hf : d.f0.isSome = false) : d.create a b c = d.opening a.toNat [stMake 0,stAppend 0 (headL a.toNat b.toNat c.toNat),stSync 0] := by unfold Dk.create; rw [if_neg (by simp [h]),if_neg (by simp [hd]),if_neg (by simp [hf])]
theorem make_log (w : World) : Calls Tryz.prog 54 #[.string ⟨#[108,111,103]⟩] w (Made w (stMake 0) none) := by
 rw [S_log]
 exact makeS_any 0 w (by omega)
theorem create_not (E : Sent) (n : Nat) (G : Nat -> Prop) (bs : Nat) (d : Dk) (q : StP) (a b c : Int) (w : World) (hE : Env0 n w E) (hS : StoreAt w G bs d q) (h : wellB a b c = false \/ d.down = true \/ d.f0.isSome = true) :
  Calls Tryz.prog 36 #[.pointer (some ⟨bs,0,none⟩),.agg #[.int .i64 a,.int .i64 b,.int .i64 c]] w fun e w' => e = .returned (.int .i64 (d.create a b c).1) /\ Done E G bs w (d.create a b c).2 w' := by
 have HS0 : Hid (∀ w1 : World,Below w.heap.size w w1 -> Done E G bs w d w1) := fun w1 hb => ⟨⟨q,(hS.below hb).mono (fun k h => .inl h)⟩,Chg.of_below hb⟩
 obtain ⟨W,hW⟩ : ∃ W : World,W = w.alloc (.cells #[.int .i64 a,.int .i64 b,.int .i64 c] 29) := ⟨_,rfl⟩
 have hB0 : Below w.heap.size w W := by rw [hW]; exact (Below.refl _ _).alloc (Nat.le_refl _) _
 have HB0 : Hid (∀ w1 : World,Below W.heap.size W w1 -> Below w.heap.size w w1) := fun w1 hb => hB0.trans (hb.mono hB0.size)
 have HIC := isConfig_any a b c W
 have HC0 : Hid (∀ w1 : World,Below w.heap.size w w1 -> w1.cell? ⟨bs,0,none⟩ = some (.pointer (some ⟨q.bd,0,none⟩))) := fun w1 hb => (hS.box.below hb hS.box.lt).cell (j := 0) rfl
 have HHA : Hid (∀ w1 : World,Below w.heap.size w w1 -> _) := fun w1 hb => has_any E n q.Fd q.bd d q.p ⟨#[108,111,103]⟩ w1 (hE.chg (F := fun _ => False) (Chg.of_below hb) (fun _ h => h.elim)) (hS.disk.below hb) (by decide)
 have HEV : Hid (∀ w1 : World,Below w.heap.size w w1 -> Env w1 E) := fun w1 hb => hE.env.below hb
 cases hw : wellB a b c with
 | false =>
  rw [hw] at HIC
  have HA : Hid (d.create a b c = (1,d)) := create_arg hw
  subst hW
  clear hE hS hB0 h
  go_enter Tryz.func36,Tryz.ntmps36
  go_wp2_with (first | (go_at_call 68; refine HIC.mono ?_; rintro e w1 ⟨rfl,hb⟩; have HB : Hid (Below w.heap.size w w1) := HB0.out w1 hb; clear hb))
  go_ret
  exact ⟨by rw [HA.out]; rfl,by rw [HA.out]; exact HS0.out _ HB.out⟩
 | true =>
  rw [hw] at HIC
  cases hd : d.down with
  | true =>
   rw [hd] at HHA
   simp only [if_true,Bool.not_true,Bool.false_and] at HHA
   have HA : Hid (d.create a b c = (7,d)) := create_down hw hd
   subst hW
   clear hE hS hB0 h
   go_enter Tryz.func36,Tryz.ntmps36
   go_wp2_with (first | (go_at_call 68; refine HIC.mono ?_; rintro e w1 ⟨rfl,hb⟩; have HB : Hid (Below w.heap.size w w1) := HB0.out w1 hb; have k0 := HC0.out w1 HB.out; clear hb) | (go_at_call 69; refine (HHA.out w1 HB.out).mono ?_; rintro e w2 ⟨ev,rfl,hf,hb⟩; obtain ⟨fb,rfl⟩ := fault_some hf (by decide); have HB2 : Hid (Below w.heap.size w w2) := HB.out.trans (hb.mono HB.out.size); have HFA : Hid (FaultIs w2 E 7 (.iface 128 (.pointer (some ⟨fb,0,none⟩)))) := hf; clear hf hb) | (go_at_call 41; refine (answer_any E 7 _ w2 (HEV.out w2 HB2.out) HFA.out (by decide)).mono ?_; rintro e w3 ⟨rfl,hb3⟩))
   go_ret
   exact ⟨by rw [HA.out]; rfl,by rw [HA.out]; exact HS0.out _ (HB2.out.trans (hb3.mono HB2.out.size))⟩
  | false =>
   rw [hd] at HHA
   have hf0 : d.f0.isSome = true := by
    rcases h with h | h | h
    ·rw [hw] at h; cases h
    ·rw [hd] at h; cases h
    ·exact h
   have hfn : (d.file (nameN (⟨#[108,111,103]⟩ : ByteArray).data.toList)).isSome = true := hf0
   rw [hfn] at HHA
   simp only [Bool.false_eq_true,if_false,Bool.not_false,Bool.true_and] at HHA
   have HA : Hid (d.create a b c = (5,d)) := create_there hw hd hf0
   subst hW
   clear hE hS hB0 h hf0 hfn
   go_enter Tryz.func36,Tryz.ntmps36
   go_wp2_with (first | (go_at_call 68; refine HIC.mono ?_; rintro e w1 ⟨rfl,hb⟩; have HB : Hid (Below w.heap.size w w1) := HB0.out w1 hb; have k0 := HC0.out w1 HB.out; clear hb) | (go_at_call 69; refine (HHA.out w1 HB.out).mono ?_; rintro e w2 ⟨ev,rfl,hf,hb⟩; obtain rfl := fault_nil hf; have HB2 : Hid (Below w.heap.size w w2) := HB.out.trans (hb.mono HB.out.size); clear hf hb))
   go_ret
   exact ⟨by rw [HA.out]; rfl,by rw [HA.out]; exact HS0.out _ HB2.out⟩
theorem steps_three {w4 : World} {F : Nat -> Prop} {sa sb sc : St} {a1 a2 b1 b2 c1 c2 : ByteArray} {ka kb kc : Nat} {ca cb cc : Array Value} (hF : ∀ q,F q -> q < w4.heap.size) (ha : TakeAt w4 F sa (.func (.func ka) #[] ca)) (hb : TakeAt w4 F sb (.func (.func kb) #[] cb)) (hc : TakeAt w4 F sc (.func (.func kc) #[] cc)) (fa : StFine sa) (fb : StFine sb) (fc : StFine sc) :
  StepsAt (w4.alloc (.cells #[.string a1,.string a2,.func (.func ka) #[] ca,.string b1,.string b2,.func (.func kb) #[] cb,.string c1,.string c2,.func (.func kc) #[] cc] 86)) F w4.heap.size #[.string a1,.string a2,.func (.func ka) #[] ca,.string b1,.string b2,.func (.func kb) #[] cb,.string c1,.string c2,.func (.func kc) #[] cc] [sa,sb,sc] := by
 have hB := ((Below.refl w4.heap.size w4).alloc (Nat.le_refl _) (.cells #[.string a1,.string a2,.func (.func ka) #[] ca,.string b1,.string b2,.func (.func kb) #[] cb,.string c1,.string c2,.func (.func kc) #[] cc] 86))
 have tk : ∀ {s : St} {v : Value},TakeAt w4 F s v -> TakeAt (w4.alloc (.cells #[.string a1,.string a2,.func (.func ka) #[] ca,.string b1,.string b2,.func (.func kb) #[] cb,.string c1,.string c2,.func (.func kc) #[] cc] 86)) F s v := fun h => h.turn (Chg.of_below (F := fun _ => False) hB) (fun _ h => h.elim) (fun _ _ h => h)
 refine ⟨bx_new w4 _ _ rfl,fun h => absurd (hF _ h) (by omega),?_⟩
 intro j s hj
 match j,hj with
 | 0,hj => cases hj; exact ⟨a1,a2,_,rfl,rfl,rfl,tk ha,fa⟩
 | 1,hj => cases hj; exact ⟨b1,b2,_,rfl,rfl,rfl,tk hb,fb⟩
 | 2,hj => cases hj; exact ⟨c1,c2,_,rfl,rfl,rfl,tk hc,fc⟩
 | j + 3,hj => simp at hj
theorem create_call {E : Sent} {n : Nat} {G : Nat -> Prop} {bs : Nat} {d : Dk} {q : StP} {blk seed bits g : Nat} {t : List UInt8} {w w0 w1 w2 w3 w4 : World} {a1 a2 b1 b2 c1 c2 : ByteArray} {ka kb kc : Nat} {ca cb cc : Array Value} (hE : Env0 n w E) (hG : ∀ k,G k -> n <= k /\ k < w.heap.size) (hS : StoreAt w G bs d q) (hok : DkOk d) (hup : d.down = false) (h0 : Below w.heap.size w w0)
  (ha : ∀ F : Nat -> Prop,(∀ q,F q -> q < w0.heap.size) -> (∀ q,(none : Option Nat) = some q -> ¬ F q) -> TakeAt w1 F (stMake 0) (.func (.func ka) #[] ca)) (h1 : Below w0.heap.size w0 w1) (h2 : Below w1.heap.size w1 w2) (hg : w.heap.size <= g)
  (hb : ∀ F : Nat -> Prop,(∀ q,F q -> q < w2.heap.size) -> (∀ q,some g = some q -> ¬ F q) -> TakeAt w3 F (stAppend 0 t) (.func (.func kb) #[] cb)) (h3 : Below w2.heap.size w2 w3)
  (hc : ∀ F : Nat -> Prop,(∀ q,F q -> q < w3.heap.size) -> (∀ q,(none : Option Nat) = some q -> ¬ F q) -> TakeAt w4 F (stSync 0) (.func (.func kc) #[] cc)) (h4 : Below w3.heap.size w3 w4) :
  Calls Tryz.prog 70 #[.pointer (some ⟨bs,0,none⟩),.agg #[.int .i64 (blk : Int),.int .i64 (seed : Int),.int .i64 (bits : Int)],.slice (some ⟨w4.heap.size,0,none⟩) 3 3] (w4.alloc (.cells #[.string a1,.string a2,.func (.func ka) #[] ca,.string b1,.string b2,.func (.func kb) #[] cb,.string c1,.string c2,.func (.func kc) #[] cc] 86)) fun e w' => e = .returned (.int .i64 (d.opening blk [stMake 0,stAppend 0 t,stSync 0]).1) /\ Done E G bs w (d.opening blk [stMake 0,stAppend 0 t,stSync 0]).2 w' /\ Chg G (w4.alloc (.cells #[.string a1,.string a2,.func (.func ka) #[] ca,.string b1,.string b2,.func (.func kb) #[] cb,.string c1,.string c2,.func (.func kc) #[] cc] 86)) w' := by
 have z0 := h0.size
 have z1 := h1.size
 have z2 := h2.size
 have z3 := h3.size
 have z4 := h4.size
 have hF : ∀ x,q.Fd x -> x < w.heap.size := fun x hx => (hG x (hS.gd x hx)).2
 have B1 : Below w.heap.size w w1 := h0.trans (h1.mono z0)
 have B2 : Below w.heap.size w w2 := B1.trans (h2.mono (by omega))
 have B3 : Below w.heap.size w w3 := B2.trans (h3.mono (by omega))
 have B4 : Below w.heap.size w w4 := B3.trans (h4.mono (by omega))
 have B5 : Below w.heap.size w (w4.alloc (.cells #[.string a1,.string a2,.func (.func ka) #[] ca,.string b1,.string b2,.func (.func kb) #[] cb,.string c1,.string c2,.func (.func kc) #[] cc] 86)) := B4.alloc (by omega) _
 have ta := ha q.Fd (fun x hx => by have := hF x hx; omega) (fun x e => (by cases e))
 have ta4 : TakeAt w4 q.Fd (stMake 0) (.func (.func ka) #[] ca) := ta.turn (Chg.of_below (F := fun _ => False) (h2.trans ((h3.mono z2).trans (h4.mono (by omega))))) (fun _ h => h.elim) (fun _ _ h => h)
 have tb := hb q.Fd (fun x hx => by have := hF x hx; omega) (fun x e hf => by cases e; have := hF _ hf; omega)
 have tb4 : TakeAt w4 q.Fd (stAppend 0 t) (.func (.func kb) #[] cb) := tb.turn (Chg.of_below (F := fun _ => False) h4) (fun _ h => h.elim) (fun _ _ h => h)
 have tc := hc q.Fd (fun x hx => by have := hF x hx; omega) (fun x e => (by cases e))
 have hT := steps_three (a1 := a1) (a2 := a2) (b1 := b1) (b2 := b2) (c1 := c1) (c2 := c2) (F := q.Fd) (fun x hx => by have := hF x hx; omega) ta4 tb4 tc ⟨by simp [stMake],by simp [stMake],by simp [stMake]⟩ ⟨by simp [stAppend],by simp [stAppend],by simp [stAppend]⟩ stSync_fine
 exact (sopen_any E n G bs d q blk seed bits w4.heap.size 3 _ [stMake 0,stAppend 0 t,stSync 0] _ (hE.chg (F := fun _ => False) (Chg.of_below B5) (fun _ h => h.elim)) (fun k hk => ⟨(hG k hk).1,Nat.lt_of_lt_of_le (hG k hk).2 B5.size⟩) (hS.below B5) hok hup hT (by simp) (by simp)).mono fun e w' ⟨e1,e2⟩ => ⟨e1,e2.later B5,e2.2⟩
theorem crS_next {b : Nat} {x y z : Value} {wx w' : World} (h : wx.cell? ⟨b,0,none⟩ = some x /\ wx.cell? ⟨b,1,none⟩ = some y /\ wx.cell? ⟨b,2,none⟩ = some z) (hb : Below wx.heap.size wx w') : w'.cell? ⟨b,0,none⟩ = some x /\ w'.cell? ⟨b,1,none⟩ = some y /\ w'.cell? ⟨b,2,none⟩ = some z := by
 obtain ⟨h1,h4,h5⟩ := h
 have f : ∀ {k j : Nat} {x : Value},wx.cell? ⟨k,j,none⟩ = some x -> w'.cell? ⟨k,j,none⟩ = some x := fun {k j x} hx => by
  have hlt := cell_lt (p := ⟨k,j,none⟩) hx
  rw [<- hx]
  unfold World.cell?
  rw [hb.block k hlt]
 exact ⟨f h1,f h4,f h5⟩
theorem crS_chg {b : Nat} {x y z : Value} {G : Nat -> Prop} {wx w' : World} (h : wx.cell? ⟨b,0,none⟩ = some x /\ wx.cell? ⟨b,1,none⟩ = some y /\ wx.cell? ⟨b,2,none⟩ = some z) (hb : Chg G wx w') (hn : ¬ G b) : w'.cell? ⟨b,0,none⟩ = some x /\ w'.cell? ⟨b,1,none⟩ = some y /\ w'.cell? ⟨b,2,none⟩ = some z := by
 obtain ⟨h1,h4,h5⟩ := h
 have hlt := cell_lt (p := ⟨b,0,none⟩) h1
 have f : ∀ {j : Nat} {x : Value},wx.cell? ⟨b,j,none⟩ = some x -> w'.cell? ⟨b,j,none⟩ = some x := fun {j x} hx => by
  rw [<- hx]
  unfold World.cell?
  rw [hb.keep b hlt hn]
 exact ⟨f h1,f h4,f h5⟩
theorem create_new (E : Sent) (n : Nat) (G : Nat -> Prop) (bs : Nat) (d : Dk) (q : StP) (a b c : Nat) (w : World) (hE : Env0 n w E) (hG : ∀ k,G k -> n <= k /\ k < w.heap.size) (hS : StoreAt w G bs d q) (hok : DkOk d) (hw : wellB a b c = true) (hd : d.down = false) (hf : d.f0.isSome = false) :
  Calls Tryz.prog 36 #[.pointer (some ⟨bs,0,none⟩),.agg #[.int .i64 (a : Int),.int .i64 (b : Int),.int .i64 (c : Int)]] w fun e w' => e = .returned (.int .i64 (d.create a b c).1) /\ Done E G bs w (d.create a b c).2 w' := by
 have hwb := hw
 unfold wellB at hwb
 simp only [Bool.and_eq_true,decide_eq_true_eq] at hwb
 obtain ⟨W,hW⟩ : ∃ W : World,W = w.alloc (.cells #[.int .i64 (a : Int),.int .i64 (b : Int),.int .i64 (c : Int)] 29) := ⟨_,rfl⟩
 have hB0 : Below w.heap.size w W := by rw [hW]; exact (Below.refl _ _).alloc (Nat.le_refl _) _
 have hx : Bx W w.heap.size #[.int .i64 (a : Int),.int .i64 (b : Int),.int .i64 (c : Int)] 29 := by rw [hW]; exact bx_new w _ _ rfl
 have hzW : W.heap.size = w.heap.size + 1 := by rw [hW]; simp
 have HIC := isConfig_any a b c W
 rw [hw] at HIC
 have HC0 : Hid (∀ w1 : World,Below (w.heap.size + 1) W w1 -> w1.cell? ⟨bs,0,none⟩ = some (.pointer (some ⟨q.bd,0,none⟩)) /\ (w1.cell? ⟨w.heap.size,0,none⟩ = some (.int .i64 (a : Int)) /\ w1.cell? ⟨w.heap.size,1,none⟩ = some (.int .i64 (b : Int)) /\ w1.cell? ⟨w.heap.size,2,none⟩ = some (.int .i64 (c : Int))) /\ Below w.heap.size w w1 /\ w.heap.size + 1 <= w1.heap.size) := fun w1 hb => by
  have hb1 : Below w.heap.size w w1 := hB0.trans (hb.mono (by omega))
  have h1 := hx.below hb (by omega)
  exact ⟨(hS.box.below hb1 hS.box.lt).cell (j := 0) rfl,⟨h1.cell (j := 0) rfl,h1.cell (j := 1) rfl,h1.cell (j := 2) rfl⟩,hb1,by have := hb.size; omega⟩
 have HHA : Hid (∀ w1 : World,Below w.heap.size w w1 -> _) := fun w1 hb => has_any E n q.Fd q.bd d q.p ⟨#[108,111,103]⟩ w1 (hE.chg (F := fun _ => False) (Chg.of_below hb) (fun _ h => h.elim)) (hS.disk.below hb) (by decide)
 rw [hd] at HHA
 have hfn : (d.file (nameN (⟨#[108,111,103]⟩ : ByteArray).data.toList)).isSome = false := hf
 rw [hfn] at HHA
 simp only [Bool.false_eq_true,if_false,Bool.not_false,Bool.true_and] at HHA
 have HHD : Hid (∀ wx : World,Below w.heap.size w wx -> Calls Tryz.prog 71 #[.agg #[.int .i64 (a : Int),.int .i64 (b : Int),.int .i64 (c : Int)]] wx fun e w' => ∃ g cp,e = .returned (.slice (some ⟨g,0,none⟩) (headL a b c).length cp) /\ w'.ownsRow 0 5 1 (.slice (some ⟨g,0,none⟩) (headL a b c).length cp) (headL a b c).length (cellsB (headL a b c)) /\ wx.heap.size <= g /\ Below wx.heap.size wx w') := fun wx hb => by
  refine (recHeadB_any a b c wx (by omega) (by omega) (by omega) (hE.env.halves.below hb hE.env.halves.1)).mono ?_
  rintro e w' ⟨v,rfl,hr,hb'⟩
  obtain ⟨g,cp,rfl,hgl,_⟩ := hr.form (by rw [headL_length]; omega)
  exact ⟨g,cp,rfl,own_lower hr (Nat.zero_le _),hgl,hb'⟩
 have HAP : Hid (∀ (w1 : World) (g cp : Nat),w1.ownsRow 0 5 1 (.slice (some ⟨g,0,none⟩) (headL a b c).length cp) (headL a b c).length (cellsB (headL a b c)) -> Calls Tryz.prog 55 #[.string ⟨#[108,111,103]⟩,.slice (some ⟨g,0,none⟩) (headL a b c).length cp] w1 (Made w1 (stAppend 0 (headL a b c)) (some g))) := fun w1 g cp hr => append_log g cp _ w1 hr (by rw [headL_length]; omega) (by rw [headL_length]; omega)
 have HA : Hid (d.create a b c = d.opening a [stMake 0,stAppend 0 (headL a b c),stSync 0]) := create_makes hw hd hf
 have HE : Hid (Env0 n w E) := hE
 have HG : Hid (∀ k,G k -> n <= k /\ k < w.heap.size) := hG
 have HS : Hid (StoreAt w G bs d q) := hS
 have HOK : Hid (DkOk d) := hok
 rw [hzW] at HIC
 subst hW
 have HNG : Hid (¬ G w.heap.size) := fun h => by have := (HG.out _ h).2; omega
 clear hE hG hS hok hB0 hx hzW hfn hf hwb
 go_enter Tryz.func36,Tryz.ntmps36
 go_wp2_with (first | (go_at_call 68; refine HIC.mono ?_; rintro e w1 ⟨rfl,hb⟩; obtain ⟨k0,kk,hbb,hzz⟩ := HC0.out w1 hb; have HB1 : Hid (Below (w.heap.size + 1) _ w1) := hb; have HB : Hid (Below w.heap.size w w1) := hbb; clear hb hbb kk) | (go_at_call 69; refine (HHA.out w1 HB.out).mono ?_; rintro e w2 ⟨ev,rfl,hf,hb⟩; obtain rfl := fault_nil hf; obtain ⟨_,kk,hbb2,_⟩ := HC0.out w2 (HB1.out.trans (hb.mono hzz)); have HB2 : Hid (Below w.heap.size w w2) := hbb2; clear hf hb k0 hbb2))
 go_region_held3 (fun w' => w'.cell? ⟨w.heap.size,0,none⟩ = some (.int .i64 (a : Int)) /\ w'.cell? ⟨w.heap.size,1,none⟩ = some (.int .i64 (b : Int)) /\ w'.cell? ⟨w.heap.size,2,none⟩ = some (.int .i64 (c : Int))) (first | (exact kk) | (assumption) | (exact crS_next (by assumption) (by assumption)) | (exact crS_next (by assumption) ((Below.refl _ _).alloc (Nat.le_refl _) _)) | (exact crS_chg (by assumption) (by assumption) HNG.out)) (first | (go_at_call 54; refine (make_log _).mono ?_; rintro e wm ⟨sa,sa2,ka,ca,rfl,hTa,hba⟩) | (go_at_call 71; refine (HHD.out wm ?_).mono ?_; exact HB2.out.drew.trans (hba.mono HB2.out.size); rintro e wh ⟨g,cp,rfl,hrow,hgl,hbh⟩) | (go_at_call 55; refine (HAP.out wh g cp hrow).mono ?_; rintro e wa ⟨sb,sb2,kb,cb,rfl,hTb,hbb⟩) | (go_at_call 43; refine (sync_log wa).mono ?_; rintro e ws ⟨sc,sc2,kc,cc,rfl,hTc,hbc⟩) | (go_at_call 70; refine (create_call HE.out HG.out HS.out HOK.out hd HB2.out.drew hTa hba hbh (Nat.le_trans HB2.out.size (Nat.le_trans hba.size hgl)) hTb hbb hTc hbc).mono ?_; rintro e wo ⟨rfl,hdn,hchg⟩))
 all_goals
  go_wp2
  go_ret
  exact ⟨by rw [HA.out]; rfl,by rw [HA.out]; exact hdn⟩
end Go.Proofs.YtdhgebdbiehchaaGreatDoor
namespace Go.Proofs.YtdhgebdbiehchaaGreatDoor
open Go.RowKit Go.Maps
set_option linter.unusedVariables false
theorem create_any (E : Sent) (n : Nat) (G : Nat -> Prop) (bs : Nat) (d : Dk) (q : StP) (a b c : Int) (w : World) (hE : Env0 n w E) (hG : ∀ k,G k -> n <= k /\ k < w.heap.size) (hS : StoreAt w G bs d q) (hok : DkOk d) :
  Calls Tryz.prog 36 #[.pointer (some ⟨bs,0,none⟩),.agg #[.int .i64 a,.int .i64 b,.int .i64 c]] w fun e w' => e = .returned (.int .i64 (d.create a b c).1) /\ Done E G bs w (d.create a b c).2 w' := by
 by_cases h : wellB a b c = false \/ d.down = true \/ d.f0.isSome = true
 ·exact create_not E n G bs d q a b c w hE hS h
 ·have hw : wellB a b c = true := by cases hh : wellB a b c; exact absurd (.inl hh) h; rfl
  have hd : d.down = false := by cases hh : d.down; rfl; exact absurd (.inr (.inl hh)) h
  have hf : d.f0.isSome = false := by cases hh : d.f0.isSome; rfl; exact absurd (.inr (.inr hh)) h
  have hwb := hw
  unfold wellB at hwb
  simp only [Bool.and_eq_true,decide_eq_true_eq] at hwb
  obtain ⟨a',rfl⟩ := Int.eq_ofNat_of_zero_le (show 0 <= a by omega)
  obtain ⟨b',rfl⟩ := Int.eq_ofNat_of_zero_le (show 0 <= b by omega)
  obtain ⟨c',rfl⟩ := Int.eq_ofNat_of_zero_le (show 0 <= c by omega)
  exact create_new E n G bs d q a' b' c' w hE hG hS hok hw hd hf
end Go.Proofs.YtdhgebdbiehchaaGreatDoor
namespace Go.Proofs.YtdhgebdbiehchaaGreatDoor
open Go.RowKit Go.Maps
set_option linter.unusedSimpArgs false
set_option linter.unusedVariables false
set_option maxRecDepth 100000
set_option maxHeartbeats 1600000
theorem below_of_chg {n : Nat} {w w2 w' : World} {G : Nat -> Prop} (hb : Below n w w2) (hc : Chg G w2 w') (hG : ∀ k,G k -> n <= k) (hn : n <= w2.heap.size) : Below n w w' :=
 hb.trans ⟨hc.os,hc.tape,hc.output,hc.size,fun k hk => hc.keep k (by omega) (fun hg => absurd (hG k hg) (by omega))⟩
theorem headL_front (blk seed bits : Nat) (post : List UInt8) : (headL blk seed bits ++ post).take 2 = [76,71] := by
 unfold headL sealL
 rfl
theorem kbegun_any (E : Sent) (n : Nat) (blk seed bits : Nat) (w : World) (hE : Env0 n w E) (h1 : 1 <= blk) (h2 : blk <= 400) (h3 : seed <= 4294967295) (h4 : bits <= 32) :
  Calls Tryz.prog 13 #[.agg #[.int .i64 (blk : Int),.int .i64 (seed : Int),.int .i64 (bits : Int)]] w fun e w' => ∃ bs q,e = .returned (.pointer (some ⟨bs,0,none⟩)) /\ StoreAt w' (Gnew w w') bs (kdk blk seed bits [] 14 none []) q /\ Below w.heap.size w w' := by
 obtain ⟨hcr,hK⟩ := k_begun h1 h2 h3 h4
 have HD : Hid (∀ w1 : World,Below w.heap.size w w1 -> Calls Tryz.prog 35 #[.int .i64 100000] w1 fun e w' => ∃ bs q,e = .returned (.tuple #[.pointer (some ⟨bs,0,none⟩),.int .i64 0]) /\ StoreAt w' (Gnew w w') bs (dk0 100000) q /\ Below w.heap.size w w' /\ Below w1.heap.size w1 w') := fun w1 hb => by
  refine (disk_good 100000 w1 (by omega)).mono ?_
  rintro e w' ⟨bs,q,rfl,a1,a2⟩
  exact ⟨bs,q,rfl,a1.mono (fun k hk => ⟨Nat.le_trans hb.size hk.1,hk.2⟩),hb.trans (a2.mono hb.size),a2⟩
 have HC : Hid (∀ (w2 : World) (bs : Nat) (q : StP),Below w.heap.size w w2 -> StoreAt w2 (Gnew w w2) bs (dk0 100000) q -> Calls Tryz.prog 36 #[.pointer (some ⟨bs,0,none⟩),.agg #[.int .i64 (blk : Int),.int .i64 (seed : Int),.int .i64 (bits : Int)]] w2 fun e w' => e = .returned (.int .i64 0) /\ (∃ q',StoreAt w' (Gnew w w') bs (kdk blk seed bits [] 14 none []) q') /\ Below w.heap.size w w') := fun w2 bs q hb hS => by
  have hok : DkOk (dk0 100000) := DkOk.disk (room := 100000) rfl
  have := create_any E n (Gnew w w2) bs (dk0 100000) q blk seed bits w2 (hE.below (hb.mono hE.le)) (fun k hk => ⟨Nat.le_trans hE.le hk.1,hk.2⟩) hS hok
  refine this.mono ?_
  have hcr' : (dk0 100000).create (blk : Int) (seed : Int) (bits : Int) = (0,kdk blk seed bits [] 14 none []) := hcr
  rw [hcr']
  rintro e w' ⟨rfl,⟨q',b1⟩,b2⟩
  have hz := b2.size
  refine ⟨rfl,⟨q',b1.mono ?_⟩,?_⟩
  ·rintro k (hk | hk)
   ·exact ⟨hk.1,Nat.lt_of_lt_of_le hk.2 hz⟩
   ·exact ⟨Nat.le_trans hb.size hk.1,hk.2⟩
  ·exact below_of_chg hb b2 (fun k hk => hk.1) hb.size
 have HF : Hid (∀ (w3 : World) (bs : Nat) (q : StP),Below w.heap.size w w3 -> StoreAt w3 (Gnew w w3) bs (kdk blk seed bits [] 14 none []) q -> Calls Tryz.prog 19 #[.pointer (some ⟨bs,0,none⟩),.string ⟨#[108,111,103]⟩] w3 fun e w' => e = .returned (.tuple #[.string (S (headL blk seed bits)),.int .i64 0]) /\ (∃ q',StoreAt w' (Gnew w w') bs (kdk blk seed bits [] 14 none []) q') /\ Below w.heap.size w w') := fun w3 bs q hb hS => by
  refine (fileS_any E n (Gnew w w3) bs _ q ⟨#[108,111,103]⟩ w3 (hE.below (hb.mono hE.le)) hS (by decide)).mono ?_
  rintro e w' ⟨rfl,b2⟩
  refine ⟨?_,⟨q,(hS.below b2).mono (fun k hk => ⟨hk.1,Nat.lt_of_lt_of_le hk.2 b2.size⟩)⟩,hb.trans (b2.mono hb.size)⟩
  show Ending.returned (.tuple #[.string (S (headL blk seed bits ++ blocksB [])),.int .i64 0]) = _
  rw [show blocksB [] = [] from rfl,List.append_nil]
 have hl := headL_length blk seed bits
 have zl : (S (headL blk seed bits)).size = 14 := by rw [S_size,hl]
 have HCU : ∀ wx : World,(Instr.slice 9 (.string (S (headL blk seed bits))) none (some (.int .i64 2)) none).run Tryz.prog wx = .ok (.string (S [76,71])) wx := by
  intro wx
  have := cut_upto (S (headL blk seed bits)) 2 (by omega) 2 rfl wx
  rw [show (S (headL blk seed bits)).data.toList = headL blk seed bits from rfl] at this
  have e := headL_front blk seed bits []
  rw [List.append_nil] at e
  rw [e] at this
  exact this
 have hcmp : ((S [76,71]).toList == [76,71]) = true := by rw [ByteArray.toList_eq,S_data]; rfl
 generalize headL blk seed bits = hd at *
 clear hcr hK
 go_enter Tryz.func13,Tryz.ntmps13
 go_wp2_with (first | (go_at_call 35; refine (HD.out _ ?_).mono ?_; exact (Below.refl _ _).alloc (Nat.le_refl _) _; rintro e w2 ⟨bs,q,rfl,hS2,hb2,hb3⟩; have hx := (bx_new w #[.int .i64 (blk : Int),.int .i64 (seed : Int),.int .i64 (bits : Int)] 29 rfl).below hb3 (by simp); have x0 := hx.cell (j := 0) rfl; have x1 := hx.cell (j := 1) rfl; have x2 := hx.cell (j := 2) rfl; have HS2 : Hid (StoreAt w2 (Gnew w w2) bs (dk0 100000) q) := hS2; have HB2 : Hid (Below w.heap.size w w2) := hb2; clear hS2 hb2 hb3 hx) | (go_at_call 36; refine (HC.out w2 bs q HB2.out HS2.out).mono ?_; rintro e w3 ⟨rfl,⟨q3,hS3⟩,hb3⟩; have HS3 : Hid (StoreAt w3 (Gnew w w3) bs (kdk blk seed bits [] 14 none []) q3) := hS3; have HB3 : Hid (Below w.heap.size w w3) := hb3; clear hS3 hb3 x0 x1 x2) | (go_at_call 19; refine (HF.out w3 bs q3 HB3.out HS3.out).mono ?_; rintro e w4 ⟨rfl,⟨q4,hS4⟩,hb4⟩; have HS4 : Hid (StoreAt w4 (Gnew w w4) bs (kdk blk seed bits [] 14 none []) q4) := hS4; have HB4 : Hid (Below w.heap.size w w4) := hb4; clear hS4 hb4))
 go_ret
 exact ⟨bs,q4,rfl,HS4.out,HB4.out⟩
def Dk.lefts (d : Dk) (s k : Nat) : Dk := { d with left := some (s,k) }
def comeW (w : World) (bd s k : Nat) : World := (w.alloc (.cells #[.int .i64 (s : Int),.int .i64 (k : Int)] 185)).setCell ⟨bd,3,none⟩ (.pointer (some ⟨w.heap.size,0,none⟩))
theorem comeW_size (w : World) (bd s k : Nat) : (comeW w bd s k).heap.size = w.heap.size + 1 := by
 have h1 := (grown_setB (w.alloc (.cells #[.int .i64 (s : Int),.int .i64 (k : Int)] 185)) bd 3 (.pointer (some ⟨w.heap.size,0,none⟩))).size
 rw [World.size_alloc] at h1
 unfold comeW
 simp [go_sem]
theorem DiskAt.comes {W : World} {F : Nat -> Prop} {bd : Nat} {d : Dk} {p : Pr} (h : DiskAt W F bd d p) (s k : Nat) (hs : s <= 9223372036854775807) (hk : k <= 9223372036854775807) :
  DiskAt (comeW W bd s k) (Fx F W (comeW W bd s k)) bd (d.lefts s k) { p with bc := some W.heap.size } := by
 have hlt := h.dk.lt
 have hz := comeW_size W bd s k
 have h1 : DiskAt W (Fx F W (comeW W bd s k)) bd d p := h.mono (fun k hk => .inl hk)
 have hg : W.grownBy (comeW W bd s k) (some bd) := grown_trans (World.grownBy_alloc W _ (some bd)) (grown_setB _ bd 3 _)
 refine h1.setDk (d' := d.lefts s k) (bc' := some W.heap.size) hg (fun i => rfl) ((h.dk.alloc _).setj 3 _) ?_ ?_ ?_
 ·show Bx _ _ _ _
  exact Bx.other (bx_new W #[.int .i64 (s : Int),.int .i64 (k : Int)] 185 rfl) (by omega) _
 ·intro c e
  cases e
  exact .inr ⟨Nat.le_refl _,by omega⟩
 ·intro s' k' e
  simp only [Dk.lefts,Option.some.injEq,Prod.mk.injEq] at e
  omega
theorem DkOk.lefts {d : Dk} (h : DkOk d) (s k : Nat) : DkOk (d.lefts s k) := ⟨h.room,h.used,h.sync,h.opn,h.waits,h.ents,h.most,h.size⟩
theorem falls_lefts (d : Dk) (s k j : Nat) : (d.lefts s k).falls j = d.falls j := rfl
theorem comeW_chg (F : Nat -> Prop) (w : World) (bd s k : Nat) (h : F bd) : Chg F w (comeW w bd s k) := ((Chg.refl F w).alloc _).set bd 3 _ (.inl h)
theorem dfail_down (E : Sent) (n : Nat) (F : Nat -> Prop) (bd : Nat) (d : Dk) (p : Pr) (s k : Int) (w : World) (hE : Env0 n w E) (hD : DiskAt w F bd d p) (hd : d.down = true) :
  Calls Tryz.prog 57 #[.pointer (some ⟨bd,0,none⟩),.int .i64 s,.int .i64 k] w fun e w' => ∃ v,e = .returned v /\ FaultIs w' E 7 v /\ Below w.heap.size w w' := by
 have c2 : w.cell? ⟨bd,2,none⟩ = some (.bool d.down) := hD.dk.cell (j := 2) rfl
 have gd := hE.env.down
 have e7 : errVal E 7 = .iface 352 (.pointer (some E.down)) := by simp [errVal,errAd]
 have HF : Hid (∀ (wx : World) (g : Nat),g = wx.heap.size -> FaultIs (wx.alloc (.cells #[.string ⟨#[102,97,105,108]⟩,.string ⟨#[]⟩,errVal E 7] 152)) E 7 (.iface 128 (.pointer (some ⟨g,0,none⟩)))) := fun wx g hg => fault_new (by omega) _ _ hg
 rw [hd] at c2
 rw [e7] at HF
 clear hD hE hd e7
 go_enter Tryz.func57,Tryz.ntmps57
 go_wp2
 go_ret
 exact ⟨_,rfl,(HF.out w _ rfl),((Below.refl _ _).alloc (Nat.le_refl _) _)⟩
theorem dfail_later (F : Nat -> Prop) (bd : Nat) (d : Dk) (p : Pr) (s k : Nat) (w : World) (hD : DiskAt w F bd d p) (hd : d.down = false) (hs : s <= 9223372036854775807) (hk : k <= 9223372036854775807) (h0 : s ≠ 0) :
  Calls Tryz.prog 57 #[.pointer (some ⟨bd,0,none⟩),.int .i64 (s : Int),.int .i64 (k : Int)] w fun e w' => e = .returned .nilIface /\ (∃ p',DiskAt w' (Fx F w w') bd (d.lefts s k) p') /\ Chg F w w' := by
 have c2 : w.cell? ⟨bd,2,none⟩ = some (.bool d.down) := hD.dk.cell (j := 2) rfl
 have hA := hD.dk.alloc (.cells #[.int .i64 (s : Int),.int .i64 (k : Int)] 185)
 have c3 : (w.alloc (.cells #[.int .i64 (s : Int),.int .i64 (k : Int)] 185)).cell? ⟨bd,3,none⟩ = some (optP p.bc) := hA.cell (j := 3) rfl
 have z3 := hA.frozen 3
 have HD : Hid (∀ w',w' = comeW w bd s k -> (∃ p',DiskAt w' (Fx F w w') bd (d.lefts s k) p') /\ Chg F w w') := by
  rintro w' rfl
  exact ⟨⟨_,hD.comes s k hs hk⟩,comeW_chg F w bd s k hD.fd⟩
 have hne : (((s : Nat) : Int) == 0) = false := by simp; omega
 rw [hd] at c2
 clear hD hd hA
 go_enter Tryz.func57,Tryz.ntmps57
 go_wp2
 go_ret
 exact ⟨rfl,HD.out _ rfl⟩
theorem dfail_now (F : Nat -> Prop) (bd : Nat) (d : Dk) (p : Pr) (k : Nat) (w : World) (hD : DiskAt w F bd d p) (hok : DkOk d) (hd : d.down = false) (hk : k <= 9223372036854775807) (hFz : ∀ q,F q -> q < w.heap.size) :
  Calls Tryz.prog 57 #[.pointer (some ⟨bd,0,none⟩),.int .i64 0,.int .i64 (k : Int)] w fun e w' => e = .returned .nilIface /\ (∃ p',DiskAt w' (Fx F w w') bd (d.falls k) p') /\ Chg F w w' := by
 have c2 : w.cell? ⟨bd,2,none⟩ = some (.bool d.down) := hD.dk.cell (j := 2) rfl
 have hA := hD.dk.alloc (.cells #[.int .i64 0,.int .i64 (k : Int)] 185)
 have c3 : (w.alloc (.cells #[.int .i64 0,.int .i64 (k : Int)] 185)).cell? ⟨bd,3,none⟩ = some (optP p.bc) := hA.cell (j := 3) rfl
 have z3 := hA.frozen 3
 have hz := comeW_size w bd 0 k
 have HGD : Hid (Calls Tryz.prog 106 #[.pointer (some ⟨bd,0,none⟩)] ((w.alloc (.cells #[.int .i64 0,.int .i64 (k : Int)] 185)).setCell ⟨bd,3,none⟩ (.pointer (some ⟨w.heap.size,0,none⟩))) fun e w' => e = .returned (.tuple #[]) /\ (∃ p',DiskAt w' (Fx F w w') bd (d.falls k) p') /\ Chg F w w') := by
  refine (goDown_any _ bd (d.lefts 0 k) _ 0 k (comeW w bd 0 k) (hD.comes 0 k (by omega) hk) rfl (hok.lefts 0 k) ?_).mono ?_
  ·rintro q (hq | hq)
   ·have := hFz q hq; omega
   ·exact hq.2
  ·rintro e w1 ⟨rfl,⟨p1,h1⟩,h2⟩
   refine ⟨rfl,⟨p1,?_⟩,(comeW_chg F w bd 0 k hD.fd).trans h2⟩
   rw [falls_lefts] at h1
   refine h1.mono ?_
   rintro q (hq | hq)
   ·exact .inl hq
   ·exact .inr ⟨hq.1,Nat.lt_of_lt_of_le hq.2 h2.size⟩
 rw [hd] at c2
 clear hD hd hA hok hFz hz
 go_enter Tryz.func57,Tryz.ntmps57
 go_wp2_with fail
 refine HGD.out.mono ?_
 rintro e w1 ⟨rfl,hp⟩
 have HP : Hid _ := hp
 clear hp
 go_wp2
 go_ret
 exact ⟨rfl,HP.out⟩
theorem dstart_up (E : Sent) (n : Nat) (F : Nat -> Prop) (bd : Nat) (d : Dk) (p : Pr) (w : World) (hE : Env0 n w E) (hD : DiskAt w F bd d p) (hd : d.down = false) :
  Calls Tryz.prog 58 #[.pointer (some ⟨bd,0,none⟩)] w fun e w' => ∃ v,e = .returned v /\ FaultIs w' E 1 v /\ Below w.heap.size w w' := by
 have c2 : w.cell? ⟨bd,2,none⟩ = some (.bool d.down) := hD.dk.cell (j := 2) rfl
 have gd := hE.env.up
 have e1 : errVal E 1 = .iface 352 (.pointer (some E.up)) := by simp [errVal,errAd]
 have HF : Hid (∀ (wx : World) (g : Nat),g = wx.heap.size -> FaultIs (wx.alloc (.cells #[.string ⟨#[115,116,97,114,116]⟩,.string ⟨#[]⟩,errVal E 1] 152)) E 1 (.iface 128 (.pointer (some ⟨g,0,none⟩)))) := fun wx g hg => fault_new (by omega) _ _ hg
 rw [hd] at c2
 rw [e1] at HF
 clear hD hE hd e1
 go_enter Tryz.func58,Tryz.ntmps58
 go_wp2
 go_ret
 exact ⟨_,rfl,(HF.out w _ rfl),((Below.refl _ _).alloc (Nat.le_refl _) _)⟩
def Dk.ups (d : Dk) : Dk := { d with down := false }
theorem DiskAt.ups {W : World} {F : Nat -> Prop} {bd : Nat} {d : Dk} {p : Pr} (h : DiskAt W F bd d p) : DiskAt (W.setCell ⟨bd,2,none⟩ (.bool false)) F bd d.ups { p with bc := p.bc } :=
 h.setDk (d' := d.ups) (bc' := p.bc) (grown_setB _ bd 2 _) (fun i => rfl) (h.dk.setj 2 _) (h.coming.chg (F := fun k => k = bd) (chg_one (grown_setB _ _ _ _) rfl) (fun b e e2 => by
  subst e2
  have hc := h.coming
  cases hl : d.left with
  | none => rw [hl] at hc; rw [coming_none hc] at e; cases e
  | some sk =>
   obtain ⟨s,k⟩ := sk
   rw [hl] at hc
   obtain ⟨c,e3,hx⟩ := coming_some hc
   rw [e3] at e
   cases e
   exact bx_unlike hx h.dk (by decide) rfl)) h.fc h.small
theorem dstart_down (F : Nat -> Prop) (bd : Nat) (d : Dk) (p : Pr) (w : World) (hD : DiskAt w F bd d p) (hd : d.down = true) :
  Calls Tryz.prog 58 #[.pointer (some ⟨bd,0,none⟩)] w fun e w' => e = .returned .nilIface /\ (∃ p',DiskAt w' F bd d.ups p') /\ Chg F w w' := by
 have c2 : w.cell? ⟨bd,2,none⟩ = some (.bool d.down) := hD.dk.cell (j := 2) rfl
 have z2 := hD.dk.frozen 2
 have HD : Hid (∀ w',w' = w.setCell ⟨bd,2,none⟩ (.bool false) -> (∃ p',DiskAt w' F bd d.ups p') /\ Chg F w w') := by
  rintro w' rfl
  exact ⟨⟨_,hD.ups⟩,(Chg.refl F w).set bd 2 _ (.inl hD.fd)⟩
 rw [hd] at c2
 clear hD hd
 go_enter Tryz.func58,Tryz.ntmps58
 go_wp2
 go_ret
 exact ⟨rfl,HD.out _ rfl⟩
theorem fail_arg {d : Dk} {s k : Int} (h : s < 0 \/ k < 0) : d.fail s k = (1,d) := by unfold Dk.fail; rw [if_pos h]
theorem fail_down {d : Dk} {s k : Int} (h : ¬ (s < 0 \/ k < 0)) (hd : d.down = true) : d.fail s k = (7,d) := by unfold Dk.fail; rw [if_neg h,if_pos hd]
theorem fail_now {d : Dk} (k : Nat) (hd : d.down = false) : d.fail 0 (k : Int) = (0,d.falls k) := by
 unfold Dk.fail
 rw [if_neg (by omega),if_neg (by simp [hd]),if_pos rfl]
 rfl
theorem fail_later {d : Dk} (s k : Nat) (hd : d.down = false) (h0 : s ≠ 0) : d.fail (s : Int) (k : Int) = (0,d.lefts s k) := by
 unfold Dk.fail
 rw [if_neg (by omega),if_neg (by simp [hd]),if_neg (by omega)]
 rfl
theorem start_up {d : Dk} (hd : d.down = false) : d.start = (1,d) := by unfold Dk.start; rw [if_neg (by simp [hd])]
theorem start_down {d : Dk} (hd : d.down = true) : d.start = (0,d.ups) := by unfold Dk.start; rw [if_pos hd]; rfl
theorem sfail_any (E : Sent) (n : Nat) (G : Nat -> Prop) (bs : Nat) (d : Dk) (q : StP) (s k : Int) (w : World) (hE : Env0 n w E) (hG : ∀ k,G k -> n <= k /\ k < w.heap.size) (hS : StoreAt w G bs d q) (hok : DkOk d) (hs : s <= 9223372036854775807) (hk : k <= 9223372036854775807) :
  Calls Tryz.prog 28 #[.pointer (some ⟨bs,0,none⟩),.int .i64 s,.int .i64 k] w fun e w' => e = .returned (.int .i64 (d.fail s k).1) /\ Done E G bs w (d.fail s k).2 w' := by
 have c0 : w.cell? ⟨bs,0,none⟩ = some (.pointer (some ⟨q.bd,0,none⟩)) := hS.box.cell (j := 0) rfl
 have HS0 : Hid (∀ w1 : World,Below w.heap.size w w1 -> Done E G bs w d w1) := fun w1 hb => ⟨⟨q,(hS.below hb).mono (fun k h => .inl h)⟩,Chg.of_below hb⟩
 have HEV : Hid (∀ w1 : World,Below w.heap.size w w1 -> Env w1 E) := fun w1 hb => hE.env.below hb
 by_cases hneg : s < 0 \/ k < 0
 ·rw [fail_arg hneg]
  clear hE hG hS hok
  by_cases h1 : s < 0
  ·go_enter Tryz.func28,Tryz.ntmps28
   go_wp2
   go_ret
   exact ⟨rfl,HS0.out _ (Below.refl _ _)⟩
  ·have h2 : k < 0 := by omega
   go_enter Tryz.func28,Tryz.ntmps28
   go_wp2
   go_ret
   exact ⟨rfl,HS0.out _ (Below.refl _ _)⟩
 ·have h1 : ¬ s < 0 := by omega
  have h2 : ¬ k < 0 := by omega
  cases hd : d.down with
  | true =>
   rw [fail_down hneg hd]
   have HDF : Hid _ := dfail_down E n q.Fd q.bd d q.p s k w hE hS.disk hd
   clear hE hG hS hok
   go_enter Tryz.func28,Tryz.ntmps28
   go_wp2_with (first | (go_at_call 57; refine Calls.mono HDF.out ?_; rintro e w1 ⟨v,rfl,hf,hb⟩; obtain ⟨b,rfl⟩ := fault_some hf (by decide); have HB : Hid (Below w.heap.size w w1) := hb; have HFA : Hid (FaultIs w1 E 7 (.iface 128 (.pointer (some ⟨b,0,none⟩)))) := hf; clear hf hb) | (go_at_call 41; refine (answer_any E 7 _ w1 (HEV.out w1 HB.out) HFA.out (by decide)).mono ?_; rintro e w2 ⟨rfl,hb2⟩))
   go_ret
   exact ⟨rfl,HS0.out _ (HB.out.trans (hb2.mono HB.out.size))⟩
  | false =>
   obtain ⟨sn,rfl⟩ := Int.eq_ofNat_of_zero_le (show 0 <= s by omega)
   obtain ⟨kn,rfl⟩ := Int.eq_ofNat_of_zero_le (show 0 <= k by omega)
   by_cases h0 : sn = 0
   ·subst h0
    show Calls _ _ #[_,.int .i64 0,_] _ fun e w' => e = .returned (.int .i64 (d.fail 0 (kn : Int)).1) /\ Done E G bs w (d.fail 0 (kn : Int)).2 w'
    rw [fail_now kn hd]
    have HDF : Hid _ := dfail_now q.Fd q.bd d q.p kn w hS.disk hok hd (by omega) (fun k hk => (hG k (hS.gd k hk)).2)
    have HFI : Hid (∀ (w1 : World) (p' : Pr),DiskAt w1 (Fx q.Fd w w1) q.bd (d.falls kn) p' -> Chg q.Fd w w1 -> (∃ c,w1.cell? ⟨bs,1,none⟩ = some c) /\ w1.frozen? ⟨bs,1,none⟩ = false /\ Done E G bs w (d.falls kn) (w1.setCell ⟨bs,1,none⟩ (.pointer none))) := fun w1 p' h3 h4 =>
     have hb := hS.box.chg h4 hS.fs
     ⟨⟨_,hb.cell (j := 1) rfl⟩,hb.frozen 1,⟨_,(hS.shut h4 h3 rfl).mono fx_setCell⟩,(h4.mono (fun k _ hk => hS.gd k hk)).set bs 1 _ (.inl hS.gs)⟩
    clear hE hG hS hok hneg h1 hs
    go_enter Tryz.func28,Tryz.ntmps28
    go_wp2_with (first | (go_at_call 57; refine Calls.mono HDF.out ?_; rintro e w1 ⟨rfl,⟨p',h3⟩,h4⟩; obtain ⟨⟨cc,hcc⟩,hfz,hdn⟩ := HFI.out w1 p' h3 h4; have HDN : Hid _ := hdn; clear h3 h4 hdn))
    go_ret
    exact ⟨rfl,HDN.out⟩
   ·rw [fail_later sn kn hd h0]
    have HDF : Hid _ := dfail_later q.Fd q.bd d q.p sn kn w hS.disk hd (by omega) (by omega) h0
    have HFI : Hid (∀ (w1 : World) (p' : Pr),DiskAt w1 (Fx q.Fd w w1) q.bd (d.lefts sn kn) p' -> Chg q.Fd w w1 -> Done E G bs w (d.lefts sn kn) w1) := fun w1 p' h3 h4 =>
     ⟨⟨_,hS.disked h4 h3 rfl rfl⟩,h4.mono (fun k _ hk => hS.gd k hk)⟩
    have hne : (((sn : Nat) : Int) == 0) = false := by simp; omega
    clear hE hG hS hok hneg
    go_enter Tryz.func28,Tryz.ntmps28
    go_wp2_with (first | (go_at_call 57; refine Calls.mono HDF.out ?_; rintro e w1 ⟨rfl,⟨p',h3⟩,h4⟩; have HDN : Hid _ := HFI.out w1 p' h3 h4; clear h3 h4))
    go_ret
    exact ⟨rfl,HDN.out⟩
theorem sstart_any (E : Sent) (n : Nat) (G : Nat -> Prop) (bs : Nat) (d : Dk) (q : StP) (w : World) (hE : Env0 n w E) (hG : ∀ k,G k -> n <= k /\ k < w.heap.size) (hS : StoreAt w G bs d q) :
  Calls Tryz.prog 29 #[.pointer (some ⟨bs,0,none⟩)] w fun e w' => e = .returned (.int .i64 d.start.1) /\ Done E G bs w d.start.2 w' := by
 have c0 : w.cell? ⟨bs,0,none⟩ = some (.pointer (some ⟨q.bd,0,none⟩)) := hS.box.cell (j := 0) rfl
 have HS0 : Hid (∀ w1 : World,Below w.heap.size w w1 -> Done E G bs w d w1) := fun w1 hb => ⟨⟨q,(hS.below hb).mono (fun k h => .inl h)⟩,Chg.of_below hb⟩
 have HEV : Hid (∀ w1 : World,Below w.heap.size w w1 -> Env w1 E) := fun w1 hb => hE.env.below hb
 cases hd : d.down with
 | false =>
  rw [start_up hd]
  have HDF : Hid _ := dstart_up E n q.Fd q.bd d q.p w hE hS.disk hd
  clear hE hG hS
  go_enter Tryz.func29,Tryz.ntmps29
  go_wp2_with (first | (go_at_call 58; refine Calls.mono HDF.out ?_; rintro e w1 ⟨v,rfl,hf,hb⟩; have HB : Hid (Below w.heap.size w w1) := hb; have HFA : Hid (FaultIs w1 E 1 v) := hf; clear hf hb) | (go_at_call 41; refine (answer_any E 1 _ w1 (HEV.out w1 HB.out) HFA.out (by decide)).mono ?_; rintro e w2 ⟨rfl,hb2⟩))
  go_ret
  exact ⟨rfl,HS0.out _ (HB.out.trans (hb2.mono HB.out.size))⟩
 | true =>
  rw [start_down hd]
  have HDF : Hid _ := dstart_down q.Fd q.bd d q.p w hS.disk hd
  have HFI : Hid (∀ (w1 : World) (p' : Pr),DiskAt w1 q.Fd q.bd d.ups p' -> Chg q.Fd w w1 -> Done E G bs w d.ups w1) := fun w1 p' h3 h4 =>
   ⟨⟨_,hS.disked h4 (h3.mono (fun k hk => .inl hk)) rfl rfl⟩,h4.mono (fun k _ hk => hS.gd k hk)⟩
  have HE2 : Hid (∀ (w1 : World),Done E G bs w d.ups w1 -> Env w1 E) := fun w1 h => (done_env hE hG h).env
  clear hE hG hS
  go_enter Tryz.func29,Tryz.ntmps29
  go_wp2_with (first | (go_at_call 58; refine Calls.mono HDF.out ?_; rintro e w1 ⟨rfl,⟨p',h3⟩,h4⟩; have HDN : Hid (Done E G bs w d.ups w1) := HFI.out w1 p' h3 h4; clear h3 h4) | (go_at_call 41; refine (answer_any E 0 _ w1 (HE2.out w1 HDN.out) faultIs_nil (by decide)).mono ?_; rintro e w2 ⟨rfl,hb2⟩))
  go_ret
  exact ⟨rfl,done_below HDN.out hb2⟩
def Rg (κ : Nat -> Nat) (n : Nat) (W : World) (c : Nat) (k : Nat) : Prop := κ k = c /\ n <= k /\ k < W.heap.size
theorem Rg.le {κ : Nat -> Nat} {n c : Nat} {W W' : World} (h : W.heap.size <= W'.heap.size) : ∀ k,Rg κ n W c k -> Rg κ n W' c k := fun k hk => ⟨hk.1,hk.2.1,Nat.lt_of_lt_of_le hk.2.2 h⟩
structure PairAt (W : World) (κ : Nat -> Nat) (n j : Nat) (d : Dk × Dk) (p : Nat × Nat × Nat) : Prop where
 box : Bx W p.1 #[.pointer (some ⟨p.2.1,0,none⟩),.pointer (some ⟨p.2.2,0,none⟩)] 198
 col : Rg κ n W 0 p.1
 px : ∃ q,StoreAt W (Rg κ n W (2 * j + 2)) p.2.1 d.1 q
 py : ∃ r,RefAt W (Rg κ n W (2 * j + 3)) p.2.2 d.2 r
structure LawP where
 pv : Value
 ps : List (Nat × Nat × Nat)
 isv : Value
 imv : Value
 next : Int
def markC (s : ByteArray) : Nat -> List Value
 | 0 => []
 | n + 1 => .string s :: .string ⟨#[]⟩ :: markC s n
structure Mark where
 v : Value
 s : ByteArray
 n : Nat
def MarkAt (W : World) (κ : Nat -> Nat) (n : Nat) (m : Mark) : Prop := ∃ p c,m.v = .slice p m.n c /\ m.n <= 1000000 /\ (0 < m.n -> ∃ g cur,p = some ⟨g,0,none⟩ /\ W.heap[g]? = some (.cells cur 54 (0,0)) /\ (∀ (j : Nat) (u : Value),(markC m.s m.n)[j]? = some u -> cur[j]? = some u) /\ Rg κ n W 0 g)
structure MarksAt (W : World) (κ : Nat -> Nat) (n bw : Nat) (isv imv : Value) (ls : List Mark) : Prop where
 is : W.ownsRow 0 32 1 isv ls.length (ls.map (·.v))
 im : W.ownsRow 0 9 1 imv ls.length (ls.map fun m => .string m.s)
 cis : ∀ g,isv.ownBlock = some g -> Rg κ n W 0 g
 cim : ∀ g,imv.ownBlock = some g -> Rg κ n W 0 g
 each : ∀ m ∈ ls,MarkAt W κ n m
structure LawAt (W : World) (κ : Nat -> Nat) (n bw : Nat) (ds : List (Dk × Dk)) (P : LawP) (ls : List Mark) : Prop where
 box : Bx W bw #[P.pv,P.isv,P.imv,.int .i64 P.next] 65
 col : Rg κ n W 0 bw
 row : W.ownsRow 0 118 1 P.pv ds.length (P.ps.map fun p => .pointer (some ⟨p.1,0,none⟩))
 len : P.ps.length = ds.length
 crow : ∀ g,P.pv.ownBlock = some g -> Rg κ n W 0 g
 pairs : ∀ (j : Nat) (d : Dk × Dk) (p : Nat × Nat × Nat),ds[j]? = some d -> P.ps[j]? = some p -> PairAt W κ n j d p
 marks : MarksAt W κ n bw P.isv P.imv ls
 out : ∀ k,W.heap.size <= k -> κ k = 1
theorem PairAt.kept {W W' : World} {κ κ' : Nat -> Nat} {n j : Nat} {d : Dk × Dk} {p : Nat × Nat × Nat} {K : Nat -> Prop} (h : PairAt W κ n j d p) (hc : Chg K W W') (hκ : ∀ k,k < W.heap.size -> κ' k = κ k) (hK : ∀ k c,Rg κ n W c k -> c = 0 \/ c = 2 * j + 2 \/ c = 2 * j + 3 -> ¬ K k) : PairAt W' κ' n j d p := by
 have hr : ∀ c k,Rg κ n W c k -> Rg κ' n W' c k := fun c k hk => ⟨(hκ k hk.2.2).trans hk.1,hk.2.1,Nat.lt_of_lt_of_le hk.2.2 hc.size⟩
 obtain ⟨q,hq⟩ := h.px
 obtain ⟨r,hr'⟩ := h.py
 exact ⟨h.box.chg hc (hK _ _ h.col (.inl rfl)),hr _ _ h.col,⟨q,(hq.keep hc (fun k hk => hK k _ hk (.inr (.inl rfl)))).mono (hr _)⟩,⟨r,(hr'.kept hc (fun k hk => hK k _ hk (.inr (.inr rfl)))).mono (hr _)⟩⟩
theorem MarkAt.kept {W W' : World} {κ κ' : Nat -> Nat} {n : Nat} {m : Mark} (h : MarkAt W κ n m) (hk : ∀ g,Rg κ n W 0 g -> (∃ cur,W.heap[g]? = some (.cells cur 54 (0,0))) -> W'.heap[g]? = W.heap[g]?) (hr : ∀ g,Rg κ n W 0 g -> Rg κ' n W' 0 g) : MarkAt W' κ' n m := by
 obtain ⟨p,c,h1,hb,h2⟩ := h
 refine ⟨p,c,h1,hb,fun hn => ?_⟩
 obtain ⟨g,cur,a1,a2,a3,a4⟩ := h2 hn
 exact ⟨g,cur,a1,(hk g a4 ⟨cur,a2⟩).trans a2,a3,hr g a4⟩
theorem MarksAt.kept {W W' : World} {κ κ' : Nat -> Nat} {n bw : Nat} {isv imv : Value} {ls : List Mark} {K : Nat -> Prop} (h : MarksAt W κ n bw isv imv ls) (hc : Chg K W W') (hκ : ∀ k,k < W.heap.size -> κ' k = κ k) (hK : ∀ k,Rg κ n W 0 k -> ¬ K k) : MarksAt W' κ' n bw isv imv ls := by
 have hr : ∀ c k,Rg κ n W c k -> Rg κ' n W' c k := fun c k hk => ⟨(hκ k hk.2.2).trans hk.1,hk.2.1,Nat.lt_of_lt_of_le hk.2.2 hc.size⟩
 exact ⟨own_chg h.is hc (fun g e => hK _ (h.cis g e)),own_chg h.im hc (fun g e => hK _ (h.cim g e)),fun g e => hr _ _ (h.cis g e),fun g e => hr _ _ (h.cim g e),
  fun m hm => (h.each m hm).kept (fun g hg _ => hc.keep g hg.2.2 (hK g hg)) (fun g hg => hr _ _ hg)⟩
theorem LawAt.kept {W W' : World} {κ : Nat -> Nat} {n bw : Nat} {ds : List (Dk × Dk)} {P : LawP} {ls : List Mark} {K : Nat -> Prop} (h : LawAt W κ n bw ds P ls) (hc : Chg K W W') (hK : ∀ k,n <= k -> k < W.heap.size -> κ k ≠ 1 -> ¬ K k) : LawAt W' κ n bw ds P ls := by
 have hr : ∀ c k,Rg κ n W c k -> Rg κ n W' c k := fun c k hk => ⟨hk.1,hk.2.1,Nat.lt_of_lt_of_le hk.2.2 hc.size⟩
 have h0 : ∀ k,Rg κ n W 0 k -> ¬ K k := fun k hk => hK k hk.2.1 hk.2.2 (by rw [hk.1]; decide)
 exact ⟨h.box.chg hc (h0 _ h.col),hr _ _ h.col,own_chg h.row hc (fun g e => h0 _ (h.crow g e)),h.len,fun g e => hr _ _ (h.crow g e),
  fun j d p hd hp => (h.pairs j d p hd hp).kept hc (fun _ _ => rfl) (fun k c hk e => hK k hk.2.1 hk.2.2 (by rw [hk.1]; omega)),h.marks.kept hc (fun _ _ => rfl) h0,fun k hk => h.out k (Nat.le_trans hc.size hk)⟩
theorem LawAt.below {W W' : World} {κ : Nat -> Nat} {n bw : Nat} {ds : List (Dk × Dk)} {P : LawP} {ls : List Mark} (h : LawAt W κ n bw ds P ls) (hb : Below W.heap.size W W') : LawAt W' κ n bw ds P ls :=
 h.kept (K := fun _ => False) (Chg.of_below hb) (fun _ _ _ _ h => h)
def Inv (E : Sent) (n bw : Nat) (m : Bool) (nd c : Nat) (Fr : Nat -> Prop) (W : World) : Prop :=
 ∃ κ ds P ls,LawAt W κ n bw ds P ls /\ Env0 n W E /\ (∀ d ∈ ds,d.1 = d.2 /\ DkOk d.1) /\ (m = false -> ls = []) /\ ds.length = nd /\ (ls.length <= 4 * c /\ 0 <= P.next /\ P.next <= (c : Int)) /\ (∀ k,Fr k -> κ k = 1 /\ k < W.heap.size)
theorem Inv.below {E : Sent} {n bw nd c : Nat} {m : Bool} {Fr : Nat -> Prop} {W W' : World} (h : Inv E n bw m nd c Fr W) (hb : Below W.heap.size W W') : Inv E n bw m nd c Fr W' := by
 obtain ⟨κ,ds,P,ls,h1,h2,h3,h4,h5,h6,h7⟩ := h
 exact ⟨κ,ds,P,ls,h1.below hb,h2.below (hb.mono h2.le),h3,h4,h5,h6,fun k hk => ⟨(h7 k hk).1,Nat.lt_of_lt_of_le (h7 k hk).2 hb.size⟩⟩
theorem Inv.drop {E : Sent} {n bw nd c : Nat} {m : Bool} {Fr : Nat -> Prop} {W : World} (h : Inv E n bw m nd c Fr W) : Inv E n bw m nd c (fun _ => False) W := by
 obtain ⟨κ,ds,P,ls,h1,h2,h3,h4,h5,h6,h7⟩ := h
 exact ⟨κ,ds,P,ls,h1,h2,h3,h4,h5,h6,fun _ h => h.elim⟩
theorem Inv.hold {E : Sent} {n bw nd c : Nat} {m : Bool} {W W' : World} (h : Inv E n bw m nd c (fun _ => False) W) (hb : Below W.heap.size W W') {g : Nat} (h1 : W.heap.size <= g) (h2 : g < W'.heap.size) : Inv E n bw m nd c (fun k => k = g) W' := by
 have h0 := h
 obtain ⟨κ,ds,P,ls,a1,a2,a3,a4,a5,a6,a7⟩ := h0
 exact ⟨κ,ds,P,ls,a1.below hb,a2.below (hb.mono a2.le),a3,a4,a5,a6,fun k hk => ⟨a1.out k (by omega),by omega⟩⟩




theorem RefAt.waited {W X : World} {G : Nat -> Prop} {b : Nat} {d : Dk} {q : RfP} {en : Ent} {g cap : Nat} (h : RefAt W G b d q) (hX : W.grownBy X q.v.ownBlock) (ho : X.ownsRow 0 114 3 (.slice (some ⟨g,0,none⟩) (d.waits ++ [en]).length cap) (d.waits ++ [en]).length (cellsE (d.waits ++ [en]))) (hat : q.v.ownBlock = some g \/ W.heap.size <= g) (hg : g < X.heap.size) :
  RefAt (X.setCell ⟨b,17,none⟩ (.slice (some ⟨g,0,none⟩) (d.waits ++ [en]).length cap)) (Fx G W X) b { d with waits := d.waits ++ [en] } ⟨q.keep,q.c0,q.c1,q.c2,.slice (some ⟨g,0,none⟩) (d.waits ++ [en]).length cap⟩ := by
 have hlt := h.box.lt
 have hne : (Value.slice (some ⟨g,0,none⟩) (d.waits ++ [en]).length cap).ownBlock ≠ some b := by
  intro e
  have e' : g = b := by simpa [Value.ownBlock] using e
  rcases hat with h5 | h5
  ·exact h.ne (by rw [h5,e'])
  ·omega
 have hbx : Bx X b (refC d q) 273 := (hX.block b hlt (fun e => h.ne e.symm)).trans h.box
 refine ⟨hbx.setj 17 _,own_box (cs := refC d q) (t := 0) ho hne 17 _,hne,h.left,h.keep,h.blk,.inl h.gb,fun k e => ?_⟩
 have e' : g = k := by simpa [Value.ownBlock] using e
 subst e'
 rcases hat with h5 | h5
 ·exact .inl (h.gv _ h5)
 ·exact .inr ⟨h5,hg⟩
theorem RDone.waited {W0 W X Y : World} {G : Nat -> Prop} {b : Nat} {d : Dk} {q : RfP} {en : Ent} {g cap : Nat} (hD : RDone G b W0 d W) (h : RefAt W (Fx G W0 W) b d q) (hb : Below W.heap.size W Y) (hX : Y.grownBy X q.v.ownBlock) (ho : X.ownsRow 0 114 3 (.slice (some ⟨g,0,none⟩) (d.waits ++ [en]).length cap) (d.waits ++ [en]).length (cellsE (d.waits ++ [en]))) (hat : q.v.ownBlock = some g \/ g = Y.heap.size) (hg : g < X.heap.size) :
  RDone G b W0 { d with waits := d.waits ++ [en] } (X.setCell ⟨b,17,none⟩ (.slice (some ⟨g,0,none⟩) (d.waits ++ [en]).length cap)) := by
 have hc := hD.2
 have hY := h.below hb
 have hR := RefAt.waited hY hX ho (hat.imp id (fun e => by omega)) hg
 have hzz : (X.setCell ⟨b,17,none⟩ (.slice (some ⟨g,0,none⟩) (d.waits ++ [en]).length cap)).heap.size = X.heap.size := by simp
 have z1 := hc.size
 have z2 := hb.size
 have z3 := hX.size
 refine ⟨⟨_,hR.mono ?_⟩,?_⟩
 ·rintro k ((hk | hk) | hk)
  ·exact .inl hk
  ·exact .inr ⟨hk.1,by rw [hzz]; omega⟩
  ·exact .inr ⟨by omega,by rw [hzz]; exact hk.2⟩
 ·have c1 := hc.trans0 hb
  have c2 : Chg G W0 X := c1.grown hX (fun k e => by
   rcases h.gv k e with h5 | h5
   ·exact .inl h5
   ·exact .inr h5.1)
  refine c2.set b 17 _ ?_
  rcases h.gb with h5 | h5
  ·exact .inl h5
  ·exact .inr h5.1




end Go.Proofs.YtdhgebdbiehchaaGreatDoor
