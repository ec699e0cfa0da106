/- On the way: DkOps, RfAt, PAdd, PAdd2, PPut, PNew, PCreate, PCreate2, PCreate3, PCreate4, LwAt. -/
import Derived.Test.YtdhgebdbiehchaaGreatDoorB37
import Derived.Test.YtdhgebdbiehchaaGreatDoorB12
namespace Go.Proofs.YtdhgebdbiehchaaGreatDoor
open Go.RowKit
set_option linter.unusedSimpArgs false
set_option linter.unusedVariables false
theorem DkOk.opens {d : Dk} (h : DkOk d) {blk : Nat} (hf : d.f0.isSome = true) (hd : d.down = false) (h1 : 1 <= blk) (h2 : blk <= 400) : DkOk (d.opens blk) :=
 ⟨h.room,h.used,h.sync,fun b e => by cases e; exact ⟨hf,h1,h2,hd⟩,fun e => (by cases e),fun e he => (by cases he),by simp [Dk.opens],fun b e hl => by simp [Dk.opens] at hl⟩
theorem put_f0 {d : Dk} {i : Nat} {f : Option Fl} (h : d.f0.isSome = true) (hf : i = 0 -> f.isSome = true) : (d.put i f).f0.isSome = true := by
 rcases dk_cases d i f with ⟨h1,e⟩ | ⟨h1,e⟩ | ⟨h1,e⟩ | ⟨h1,e⟩
 ·rw [e]; exact hf h1
 ·rw [e]; exact h
 ·rw [e]; exact h
 ·rw [e]; exact h
theorem take_f0 {d : Dk} {s : St} (h : d.f0.isSome = true) (hs : StFine s) : (d.take s).2.f0.isSome = true := by
 unfold Dk.take
 split
 ·exact put_f0 h (fun _ => rfl)
 ·split
  ·exact h
  ·split
   ·split
    ·exact h
    ·exact put_f0 h (fun _ => rfl)
   ·split
    ·exact put_f0 h (fun _ => rfl)
    ·split
     ·exact put_f0 h (fun _ => rfl)
     ·split
      ·rename_i ht
       exact put_f0 (put_f0 h (fun e => absurd e (hs.1 ht))) (fun _ => rfl)
      ·exact put_f0 h (fun e => absurd e (hs.2.1 (by have := hs.2.2; omega)))
theorem count_f0 {d : Dk} (h : d.f0.isSome = true) : d.count.2.f0.isSome = true := by
 unfold Dk.count
 split
 ·exact h
 ·simp [Dk.falls,h]
 ·exact h
theorem one_f0 {d : Dk} {s : St} (h : d.f0.isSome = true) (hs : StFine s) : (d.one s).2.f0.isSome = true := by
 have hc := count_f0 h
 obtain ⟨b,d',hct⟩ : ∃ b d',d.count = (b,d') := ⟨_,_,rfl⟩
 rw [hct] at hc
 cases b with
 | false => rw [one_no hct]; exact hc
 | true => rw [one_yes hct]; exact take_f0 hc hs
theorem steps_f0 {d : Dk} (h : d.f0.isSome = true) (ss : List St) (hs : ∀ s ∈ ss,StFine s) : (d.steps ss).2.f0.isSome = true := by
 induction ss generalizing d with
 | nil => exact h
 | cons s ss ih =>
  rw [steps_cons]
  split
  ·exact ih (one_f0 h (hs s (by simp))) (fun x hx => hs x (by simp [hx]))
  ·exact one_f0 h (hs s (by simp))
theorem make_f0 {d : Dk} (ss : List St) (hs : ∀ s ∈ ss,StFine s) (h0 : (d.steps (stMake 0 :: ss)).1 = 0) : (d.steps (stMake 0 :: ss)).2.f0.isSome = true := by
 rw [steps_cons] at h0 ⊢
 split
 ·rename_i h1
  refine steps_f0 ?_ ss hs
  obtain ⟨b,d',hct⟩ : ∃ b d',d.count = (b,d') := ⟨_,_,rfl⟩
  cases b with
  | false => rw [one_no hct] at h1; cases h1
  | true => rw [one_yes hct]; rfl
 ·rename_i h1
  rw [if_neg h1] at h0
  exact absurd h0 h1
theorem DkOk.opening {d : Dk} (h : DkOk d) {blk : Nat} {ss : List St} (hs : ∀ s ∈ ss,StFine s) (hd : d.down = false) (h1 : 1 <= blk) (h2 : blk <= 400) (hf : (d.steps ss).1 = 0 -> (d.steps ss).2.f0.isSome = true) : DkOk (d.opening blk ss).2 := by
 have hk := h.steps ss hs
 have hsame := steps_same (d := d) ss
 rw [opening_eq]
 split
 ·rename_i h0
  exact hk.opens (hf h0) ((hsame.1 (by rw [h0]; decide)).1.trans hd) h1 h2
 ·exact hk
theorem wellB_blk {a b c : Int} (h : wellB a b c = true) : 1 <= a /\ a <= 400 := by
 unfold wellB at h
 simp at h
 omega
theorem fine_make (i : Nat) : StFine (stMake i) := ⟨by simp [stMake],by simp [stMake],by simp [stMake]⟩
theorem fine_append (i : Nat) (t : List UInt8) : StFine (stAppend i t) := ⟨by simp [stAppend],by simp [stAppend],by simp [stAppend]⟩
theorem fine_sync (i : Nat) : StFine (stSync i) := ⟨by simp [stSync],by simp [stSync],by simp [stSync]⟩
theorem fine_cut (i n : Nat) : StFine (stCut i n) := ⟨by simp [stCut],by simp [stCut],by simp [stCut]⟩
theorem DkOk.create {d : Dk} (h : DkOk d) (blk seed bits : Int) : DkOk (d.create blk seed bits).2 := by
 unfold Dk.create
 split
 ·exact h
 ·rename_i hw
  split
  ·exact h
  ·rename_i hd
   split
   ·exact h
   ·have hb := wellB_blk (a := blk) (b := seed) (c := bits) (by simpa using hw)
    have fine : ∀ s ∈ [stAppend 0 (headL blk.toNat seed.toNat bits.toNat),stSync 0],StFine s := by
     intro s hs
     simp at hs
     rcases hs with rfl | rfl
     ·exact fine_append _ _
     ·exact fine_sync _
    refine h.opening ?_ (by simpa using hd) (by omega) (by omega) (make_f0 _ fine)
    intro s hs
    rw [List.mem_cons] at hs
    rcases hs with rfl | hs
    ·exact fine_make _
    ·exact fine s hs
theorem DkOk.write {d : Dk} (h : DkOk d) : DkOk d.write.2 := by
 have hok2 := h.steps [stAppend 0 (blockB d.waits)] (by intro s hs; simp at hs; subst hs; exact fine_append _ _)
 rw [write_eq]
 split
 ·exact ⟨hok2.room,hok2.used,hok2.sync,hok2.opn,fun _ => rfl,by intro e he; simp at he,by simp,by intro b _ h1; simp at h1⟩
 ·exact hok2
theorem DkOk.waited {d : Dk} (h : DkOk d) {e : Ent} (he : EntOk e) {blk : Nat} (ho : d.opn = some blk) (hfit : d.fits blk e = true) : DkOk { d with waits := d.waits ++ [e] } := by
 refine ⟨h.room,h.used,h.sync,h.opn,fun e1 => ?_,fun x hx => ?_,?_,fun b hb hl => ?_⟩
 ·have : d.opn = none := e1
  rw [ho] at this; cases this
 ·simp at hx
  rcases hx with hx | rfl
  ·exact h.ents x hx
  ·exact he
 ·have := h.most
  unfold Dk.fits at hfit
  simp at hfit ⊢
  rcases hfit with h0 | ⟨h1,_⟩
  ·rw [h0]; simp
  ·omega
 ·have hb' : d.opn = some b := hb
  rw [ho] at hb'
  cases hb'
  unfold Dk.fits at hfit
  simp at hfit hl
  rcases hfit with h0 | ⟨h1,h2⟩
  ·rw [h0] at hl; simp at hl
  ·show (entsB (d.waits ++ [e])).length <= blk
   have : entsB (d.waits ++ [e]) = entsB d.waits ++ entB e := by simp [entsB]
   rw [this,List.length_append]
   exact h2
theorem DkOk.add {d : Dk} (h : DkOk d) {e : Ent} (he : e.put = false -> e.val = []) : DkOk (d.add e).2 := by
 unfold Dk.add
 split
 ·exact h
 ·rename_i hz
  have hek : EntOk e := by
   simp only [not_or,Nat.not_lt] at hz
   exact ⟨hz.1,hz.2.1,hz.2.2,he⟩
  split
  ·exact h
  ·rename_i hd
   split
   ·exact h
   ·rename_i blk ho
    split
    ·rename_i hfit
     exact h.waited hek ho hfit
    ·have hw := h.write
     have hf := write_fine h (by simpa using hd)
     generalize d.write = r at *
     obtain ⟨re,rd⟩ := r
     simp only at *
     split
     ·rename_i h0
      obtain ⟨f1,f2,f3,f4⟩ := hf h0
      exact f1.waited hek (f3.trans ho) (by unfold Dk.fits; rw [f4]; rfl)
     ·exact hw
theorem DkOk.flush {d : Dk} (h : DkOk d) : DkOk d.flush.2 := by
 have fs : ∀ s ∈ [stSync 0],StFine s := by intro s hs; simp at hs; subst hs; exact fine_sync _
 unfold Dk.flush
 split
 ·exact h
 ·split
  ·exact h
  ·split
   ·exact h.steps _ fs
   ·have hw := h.write
    generalize d.write = r at *
    obtain ⟨re,rd⟩ := r
    simp only at *
    split
    ·exact hw.steps _ fs
    ·exact hw
theorem DkOk.disk {room : Int} {d : Dk} (h : diskD room = some d) : DkOk d := by
 unfold diskD at h
 split at h
 ·cases h
 ·cases h
  refine ⟨by simp; omega,by simp [Dk.used,lenF],fun i f hf => ?_,fun b e => (by cases e),fun _ => rfl,fun e he => (by cases he),by simp,fun b e => (by cases e)⟩
  unfold Dk.file at hf
  simp at hf
end Go.Proofs.YtdhgebdbiehchaaGreatDoor
namespace Go.Proofs.YtdhgebdbiehchaaGreatDoor
open Go.RowKit Go.Maps
set_option linter.unusedSimpArgs false
set_option linter.unusedVariables false
set_option maxRecDepth 100000
set_option maxHeartbeats 3200000
def txtO (f : Option Fl) : List UInt8 := match f with
 | none => []
 | some f => f.text
def synO (f : Option Fl) : Nat := match f with
 | none => 0
 | some f => f.sync
def leftI (l : Option (Nat × Nat)) : Int := match l with
 | none => -1
 | some p => p.1
structure RfP where
 keep : Nat
 c0 : Int
 c1 : Int
 c2 : Int
 v : Value
def refC (d : Dk) (q : RfP) : Array Value := #[.int .i64 d.room,.bool d.down,.bool d.f0.isSome,.string (S (txtO d.f0)),.int .i64 (synO d.f0),.bool d.f1.isSome,.string (S (txtO d.f1)),.int .i64 (synO d.f1),.bool d.f2.isSome,.string (S (txtO d.f2)),.int .i64 (synO d.f2),
 .int .i64 (leftI d.left),.int .i64 q.keep,.bool d.opn.isSome,.int .i64 q.c0,.int .i64 q.c1,.int .i64 q.c2,q.v]
structure RefAt (W : World) (G : Nat -> Prop) (b : Nat) (d : Dk) (q : RfP) : Prop where
 box : Bx W b (refC d q) 273
 row : W.ownsRow 0 114 3 q.v d.waits.length (cellsE d.waits)
 ne : q.v.ownBlock ≠ some b
 left : ∀ n k,d.left = some (n,k) -> n <= 9223372036854775807 /\ q.keep = k
 keep : q.keep <= 9223372036854775807
 blk : ∀ blk,d.opn = some blk -> q.c0 = blk
 gb : G b
 gv : ∀ g,q.v.ownBlock = some g -> G g
theorem RefAt.mono {W : World} {G G' : Nat -> Prop} {b : Nat} {d : Dk} {q : RfP} (h : RefAt W G b d q) (hG : ∀ k,G k -> G' k) : RefAt W G' b d q :=
 ⟨h.box,h.row,h.ne,h.left,h.keep,h.blk,hG _ h.gb,fun g e => hG _ (h.gv g e)⟩
theorem RefAt.kept {W W' : World} {G K : Nat -> Prop} {b : Nat} {d : Dk} {q : RfP} (h : RefAt W G b d q) (hc : Chg K W W') (hK : ∀ k,G k -> ¬ K k) : RefAt W' G b d q :=
 ⟨h.box.chg hc (hK _ h.gb),own_chg h.row hc (fun g e => hK _ (h.gv g e)),h.ne,h.left,h.keep,h.blk,h.gb,h.gv⟩
theorem RefAt.below {W W' : World} {G : Nat -> Prop} {b : Nat} {d : Dk} {q : RfP} (h : RefAt W G b d q) (hb : Below W.heap.size W W') : RefAt W' G b d q :=
 ⟨h.box.below hb h.box.lt,own_chg h.row (Chg.of_below (F := fun _ => False) hb) (fun _ _ h => h),h.ne,h.left,h.keep,h.blk,h.gb,h.gv⟩
def RDone (G : Nat -> Prop) (b : Nat) (w : World) (d' : Dk) (w' : World) : Prop := (∃ q',RefAt w' (Fx G w w') b d' q') /\ Chg G w w'
theorem RDone.refl {G : Nat -> Prop} {b : Nat} {w : World} {d : Dk} {q : RfP} (h : RefAt w G b d q) : RDone G b w d w := ⟨⟨q,h.mono (fun k hk => .inl hk)⟩,Chg.refl _ _⟩
theorem RDone.of_below {G : Nat -> Prop} {b : Nat} {w w' : World} {d : Dk} {q : RfP} (h : RefAt w G b d q) (hb : Below w.heap.size w w') : RDone G b w d w' := ⟨⟨q,(h.below hb).mono (fun k hk => .inl hk)⟩,Chg.of_below hb⟩
theorem RDone.below {G : Nat -> Prop} {b : Nat} {w w1 w2 : World} {d : Dk} (h : RDone G b w d w1) (hb : Below w1.heap.size w1 w2) : RDone G b w d w2 := by
 obtain ⟨⟨q,h1⟩,h2⟩ := h
 refine ⟨⟨q,(h1.below hb).mono ?_⟩,h2.trans0 hb⟩
 rintro k (hk | hk)
 ·exact .inl hk
 ·exact .inr ⟨hk.1,Nat.lt_of_lt_of_le hk.2 hb.size⟩
theorem RDone.later {G : Nat -> Prop} {b : Nat} {w w1 w2 : World} {d : Dk} (hb : Below w.heap.size w w1) (h : RDone G b w1 d w2) : RDone G b w d w2 := by
 obtain ⟨⟨q,h1⟩,h2⟩ := h
 refine ⟨⟨q,h1.mono ?_⟩,(Chg.of_below hb).trans (h2.mono (fun k _ hk => .inl hk))⟩
 rintro k (hk | hk)
 ·exact .inl hk
 ·exact .inr ⟨Nat.le_trans hb.size hk.1,hk.2⟩
theorem RDone.then {G : Nat -> Prop} {b : Nat} {w w1 w2 : World} {d d2 : Dk} (h : RDone G b w d w1) (k : RDone (Fx G w w1) b w1 d2 w2) : RDone G b w d2 w2 := by
 obtain ⟨_,h2⟩ := h
 obtain ⟨⟨q,k1⟩,k2⟩ := k
 exact ⟨⟨q,k1.mono (fx_trans h2.size k2.size)⟩,h2.trans k2⟩
theorem own_box {W : World} {b : Nat} {cs : Array Value} {t : TypeId} {base e size n : Nat} {v : Value} {xs : List Value} (h : W.ownsRow base e size v n xs) (hne : v.ownBlock ≠ some b) (j : Nat) (u : Value) : (W.setCell ⟨b,j,none⟩ u).ownsRow base e size v n xs :=
 own_chg h (chg_one (F := fun k => k = b) (grown_setB W b j u) rfl) (fun g e => fun h => hne (by rw [e,h]))
def fallN (k : Nat) (f : Option Fl) : Nat := synO f + min k ((txtO f).length - synO f)
theorem fall_txt (k : Nat) (f : Option Fl) : txtO (f.map (Fl.fall k)) = (txtO f).take (fallN k f) := by
 cases f with
 | none => simp [txtO]
 | some f => rfl
theorem fall_syn (k : Nat) (f : Option Fl) (h : ∀ g,f = some g -> g.sync <= g.text.length) : synO (f.map (Fl.fall k)) = fallN k f := by
 cases f with
 | none => simp [fallN,synO,txtO]
 | some f => rfl
theorem fallN_le (k : Nat) (f : Option Fl) (h : ∀ g,f = some g -> g.sync <= g.text.length) : fallN k f <= (txtO f).length := by
 cases f with
 | none => simp [fallN,synO,txtO]
 | some f => have := h f rfl; simp [fallN,synO,txtO]; omega
def fallK (d : Dk) (k i : Nat) : Dk := { d with down := true,f0 := if 0 < i then d.f0.map (Fl.fall k) else d.f0,f1 := if 1 < i then d.f1.map (Fl.fall k) else d.f1,f2 := if 2 < i then d.f2.map (Fl.fall k) else d.f2,left := none,opn := none,waits := [] }
theorem fall_box {W : World} {b : Nat} {d : Dk} {k i : Nat} {q : RfP} (h : Bx W b (refC (fallK d k i) q) 273) (hi : i < 3) (hs : ∀ i f,d.file i = some f -> f.sync <= f.text.length) :
  Bx ((W.setCell ⟨b,2 + 3 * i + 1,none⟩ (.string (S ((txtO (d.file i)).take (fallN k (d.file i)))))).setCell ⟨b,2 + 3 * i + 2,none⟩ (.int .i64 (fallN k (d.file i) : Int))) b (refC (fallK d k (i + 1)) q) 273 := by
 have e1 := fall_txt k (d.file i)
 have e2 := fall_syn k (d.file i) (fun g hg => hs i g hg)
 rw [<- e1,<- e2]
 have h2 := (h.setj (2 + 3 * i + 1) (.string (S (txtO ((d.file i).map (Fl.fall k)))))).setj (2 + 3 * i + 2) (.int .i64 (synO ((d.file i).map (Fl.fall k)) : Int))
 have e3 : ((refC (fallK d k i) q).setIfInBounds (2 + 3 * i + 1) (.string (S (txtO ((d.file i).map (Fl.fall k)))))).setIfInBounds (2 + 3 * i + 2) (.int .i64 (synO ((d.file i).map (Fl.fall k)) : Int)) = refC (fallK d k (i + 1)) q := by
  match i,hi with
  | 0,_ => simp [refC,fallK,Dk.file]
  | 1,_ => simp [refC,fallK,Dk.file]
  | 2,_ => simp [refC,fallK,Dk.file]
 rw [e3] at h2
 exact h2
theorem done_add {E : Sent} {G : Nat -> Prop} {bs blk : Nat} {w w4 : World} {rd : Dk} {en : Ent} (hG : ∀ k,G k -> k < w.heap.size) (h : Done E G bs w rd w4) (ho : rd.opn = some blk) (hok : DkOk rd) (hk : en.key.length <= 20) (hv : en.val.length <= 30) :
  ∃ bw4,w4.cell? ⟨bs,1,none⟩ = some (.pointer (some ⟨bw4,0,none⟩)) /\ ∀ w5 : World,Below w4.heap.size w4 w5 -> Calls Tryz.prog 101 #[.pointer (some ⟨bw4,0,none⟩),entV en] w5 fun e w' => e = .returned (.tuple #[]) /\ Done E G bs w { rd with waits := rd.waits ++ [en] } w' := by
 have hD := h
 obtain ⟨⟨q4,h1⟩,h2⟩ := h
 have hw := h1.wait
 rw [ho] at hw
 obtain ⟨bw4,hb,hwa⟩ := wait_some hw
 have c1 : w4.cell? ⟨bs,1,none⟩ = some (optP q4.ow) := h1.box.cell (j := 1) rfl
 rw [hb] at c1
 refine ⟨bw4,c1,fun w5 hb5 => ?_⟩
 have hwl := hok_waits hok
 have hmo := hok.most
 refine (addW_any bw4 blk rd.waits en q4.v w5 (hwa.below hb5) hk hv (by omega) (by omega)).mono ?_
 rintro e w6 ⟨rfl,v',k1,k2,k3⟩
 have hz5 := hb5.size
 have hGz : ∀ k,Fx G w w4 k -> k < w5.heap.size := fun k hk => by
  rcases hk with hk | hk
  ·have := hG k hk; have := h2.size; omega
  ·omega
 have hst := (h1.below hb5).waited hGz ho hb k3 k1 k2
 have h25 : Chg G w w5 := h2.trans0 hb5
 refine ⟨rfl,⟨_,hst.mono ?_⟩,h25.trans (k3.mono ?_)⟩
 ·rintro k ((hk | hk) | hk)
  ·exact .inl hk
  ·exact .inr (by have := k3.size; omega)
  ·exact .inr (by have := h2.size; omega)
 ·intro k hk e
  have hg4 : Fx G w w4 k := by
   rcases e with e | e
   ·rw [e]; exact h1.gw _ hb
   ·exact h1.gv _ e
  rcases hg4 with hg | hg
  ·exact .inl hg
  ·exact .inr (by omega)
theorem add_wrong {d : Dk} {en : Ent} (h : rightB en = false) : d.add en = (1,d) := by
 unfold Dk.add
 unfold rightB at h
 rw [Bool.not_eq_eq_eq_not,Bool.not_false] at h
 rw [if_pos (of_decide_eq_true h)]
theorem right_not {en : Ent} (h : rightB en = true) : ¬ (en.key.length < 1 \/ 20 < en.key.length \/ 30 < en.val.length) := by
 unfold rightB at h
 simpa using h
theorem add_down {d : Dk} {en : Ent} (h : rightB en = true) (hd : d.down = true) : d.add en = (7,d) := by
 unfold Dk.add
 rw [if_neg (right_not h),if_pos hd]
theorem add_none {d : Dk} {en : Ent} (h : rightB en = true) (hd : d.down = false) (ho : d.opn = none) : d.add en = (2,d) := by
 unfold Dk.add
 rw [if_neg (right_not h),if_neg (by simp [hd]),ho]
theorem add_fits {d : Dk} {en : Ent} {blk : Nat} (h : rightB en = true) (hd : d.down = false) (ho : d.opn = some blk) (hf : takesB blk d.waits en = true) : d.add en = (0,{ d with waits := d.waits ++ [en] }) := by
 unfold Dk.add
 rw [if_neg (right_not h),if_neg (by simp [hd]),ho]
 simp only
 rw [if_pos (show d.fits blk en = true from hf)]
theorem add_write {d : Dk} {en : Ent} {blk : Nat} (h : rightB en = true) (hd : d.down = false) (ho : d.opn = some blk) (hf : takesB blk d.waits en = false) : d.add en = if d.write.1 = 0 then (0,{ d.write.2 with waits := d.write.2.waits ++ [en] }) else d.write := by
 unfold Dk.add
 rw [if_neg (right_not h),if_neg (by simp [hd]),ho]
 simp only
 rw [if_neg (by rw [show d.fits blk en = false from hf]; simp)]
theorem add_refused (E : Sent) (n : Nat) (G : Nat -> Prop) (bs : Nat) (d : Dk) (q : StP) (en : Ent) (w : World) (hE : Env0 n w E) (hS : StoreAt w G bs d q) (h : rightB en = false \/ refE d ≠ 0) :
  Calls Tryz.prog 53 #[.pointer (some ⟨bs,0,none⟩),entV en] w fun e w' => e = .returned (.int .i64 (d.add en).1) /\ Done E G bs w (d.add en).2 w' := by
 have HS0 : Hid (∀ w1 : World,Below w.heap.size w w1 -> Done E G bs w d w1) := fun w1 hb => ⟨⟨q,(hS.below hb).mono (fun k h => .inl h)⟩,Chg.of_below hb⟩
 have hB0 : Below w.heap.size w (w.alloc (.cells #[.bool en.put,.string (S en.key),.string (S en.val)] 106)) := (Below.refl _ _).alloc (Nat.le_refl _) _
 have HRI := entRight_any en (w.alloc (.cells #[.bool en.put,.string (S en.key),.string (S en.val)] 106))
 have HB0 : Hid (Below w.heap.size w (w.alloc (.cells #[.bool en.put,.string (S en.key),.string (S en.val)] 106))) := hB0
 have HRF : Hid (∀ w1 : World,Below w.heap.size w w1 -> _) := fun w1 hb => refusal_any E n G bs d q w1 (hE.chg (F := fun _ => False) (Chg.of_below hb) (fun _ h => h.elim)) (hS.below hb)
 cases hr : rightB en with
 | false =>
  rw [hr] at HRI
  have HA : Hid (d.add en = (1,d)) := add_wrong hr
  unfold entV at HRI ⊢
  clear hE hS hB0
  go_enter Tryz.func53,Tryz.ntmps53
  go_wp2_with (first | (go_at_call 99; refine HRI.mono ?_; rintro e w1 ⟨rfl,hb⟩; have HB : Hid (Below w.heap.size w w1) := HB0.out.trans (hb.mono HB0.out.size); clear hb))
  go_ret
  exact ⟨by rw [HA.out]; rfl,by rw [HA.out]; exact HS0.out _ HB.out⟩
 | true =>
  rw [hr] at HRI h
  have h' : refE d ≠ 0 := by rcases h with h | h; cases h; exact h
  have HA : Hid (d.add en = (refE d,d)) := by
   show _ = _
   unfold refE at h' ⊢
   cases hd : d.down with
   | true => rw [add_down hr hd]; simp
   | false =>
    cases ho : d.opn with
    | none => rw [add_none hr hd ho]; simp
    | some b => rw [hd,ho] at h'; simp at h'
  unfold entV at HRI ⊢
  clear hE hS hB0 h
  generalize refE d = rf at *
  go_enter Tryz.func53,Tryz.ntmps53
  go_wp2_with (first | (go_at_call 99; refine HRI.mono ?_; rintro e w1 ⟨rfl,hb⟩; have HB : Hid (Below w.heap.size w w1) := HB0.out.trans (hb.mono HB0.out.size); clear hb) | (go_at_call 38; refine (HRF.out w1 HB.out).mono ?_; rintro e w2 ⟨rfl,hb2⟩; have HB2 : Hid (Below w.heap.size w w2) := HB.out.trans (hb2.mono HB.out.size); clear hb2))
  go_ret
  exact ⟨by rw [HA.out]; rfl,by rw [HA.out]; exact HS0.out _ HB2.out⟩
theorem ref_zero {d : Dk} (h : refE d = 0) : d.down = false /\ ∃ blk,d.opn = some blk := by
 unfold refE at h
 split at h
 ·cases h
 ·rename_i hd
  split at h
  ·rename_i ho
   exact ⟨by simpa using hd,Option.isSome_iff_exists.1 ho⟩
  ·cases h
def AddS (bs bw be : Nat) (en : Ent) (w w' : World) : Prop := (w'.cell? ⟨bs,1,none⟩ = some (.pointer (some ⟨bw,0,none⟩)) /\ (w'.cell? ⟨be,0,none⟩ = some (.bool en.put) /\ w'.cell? ⟨be,1,none⟩ = some (.string (S en.key)) /\ w'.cell? ⟨be,2,none⟩ = some (.string (S en.val)))) /\ Below w.heap.size w w'
theorem addS_next {bs bw be : Nat} {en : Ent} {w wx w' : World} (h : AddS bs bw be en w wx) (hb : Below wx.heap.size wx w') : AddS bs bw be en w w' := by
 obtain ⟨⟨h1,h4,h5,h6⟩,h7⟩ := h
 have f : ∀ {k j : Nat} {x : Value},wx.cell? ⟨k,j,none⟩ = some x -> w'.cell? ⟨k,j,none⟩ = some x := fun {k j x} hx => by
  have hlt := cell_lt (p := ⟨k,j,none⟩) hx
  rw [<- hx]
  unfold World.cell?
  rw [hb.block k hlt]
 exact ⟨⟨f h1,f h4,f h5,f h6⟩,h7.trans (hb.mono h7.size)⟩
theorem add_let (E : Sent) (n : Nat) (G : Nat -> Prop) (bs : Nat) (d : Dk) (q : StP) (en : Ent) (w : World) (hE : Env0 n w E) (hG : ∀ k,G k -> n <= k /\ k < w.heap.size) (hS : StoreAt w G bs d q) (hok : DkOk d) (hr : rightB en = true) (hrf : refE d = 0) :
  Calls Tryz.prog 53 #[.pointer (some ⟨bs,0,none⟩),entV en] w fun e w' => e = .returned (.int .i64 (d.add en).1) /\ Done E G bs w (d.add en).2 w' := by
 obtain ⟨hd,blk,ho⟩ := ref_zero hrf
 have hrn := right_not hr
 have hk : en.key.length <= 20 := by omega
 have hv : en.val.length <= 30 := by omega
 have hw := hS.wait
 rw [ho] at hw
 obtain ⟨bw,hbw,hwa⟩ := wait_some hw
 obtain ⟨W,hW⟩ : ∃ W : World,W = w.alloc (.cells #[.bool en.put,.string (S en.key),.string (S en.val)] 106) := ⟨_,rfl⟩
 have hB0 : Below w.heap.size w W := by rw [hW]; exact (Below.refl _ _).alloc (Nat.le_refl _) _
 have hx : Bx W w.heap.size #[.bool en.put,.string (S en.key),.string (S en.val)] 106 := by rw [hW]; exact bx_new w _ _ rfl
 have hzW : W.heap.size = w.heap.size + 1 := by rw [hW]; simp
 have HRI := entRight_any en W
 rw [hr] at HRI
 have HCE : Hid (∀ w1 : World,Below W.heap.size W w1 -> (w1.cell? ⟨w.heap.size,0,none⟩ = some (.bool en.put) /\ w1.cell? ⟨w.heap.size,1,none⟩ = some (.string (S en.key)) /\ w1.cell? ⟨w.heap.size,2,none⟩ = some (.string (S en.val))) /\ w1.cell? ⟨bs,1,none⟩ = some (.pointer (some ⟨bw,0,none⟩)) /\ Below w.heap.size w w1) := fun w1 hb => by
  have h1 := hx.below hb hx.lt
  have hb1 : Below w.heap.size w w1 := hB0.trans (hb.mono hB0.size)
  have h2 : w1.cell? ⟨bs,1,none⟩ = some (optP q.ow) := (hS.box.below hb1 hS.box.lt).cell (j := 1) rfl
  rw [hbw] at h2
  exact ⟨⟨h1.cell (j := 0) rfl,h1.cell (j := 1) rfl,h1.cell (j := 2) rfl⟩,h2,hb1⟩
 have HRF : Hid (∀ w1 : World,Below W.heap.size W w1 -> Calls Tryz.prog 38 #[.pointer (some ⟨bs,0,none⟩)] w1 fun e w' => e = .returned (.int .i64 0) /\ Below w1.heap.size w1 w') := fun w1 hb => by
  have hb1 : Below w.heap.size w w1 := hB0.trans (hb.mono hB0.size)
  have := refusal_any E n G bs d q w1 (hE.chg (F := fun _ => False) (Chg.of_below hb1) (fun _ h => h.elim)) (hS.below hb1)
  rw [hrf] at this
  exact this
 have hwl := hok_waits hok
 have hmo := hok.most
 have HTK : Hid (∀ w1 : World,Below w.heap.size w w1 -> Calls Tryz.prog 100 #[.pointer (some ⟨bw,0,none⟩),.agg #[.bool en.put,.string (S en.key),.string (S en.val)]] w1 fun e w' => e = .returned (.bool (takesB blk d.waits en)) /\ Below w1.heap.size w1 w') := fun w1 hb => takes_any bw blk d.waits en q.v w1 (hwa.below hb) hk hv (by omega) (by omega)
 have HD0 : Hid (∀ w1 : World,Below w.heap.size w w1 -> Done E G bs w d w1) := fun w1 hb => ⟨⟨q,(hS.below hb).mono (fun k h => .inl h)⟩,Chg.of_below hb⟩
 have HGZ : Hid (∀ k,G k -> k < w.heap.size) := fun k hk => (hG k hk).2
 have HOK : Hid (DkOk d) := hok
 have HHO : Hid (d.opn = some blk) := ho
 cases hf : takesB blk d.waits en with
 | true =>
  rw [hf] at HTK
  have HA : Hid (d.add en = (0,{ d with waits := d.waits ++ [en] })) := add_fits hr hd ho hf
  rw [hzW] at HCE HRF HRI
  have HSZ : Hid (∀ w1 : World,Below (w.heap.size + 1) W w1 -> w.heap.size + 1 <= w1.heap.size) := fun w1 hb => by have := hb.size; omega
  have HAD : Hid (∀ w4 : World,Below w.heap.size w w4 -> _) := fun w4 hb => done_add (en := en) HGZ.out (HD0.out w4 hb) HHO.out HOK.out hk hv
  subst hW
  unfold entV at HRI ⊢
  clear hE hG hS hok hwa hw hB0 hx hzW hbw hwl hmo ho
  go_enter Tryz.func53,Tryz.ntmps53
  go_wp2_with (first | (go_at_call 99; refine HRI.mono ?_; rintro e w1 ⟨rfl,hb⟩) | (go_at_call 38; refine (HRF.out w1 hb).mono ?_; rintro e w2 ⟨rfl,hb2⟩; have hbW : Below (w.heap.size + 1) (w.alloc (.cells #[.bool en.put,.string (S en.key),.string (S en.val)] 106)) w2 := hb.trans (hb2.mono (HSZ.out w1 hb)); obtain ⟨⟨e0,e1,e2⟩,k1,hbw2⟩ := HCE.out w2 hbW; have HBW : Hid (Below w.heap.size w w2) := hbw2; clear hb hb2 hbW hbw2))
  go_region_held3 (fun w' => (w'.cell? ⟨bs,1,none⟩ = some (.pointer (some ⟨bw,0,none⟩)) /\ (w'.cell? ⟨w.heap.size,0,none⟩ = some (.bool en.put) /\ w'.cell? ⟨w.heap.size,1,none⟩ = some (.string (S en.key)) /\ w'.cell? ⟨w.heap.size,2,none⟩ = some (.string (S en.val)))) /\ Below w.heap.size w w') (first | (exact ⟨⟨k1,e0,e1,e2⟩,HBW.out.drew⟩) | (assumption) | (exact addS_next (by assumption) (by assumption))) (first | (go_at_call 100; refine (HTK.out _ ?_).mono ?_; exact And.right (by assumption); rintro e w3 ⟨rfl,hb3⟩))
  all_goals
   have hs3 : AddS bs bw w.heap.size en w w3 := by assumption
   obtain ⟨⟨m1,m2,m3,m4⟩,m5⟩ := hs3
   obtain ⟨bw4,n1,hadd⟩ := HAD.out w3 m5
   have hbe : bw4 = bw := by rw [m1] at n1; simpa using n1.symm
   subst hbe
   have HADD : Hid _ := hadd
   clear hadd n1 m5 e0 e1 e2 k1
   go_wp2_with fail
   go_region_with (first | (go_at_call 101; refine (HADD.out _ ?_).mono ?_; exact (Below.refl _ _).drew; rintro e w5 ⟨rfl,hd5⟩))
   all_goals
    go_wp2
    go_ret
    exact ⟨by rw [HA.out]; rfl,by rw [HA.out]; exact hd5⟩
 | false =>
  rw [hf] at HTK
  have hne : d.waits ≠ [] := by intro e; unfold takesB at hf; rw [e] at hf; simp at hf
  have HWR : Hid (∀ w3 : World,Below w.heap.size w w3 -> Calls Tryz.prog 40 #[.pointer (some ⟨bs,0,none⟩)] w3 fun e w' => ∃ v,e = .returned v /\ FaultIs w' E d.write.1 v /\ Done E G bs w d.write.2 w' /\ Chg G w3 w') := fun w1 hb =>
   (write_any E n G bs blk d q w1 (hE.chg (F := fun _ => False) (Chg.of_below hb) (fun _ h => h.elim)) (fun k hk => ⟨(hG k hk).1,Nat.lt_of_lt_of_le (hG k hk).2 hb.size⟩) (hS.below hb) hok hd ho hne).mono fun e w' ⟨v,h1,h2,h3⟩ => ⟨v,h1,h2,h3.later hb,h3.2⟩
  have HAW := add_write hr hd ho hf
  have hfine := write_fine hok hd
  have HCW := codes_answer (write_codes d)
  have HEV : Hid (∀ (w1 : World) (d' : Dk),Done E G bs w d' w1 -> Env w1 E) := fun w1 d' h => (done_env hE hG h).env
  have HNG : Hid (¬ G w.heap.size) := fun h => by have := (hG _ h).2; omega
  generalize d.write = r at *
  obtain ⟨re,rd⟩ := r
  simp only at HAW hfine HCW
  by_cases h0 : re = 0
  ·subst h0
   rw [if_pos rfl] at HAW
   obtain ⟨f1,f2,f3,f4⟩ := hfine rfl
   have HA : Hid (d.add en = (0,{ rd with waits := rd.waits ++ [en] })) := HAW
   have HAD : Hid (∀ w4 : World,Done E G bs w rd w4 -> _) := fun w4 h => done_add (en := en) HGZ.out h (f3.trans HHO.out) f1 hk hv
   clear HAW hfine f1 f2 f3 f4 HCW hne
   rw [hzW] at HCE HRF HRI
   have HSZ : Hid (∀ w1 : World,Below (w.heap.size + 1) W w1 -> w.heap.size + 1 <= w1.heap.size) := fun w1 hb => by have := hb.size; omega
   subst hW
   unfold entV at HRI ⊢
   clear hE hG hS hok hwa hw hB0 hx hzW hbw hwl hmo ho
   go_enter Tryz.func53,Tryz.ntmps53
   go_wp2_with (first | (go_at_call 99; refine HRI.mono ?_; rintro e w1 ⟨rfl,hb⟩) | (go_at_call 38; refine (HRF.out w1 hb).mono ?_; rintro e w2 ⟨rfl,hb2⟩; have hbW : Below (w.heap.size + 1) (w.alloc (.cells #[.bool en.put,.string (S en.key),.string (S en.val)] 106)) w2 := hb.trans (hb2.mono (HSZ.out w1 hb)); obtain ⟨⟨e0,e1,e2⟩,k1,hbw2⟩ := HCE.out w2 hbW; have HBW : Hid (Below w.heap.size w w2) := hbw2; clear hb hb2 hbW hbw2))
   go_region_held3 (fun w' => (w'.cell? ⟨bs,1,none⟩ = some (.pointer (some ⟨bw,0,none⟩)) /\ (w'.cell? ⟨w.heap.size,0,none⟩ = some (.bool en.put) /\ w'.cell? ⟨w.heap.size,1,none⟩ = some (.string (S en.key)) /\ w'.cell? ⟨w.heap.size,2,none⟩ = some (.string (S en.val)))) /\ Below w.heap.size w w') (first | (exact ⟨⟨k1,e0,e1,e2⟩,HBW.out.drew⟩) | (assumption) | (exact addS_next (by assumption) (by assumption))) (first | (go_at_call 100; refine (HTK.out _ ?_).mono ?_; exact And.right (by assumption); rintro e w3 ⟨rfl,hb3⟩))
   all_goals
    have hs3 : AddS bs bw w.heap.size en w w3 := by assumption
    obtain ⟨⟨m1,m2,m3,m4⟩,m5⟩ := hs3
    have HM : Hid (Below w.heap.size w w3) := m5
    have HX3 : Hid (∀ w4 : World,Chg G w3 w4 -> w4.cell? ⟨w.heap.size,0,none⟩ = some (.bool en.put) /\ w4.cell? ⟨w.heap.size,1,none⟩ = some (.string (S en.key)) /\ w4.cell? ⟨w.heap.size,2,none⟩ = some (.string (S en.val))) := fun w4 hc => by
     have hlt := cell_lt (p := ⟨w.heap.size,0,none⟩) m2
     have hh := hc.keep w.heap.size hlt HNG.out
     have f : ∀ {j : Nat} {x : Value},w3.cell? ⟨w.heap.size,j,none⟩ = some x -> w4.cell? ⟨w.heap.size,j,none⟩ = some x := fun {j x} hx => by
      rw [<- hx]
      unfold World.cell?
      rw [hh]
     exact ⟨f m2,f m3,f m4⟩
    clear m1 m2 m3 m4 m5 e0 e1 e2 k1
    go_wp2_with (first | (go_at_call 40; refine (HWR.out w3 HM.out).mono ?_; rintro e w4 ⟨v,rfl,hf4,hd4,hc4⟩; obtain rfl := fault_nil hf4; obtain ⟨e0,e1,e2⟩ := HX3.out w4 hc4; obtain ⟨bw4,n1,hadd⟩ := HAD.out w4 hd4; have HADD : Hid _ := hadd; clear hadd hf4 hd4 hc4))
    go_region_with (first | (go_at_call 101; refine (HADD.out _ ?_).mono ?_; exact (Below.refl _ _).drew; rintro e w5 ⟨rfl,hd5⟩))
    all_goals
     go_wp2
     go_ret
     exact ⟨by rw [HA.out]; rfl,by rw [HA.out]; exact hd5⟩
  ·rw [if_neg h0] at HAW
   have HA : Hid (d.add en = (re,rd)) := HAW
   clear HAW hfine hne
   rw [hzW] at HCE HRF HRI
   have HSZ : Hid (∀ w1 : World,Below (w.heap.size + 1) W w1 -> w.heap.size + 1 <= w1.heap.size) := fun w1 hb => by have := hb.size; omega
   subst hW
   unfold entV at HRI ⊢
   clear hE hG hS hok hwa hw hB0 hx hzW hbw hwl hmo ho
   go_enter Tryz.func53,Tryz.ntmps53
   go_wp2_with (first | (go_at_call 99; refine HRI.mono ?_; rintro e w1 ⟨rfl,hb⟩) | (go_at_call 38; refine (HRF.out w1 hb).mono ?_; rintro e w2 ⟨rfl,hb2⟩; have hbW : Below (w.heap.size + 1) (w.alloc (.cells #[.bool en.put,.string (S en.key),.string (S en.val)] 106)) w2 := hb.trans (hb2.mono (HSZ.out w1 hb)); obtain ⟨⟨e0,e1,e2⟩,k1,hbw2⟩ := HCE.out w2 hbW; have HBW : Hid (Below w.heap.size w w2) := hbw2; clear hb hb2 hbW hbw2))
   go_region_held3 (fun w' => (w'.cell? ⟨bs,1,none⟩ = some (.pointer (some ⟨bw,0,none⟩)) /\ (w'.cell? ⟨w.heap.size,0,none⟩ = some (.bool en.put) /\ w'.cell? ⟨w.heap.size,1,none⟩ = some (.string (S en.key)) /\ w'.cell? ⟨w.heap.size,2,none⟩ = some (.string (S en.val)))) /\ Below w.heap.size w w') (first | (exact ⟨⟨k1,e0,e1,e2⟩,HBW.out.drew⟩) | (assumption) | (exact addS_next (by assumption) (by assumption))) (first | (go_at_call 100; refine (HTK.out _ ?_).mono ?_; exact And.right (by assumption); rintro e w3 ⟨rfl,hb3⟩))
   all_goals
    have hs3 : AddS bs bw w.heap.size en w w3 := by assumption
    have HM : Hid (Below w.heap.size w w3) := hs3.2
    clear e0 e1 e2 k1
    go_wp2_with (first | (go_at_call 40; refine (HWR.out w3 HM.out).mono ?_; rintro e w4 ⟨v,rfl,hf4,hd4,hc4⟩; obtain ⟨b,rfl⟩ := fault_some hf4 h0; have HFA : Hid (FaultIs w4 E re (.iface 128 (.pointer (some ⟨b,0,none⟩)))) := hf4; have HDN : Hid (Done E G bs w rd w4) := hd4; clear hf4 hd4 hc4) | (go_at_call 41; refine (answer_any E re _ w4 (HEV.out w4 _ HDN.out) HFA.out HCW).mono ?_; rintro e w7 ⟨rfl,hb7⟩))
    go_ret
    exact ⟨by rw [HA.out]; rfl,by rw [HA.out]; exact done_below HDN.out hb7⟩
theorem addE_any (E : Sent) (n : Nat) (G : Nat -> Prop) (bs : Nat) (d : Dk) (q : StP) (en : Ent) (w : World) (hE : Env0 n w E) (hG : ∀ k,G k -> n <= k /\ k < w.heap.size) (hS : StoreAt w G bs d q) (hok : DkOk d) :
  Calls Tryz.prog 53 #[.pointer (some ⟨bs,0,none⟩),entV en] w fun e w' => e = .returned (.int .i64 (d.add en).1) /\ Done E G bs w (d.add en).2 w' := by
 by_cases h : rightB en = false \/ refE d ≠ 0
 ·exact add_refused E n G bs d q en w hE hS h
 ·have h1 : rightB en = true := by cases hh : rightB en; exact absurd (.inl hh) h; rfl
  have h2 : refE d = 0 := by by_cases hh : refE d = 0; exact hh; exact absurd (.inr hh) h
  exact add_let E n G bs d q en w hE hG hS hok h1 h2
theorem putS_any (E : Sent) (n : Nat) (G : Nat -> Prop) (bs : Nat) (d : Dk) (q : StP) (key val : List UInt8) (w : World) (hE : Env0 n w E) (hG : ∀ k,G k -> n <= k /\ k < w.heap.size) (hS : StoreAt w G bs d q) (hok : DkOk d) :
  Calls Tryz.prog 26 #[.pointer (some ⟨bs,0,none⟩),.string (S key),.string (S val)] w fun e w' => e = .returned (.int .i64 (d.add ⟨true,key,val⟩).1) /\ Done E G bs w (d.add ⟨true,key,val⟩).2 w' := by
 have HA := addE_any E n G bs d q ⟨true,key,val⟩ w hE hG hS hok
 unfold entV at HA
 simp only at HA
 clear hE hG hS hok
 generalize d.add ⟨true,key,val⟩ = r at *
 go_enter Tryz.func26,Tryz.ntmps26
 go_wp2_with (first | (go_at_call 53; refine HA.mono ?_; rintro e w1 ⟨rfl,hd⟩))
 go_ret
 exact ⟨rfl,hd⟩
theorem S_nil : S [] = (⟨#[]⟩ : ByteArray) := rfl
theorem delS_any (E : Sent) (n : Nat) (G : Nat -> Prop) (bs : Nat) (d : Dk) (q : StP) (key : List UInt8) (w : World) (hE : Env0 n w E) (hG : ∀ k,G k -> n <= k /\ k < w.heap.size) (hS : StoreAt w G bs d q) (hok : DkOk d) :
  Calls Tryz.prog 24 #[.pointer (some ⟨bs,0,none⟩),.string (S key)] w fun e w' => e = .returned (.int .i64 (d.add ⟨false,key,[]⟩).1) /\ Done E G bs w (d.add ⟨false,key,[]⟩).2 w' := by
 have HA := addE_any E n G bs d q ⟨false,key,[]⟩ w hE hG hS hok
 unfold entV at HA
 simp only [S_nil] at HA
 clear hE hG hS hok
 generalize d.add ⟨false,key,[]⟩ = r at *
 go_enter Tryz.func24,Tryz.ntmps24
 go_wp2_with (first | (go_at_call 53; refine HA.mono ?_; rintro e w1 ⟨rfl,hd⟩))
 go_ret
 exact ⟨rfl,hd⟩
theorem fileR_codes (d : Dk) (s : List UInt8) : (d.fileR s).2 = 0 \/ (d.fileR s).2 = 6 \/ (d.fileR s).2 = 7 \/ (d.fileR s).2 = 8 \/ (d.fileR s).2 = 1 \/ (d.fileR s).2 = 2 := by
 unfold Dk.fileR
 split
 ·simp
 ·split <;> simp
theorem fileS_any (E : Sent) (n : Nat) (G : Nat -> Prop) (bs : Nat) (d : Dk) (q : StP) (s : ByteArray) (w : World) (hE : Env0 n w E) (hS : StoreAt w G bs d q) (hs : s.size <= 140737488351232) :
  Calls Tryz.prog 19 #[.pointer (some ⟨bs,0,none⟩),.string s] w fun e w' => e = .returned (.tuple #[.string (S (d.fileR s.data.toList).1),.int .i64 (d.fileR s.data.toList).2]) /\ Below w.heap.size w w' := by
 have c0 : w.cell? ⟨bs,0,none⟩ = some (.pointer (some ⟨q.bd,0,none⟩)) := hS.box.cell (j := 0) rfl
 have HRD := read_disk E n q.Fd q.bd d q.p s w hE hS.disk hs
 have HEV : Hid (∀ w1 : World,Below w.heap.size w w1 -> Env w1 E) := fun w1 hb => hE.env.below hb
 have HCO := fileR_codes d s.data.toList
 clear hE hS
 generalize d.fileR s.data.toList = r at *
 go_enter Tryz.func19,Tryz.ntmps19
 go_wp2_with (first | (go_at_call 50; refine HRD.mono ?_; rintro e w1 ⟨ev,rfl,hf,hb⟩; have HFA : Hid (FaultIs w1 E r.2 ev) := hf; have HB : Hid (Below w.heap.size w w1) := hb; clear hf hb) | (go_at_call 41; refine (answer_any E r.2 ev w1 (HEV.out w1 HB.out) HFA.out HCO).mono ?_; rintro e w2 ⟨rfl,hb2⟩))
 go_ret2
 exact ⟨rfl,HB.out.trans (hb2.mono HB.out.size)⟩
def dk0 (room : Nat) : Dk := ⟨room,false,none,none,none,none,none,[]⟩
theorem dk0_file (room i : Nat) : (dk0 room).file i = none := by
 unfold Dk.file dk0
 split
 ·rfl
 ·split
  ·rfl
  ·split <;> rfl
def Fnew (w : World) (k : Nat) : Prop := k = w.heap.size \/ k = w.heap.size + 1
theorem disk0 (room : Nat) (w : World) : DiskAt ((w.alloc (.map #[] 0)).alloc (.cells #[.int .i64 (room : Int),.map (some w.heap.size),.bool false,.pointer none] 183)) (Fnew w) (w.heap.size + 1) (dk0 room) ⟨w.heap.size,none,fun _ => 0,fun _ => .slice none 0 0⟩ := by
 refine ⟨bx_new _ _ _ (by simp),⟨.map [],own_tight ((World.ownsMap_made w _ _ _).alloc _) (Nat.zero_le _),?_,rfl⟩,trivial,fun i f h => (by rw [dk0_file] at h; cases h),fun i j _ h => (by rw [dk0_file] at h; cases h),fun i j _ h => (by rw [dk0_file] at h; cases h),.inr rfl,.inl rfl,fun c e => (by cases e),fun i h => (by rw [dk0_file] at h; cases h),fun i h => (by rw [dk0_file] at h; cases h),fun s k e => (by cases e)⟩
 refine view_empty.congr (fun l => ?_)
 unfold fM
 split
 ·rw [dk0_file]; rfl
 ·rfl
theorem new_any (room : Nat) (w : World) :
  Calls Tryz.prog 67 #[.int .i64 (room : Int)] w fun e w' => e = .returned (.pointer (some ⟨w.heap.size + 1,0,none⟩)) /\ w' = (w.alloc (.map #[] 0)).alloc (.cells #[.int .i64 (room : Int),.map (some w.heap.size),.bool false,.pointer none] 183) := by
 have hmm := @run_makeMap Tryz.prog
 go_enter Tryz.func67,Tryz.ntmps67
 go_wp2
 go_ret
 exact ⟨rfl,rfl⟩
theorem disk_bad (room : Int) (w : World) (h : room < 0 \/ 100000 < room) :
  Calls Tryz.prog 35 #[.int .i64 room] w fun e w' => e = .returned (.tuple #[.pointer none,.int .i64 1]) /\ w' = w := by
 by_cases h0 : room < 0
 ·go_enter Tryz.func35,Tryz.ntmps35
  go_wp2
  go_ret2
  exact ⟨rfl,rfl⟩
 ·have h1 : 100000 < room := by omega
  go_enter Tryz.func35,Tryz.ntmps35
  go_wp2
  go_ret2
  exact ⟨rfl,rfl⟩
def Gnew (w w' : World) (k : Nat) : Prop := w.heap.size <= k /\ k < w'.heap.size
theorem disk_good (room : Nat) (w : World) (h : room <= 100000) :
  Calls Tryz.prog 35 #[.int .i64 (room : Int)] w fun e w' => ∃ bs q,e = .returned (.tuple #[.pointer (some ⟨bs,0,none⟩),.int .i64 0]) /\ StoreAt w' (Gnew w w') bs (dk0 room) q /\ Below w.heap.size w w' := by
 have h0 : ¬ ((room : Int) < 0) := by omega
 have h1 : ¬ ((100000 : Int) < (room : Int)) := by omega
 go_enter Tryz.func35,Tryz.ntmps35
 go_wp2_with (first | (go_at_call 67; refine (new_any room w).mono ?_; rintro e w1 ⟨rfl,hw1⟩; have hsz : w1.heap.size = w.heap.size + 1 + 1 := (by rw [hw1]; simp); have HD : Hid (DiskAt w1 (Fnew w) (w.heap.size + 1) (dk0 room) ⟨w.heap.size,none,fun _ => 0,fun _ => .slice none 0 0⟩) := (by rw [hw1]; exact disk0 room w); have HB : Hid (Below w.heap.size w w1) := (by rw [hw1]; exact ((Below.refl _ _).alloc (Nat.le_refl _) _).alloc (by simp) _); clear hw1))
 go_ret2
 refine ⟨w.heap.size + 1 + 1,⟨w.heap.size + 1,Fnew w,⟨w.heap.size,none,fun _ => 0,fun _ => .slice none 0 0⟩,none,.slice none 0 0⟩,rfl,?_,HB.out.alloc (by omega) _⟩
 refine ⟨bx_new _ _ _ (by omega),HD.out.alloc _,rfl,?_,fun b e => (by cases e),fun g e => (by cases e),⟨by omega,by simp; omega⟩,?_,fun b e => (by cases e),fun g e => (by cases e)⟩
 ·rintro (e | e) <;> omega
 ·rintro k (e | e)
  ·exact ⟨by omega,by simp; omega⟩
  ·exact ⟨by omega,by simp; omega⟩
theorem create_arg {d : Dk} {a b c : Int} (h : wellB a b c = false) : d.create a b c = (1,d) := by unfold Dk.create; rw [if_pos h]
theorem create_down {d : Dk} {a b c : Int} (h : wellB a b c = true) (hd : d.down = true) : d.create a b c = (7,d) := by unfold Dk.create; rw [if_neg (by simp [h]),if_pos hd]
theorem create_there {d : Dk} {a b c : Int} (h : wellB a b c = true) (hd : d.down = false) (hf : d.f0.isSome = true) : d.create a b c = (5,d) := by unfold Dk.create; rw [if_neg (by simp [h]),if_neg (by simp [hd]),if_pos hf]
theorem create_makes {d : Dk} {a b c : Int} (h : wellB a b c = true) (hd : d.down = false) (hf : d.f0.isSome = false) : d.create a b c = d.opening a.toNat [stMake 0,stAppend 0 (headL a.toNat b.toNat c.toNat),stSync 0] := by unfold Dk.create; rw [if_neg (by simp [h]),if_neg (by simp [hd]),if_neg (by simp [hf])]
theorem make_log (w : World) : Calls Tryz.prog 54 #[.string ⟨#[108,111,103]⟩] w (Made w (stMake 0) none) := by
 rw [S_log]
 exact makeS_any 0 w (by omega)
theorem create_not (E : Sent) (n : Nat) (G : Nat -> Prop) (bs : Nat) (d : Dk) (q : StP) (a b c : Int) (w : World) (hE : Env0 n w E) (hS : StoreAt w G bs d q) (h : wellB a b c = false \/ d.down = true \/ d.f0.isSome = true) :
  Calls Tryz.prog 36 #[.pointer (some ⟨bs,0,none⟩),.agg #[.int .i64 a,.int .i64 b,.int .i64 c]] w fun e w' => e = .returned (.int .i64 (d.create a b c).1) /\ Done E G bs w (d.create a b c).2 w' := by
 have HS0 : Hid (∀ w1 : World,Below w.heap.size w w1 -> Done E G bs w d w1) := fun w1 hb => ⟨⟨q,(hS.below hb).mono (fun k h => .inl h)⟩,Chg.of_below hb⟩
 obtain ⟨W,hW⟩ : ∃ W : World,W = w.alloc (.cells #[.int .i64 a,.int .i64 b,.int .i64 c] 29) := ⟨_,rfl⟩
 have hB0 : Below w.heap.size w W := by rw [hW]; exact (Below.refl _ _).alloc (Nat.le_refl _) _
 have HB0 : Hid (∀ w1 : World,Below W.heap.size W w1 -> Below w.heap.size w w1) := fun w1 hb => hB0.trans (hb.mono hB0.size)
 have HIC := isConfig_any a b c W
 have HC0 : Hid (∀ w1 : World,Below w.heap.size w w1 -> w1.cell? ⟨bs,0,none⟩ = some (.pointer (some ⟨q.bd,0,none⟩))) := fun w1 hb => (hS.box.below hb hS.box.lt).cell (j := 0) rfl
 have HHA : Hid (∀ w1 : World,Below w.heap.size w w1 -> _) := fun w1 hb => has_any E n q.Fd q.bd d q.p ⟨#[108,111,103]⟩ w1 (hE.chg (F := fun _ => False) (Chg.of_below hb) (fun _ h => h.elim)) (hS.disk.below hb) (by decide)
 have HEV : Hid (∀ w1 : World,Below w.heap.size w w1 -> Env w1 E) := fun w1 hb => hE.env.below hb
 cases hw : wellB a b c with
 | false =>
  rw [hw] at HIC
  have HA : Hid (d.create a b c = (1,d)) := create_arg hw
  subst hW
  clear hE hS hB0 h
  go_enter Tryz.func36,Tryz.ntmps36
  go_wp2_with (first | (go_at_call 68; refine HIC.mono ?_; rintro e w1 ⟨rfl,hb⟩; have HB : Hid (Below w.heap.size w w1) := HB0.out w1 hb; clear hb))
  go_ret
  exact ⟨by rw [HA.out]; rfl,by rw [HA.out]; exact HS0.out _ HB.out⟩
 | true =>
  rw [hw] at HIC
  cases hd : d.down with
  | true =>
   rw [hd] at HHA
   simp only [if_true,Bool.not_true,Bool.false_and] at HHA
   have HA : Hid (d.create a b c = (7,d)) := create_down hw hd
   subst hW
   clear hE hS hB0 h
   go_enter Tryz.func36,Tryz.ntmps36
   go_wp2_with (first | (go_at_call 68; refine HIC.mono ?_; rintro e w1 ⟨rfl,hb⟩; have HB : Hid (Below w.heap.size w w1) := HB0.out w1 hb; have k0 := HC0.out w1 HB.out; clear hb) | (go_at_call 69; refine (HHA.out w1 HB.out).mono ?_; rintro e w2 ⟨ev,rfl,hf,hb⟩; obtain ⟨fb,rfl⟩ := fault_some hf (by decide); have HB2 : Hid (Below w.heap.size w w2) := HB.out.trans (hb.mono HB.out.size); have HFA : Hid (FaultIs w2 E 7 (.iface 128 (.pointer (some ⟨fb,0,none⟩)))) := hf; clear hf hb) | (go_at_call 41; refine (answer_any E 7 _ w2 (HEV.out w2 HB2.out) HFA.out (by decide)).mono ?_; rintro e w3 ⟨rfl,hb3⟩))
   go_ret
   exact ⟨by rw [HA.out]; rfl,by rw [HA.out]; exact HS0.out _ (HB2.out.trans (hb3.mono HB2.out.size))⟩
  | false =>
   rw [hd] at HHA
   have hf0 : d.f0.isSome = true := by
    rcases h with h | h | h
    ·rw [hw] at h; cases h
    ·rw [hd] at h; cases h
    ·exact h
   have hfn : (d.file (nameN (⟨#[108,111,103]⟩ : ByteArray).data.toList)).isSome = true := hf0
   rw [hfn] at HHA
   simp only [Bool.false_eq_true,if_false,Bool.not_false,Bool.true_and] at HHA
   have HA : Hid (d.create a b c = (5,d)) := create_there hw hd hf0
   subst hW
   clear hE hS hB0 h hf0 hfn
   go_enter Tryz.func36,Tryz.ntmps36
   go_wp2_with (first | (go_at_call 68; refine HIC.mono ?_; rintro e w1 ⟨rfl,hb⟩; have HB : Hid (Below w.heap.size w w1) := HB0.out w1 hb; have k0 := HC0.out w1 HB.out; clear hb) | (go_at_call 69; refine (HHA.out w1 HB.out).mono ?_; rintro e w2 ⟨ev,rfl,hf,hb⟩; obtain rfl := fault_nil hf; have HB2 : Hid (Below w.heap.size w w2) := HB.out.trans (hb.mono HB.out.size); clear hf hb))
   go_ret
   exact ⟨by rw [HA.out]; rfl,by rw [HA.out]; exact HS0.out _ HB2.out⟩
theorem steps_three {w4 : World} {F : Nat -> Prop} {sa sb sc : St} {a1 a2 b1 b2 c1 c2 : ByteArray} {ka kb kc : Nat} {ca cb cc : Array Value} (hF : ∀ q,F q -> q < w4.heap.size) (ha : TakeAt w4 F sa (.func (.func ka) #[] ca)) (hb : TakeAt w4 F sb (.func (.func kb) #[] cb)) (hc : TakeAt w4 F sc (.func (.func kc) #[] cc)) (fa : StFine sa) (fb : StFine sb) (fc : StFine sc) :
  StepsAt (w4.alloc (.cells #[.string a1,.string a2,.func (.func ka) #[] ca,.string b1,.string b2,.func (.func kb) #[] cb,.string c1,.string c2,.func (.func kc) #[] cc] 86)) F w4.heap.size #[.string a1,.string a2,.func (.func ka) #[] ca,.string b1,.string b2,.func (.func kb) #[] cb,.string c1,.string c2,.func (.func kc) #[] cc] [sa,sb,sc] := by
 have hB := ((Below.refl w4.heap.size w4).alloc (Nat.le_refl _) (.cells #[.string a1,.string a2,.func (.func ka) #[] ca,.string b1,.string b2,.func (.func kb) #[] cb,.string c1,.string c2,.func (.func kc) #[] cc] 86))
 have tk : ∀ {s : St} {v : Value},TakeAt w4 F s v -> TakeAt (w4.alloc (.cells #[.string a1,.string a2,.func (.func ka) #[] ca,.string b1,.string b2,.func (.func kb) #[] cb,.string c1,.string c2,.func (.func kc) #[] cc] 86)) F s v := fun h => h.turn (Chg.of_below (F := fun _ => False) hB) (fun _ h => h.elim) (fun _ _ h => h)
 refine ⟨bx_new w4 _ _ rfl,fun h => absurd (hF _ h) (by omega),?_⟩
 intro j s hj
 match j,hj with
 | 0,hj => cases hj; exact ⟨a1,a2,_,rfl,rfl,rfl,tk ha,fa⟩
 | 1,hj => cases hj; exact ⟨b1,b2,_,rfl,rfl,rfl,tk hb,fb⟩
 | 2,hj => cases hj; exact ⟨c1,c2,_,rfl,rfl,rfl,tk hc,fc⟩
 | j + 3,hj => simp at hj
theorem create_call {E : Sent} {n : Nat} {G : Nat -> Prop} {bs : Nat} {d : Dk} {q : StP} {blk seed bits g : Nat} {t : List UInt8} {w w0 w1 w2 w3 w4 : World} {a1 a2 b1 b2 c1 c2 : ByteArray} {ka kb kc : Nat} {ca cb cc : Array Value} (hE : Env0 n w E) (hG : ∀ k,G k -> n <= k /\ k < w.heap.size) (hS : StoreAt w G bs d q) (hok : DkOk d) (hup : d.down = false) (h0 : Below w.heap.size w w0)
  (ha : ∀ F : Nat -> Prop,(∀ q,F q -> q < w0.heap.size) -> (∀ q,(none : Option Nat) = some q -> ¬ F q) -> TakeAt w1 F (stMake 0) (.func (.func ka) #[] ca)) (h1 : Below w0.heap.size w0 w1) (h2 : Below w1.heap.size w1 w2) (hg : w.heap.size <= g)
  (hb : ∀ F : Nat -> Prop,(∀ q,F q -> q < w2.heap.size) -> (∀ q,some g = some q -> ¬ F q) -> TakeAt w3 F (stAppend 0 t) (.func (.func kb) #[] cb)) (h3 : Below w2.heap.size w2 w3)
  (hc : ∀ F : Nat -> Prop,(∀ q,F q -> q < w3.heap.size) -> (∀ q,(none : Option Nat) = some q -> ¬ F q) -> TakeAt w4 F (stSync 0) (.func (.func kc) #[] cc)) (h4 : Below w3.heap.size w3 w4) :
  Calls Tryz.prog 70 #[.pointer (some ⟨bs,0,none⟩),.agg #[.int .i64 (blk : Int),.int .i64 (seed : Int),.int .i64 (bits : Int)],.slice (some ⟨w4.heap.size,0,none⟩) 3 3] (w4.alloc (.cells #[.string a1,.string a2,.func (.func ka) #[] ca,.string b1,.string b2,.func (.func kb) #[] cb,.string c1,.string c2,.func (.func kc) #[] cc] 86)) fun e w' => e = .returned (.int .i64 (d.opening blk [stMake 0,stAppend 0 t,stSync 0]).1) /\ Done E G bs w (d.opening blk [stMake 0,stAppend 0 t,stSync 0]).2 w' /\ Chg G (w4.alloc (.cells #[.string a1,.string a2,.func (.func ka) #[] ca,.string b1,.string b2,.func (.func kb) #[] cb,.string c1,.string c2,.func (.func kc) #[] cc] 86)) w' := by
 have z0 := h0.size
 have z1 := h1.size
 have z2 := h2.size
 have z3 := h3.size
 have z4 := h4.size
 have hF : ∀ x,q.Fd x -> x < w.heap.size := fun x hx => (hG x (hS.gd x hx)).2
 have B1 : Below w.heap.size w w1 := h0.trans (h1.mono z0)
 have B2 : Below w.heap.size w w2 := B1.trans (h2.mono (by omega))
 have B3 : Below w.heap.size w w3 := B2.trans (h3.mono (by omega))
 have B4 : Below w.heap.size w w4 := B3.trans (h4.mono (by omega))
 have B5 : Below w.heap.size w (w4.alloc (.cells #[.string a1,.string a2,.func (.func ka) #[] ca,.string b1,.string b2,.func (.func kb) #[] cb,.string c1,.string c2,.func (.func kc) #[] cc] 86)) := B4.alloc (by omega) _
 have ta := ha q.Fd (fun x hx => by have := hF x hx; omega) (fun x e => (by cases e))
 have ta4 : TakeAt w4 q.Fd (stMake 0) (.func (.func ka) #[] ca) := ta.turn (Chg.of_below (F := fun _ => False) (h2.trans ((h3.mono z2).trans (h4.mono (by omega))))) (fun _ h => h.elim) (fun _ _ h => h)
 have tb := hb q.Fd (fun x hx => by have := hF x hx; omega) (fun x e hf => by cases e; have := hF _ hf; omega)
 have tb4 : TakeAt w4 q.Fd (stAppend 0 t) (.func (.func kb) #[] cb) := tb.turn (Chg.of_below (F := fun _ => False) h4) (fun _ h => h.elim) (fun _ _ h => h)
 have tc := hc q.Fd (fun x hx => by have := hF x hx; omega) (fun x e => (by cases e))
 have hT := steps_three (a1 := a1) (a2 := a2) (b1 := b1) (b2 := b2) (c1 := c1) (c2 := c2) (F := q.Fd) (fun x hx => by have := hF x hx; omega) ta4 tb4 tc ⟨by simp [stMake],by simp [stMake],by simp [stMake]⟩ ⟨by simp [stAppend],by simp [stAppend],by simp [stAppend]⟩ stSync_fine
 exact (sopen_any E n G bs d q blk seed bits w4.heap.size 3 _ [stMake 0,stAppend 0 t,stSync 0] _ (hE.chg (F := fun _ => False) (Chg.of_below B5) (fun _ h => h.elim)) (fun k hk => ⟨(hG k hk).1,Nat.lt_of_lt_of_le (hG k hk).2 B5.size⟩) (hS.below B5) hok hup hT (by simp) (by simp)).mono fun e w' ⟨e1,e2⟩ => ⟨e1,e2.later B5,e2.2⟩
theorem crS_next {b : Nat} {x y z : Value} {wx w' : World} (h : wx.cell? ⟨b,0,none⟩ = some x /\ wx.cell? ⟨b,1,none⟩ = some y /\ wx.cell? ⟨b,2,none⟩ = some z) (hb : Below wx.heap.size wx w') : w'.cell? ⟨b,0,none⟩ = some x /\ w'.cell? ⟨b,1,none⟩ = some y /\ w'.cell? ⟨b,2,none⟩ = some z := by
 obtain ⟨h1,h4,h5⟩ := h
 have f : ∀ {k j : Nat} {x : Value},wx.cell? ⟨k,j,none⟩ = some x -> w'.cell? ⟨k,j,none⟩ = some x := fun {k j x} hx => by
  have hlt := cell_lt (p := ⟨k,j,none⟩) hx
  rw [<- hx]
  unfold World.cell?
  rw [hb.block k hlt]
 exact ⟨f h1,f h4,f h5⟩
theorem crS_chg {b : Nat} {x y z : Value} {G : Nat -> Prop} {wx w' : World} (h : wx.cell? ⟨b,0,none⟩ = some x /\ wx.cell? ⟨b,1,none⟩ = some y /\ wx.cell? ⟨b,2,none⟩ = some z) (hb : Chg G wx w') (hn : ¬ G b) : w'.cell? ⟨b,0,none⟩ = some x /\ w'.cell? ⟨b,1,none⟩ = some y /\ w'.cell? ⟨b,2,none⟩ = some z := by
 obtain ⟨h1,h4,h5⟩ := h
 have hlt := cell_lt (p := ⟨b,0,none⟩) h1
 have f : ∀ {j : Nat} {x : Value},wx.cell? ⟨b,j,none⟩ = some x -> w'.cell? ⟨b,j,none⟩ = some x := fun {j x} hx => by
  rw [<- hx]
  unfold World.cell?
  rw [hb.keep b hlt hn]
 exact ⟨f h1,f h4,f h5⟩
theorem create_new (E : Sent) (n : Nat) (G : Nat -> Prop) (bs : Nat) (d : Dk) (q : StP) (a b c : Nat) (w : World) (hE : Env0 n w E) (hG : ∀ k,G k -> n <= k /\ k < w.heap.size) (hS : StoreAt w G bs d q) (hok : DkOk d) (hw : wellB a b c = true) (hd : d.down = false) (hf : d.f0.isSome = false) :
  Calls Tryz.prog 36 #[.pointer (some ⟨bs,0,none⟩),.agg #[.int .i64 (a : Int),.int .i64 (b : Int),.int .i64 (c : Int)]] w fun e w' => e = .returned (.int .i64 (d.create a b c).1) /\ Done E G bs w (d.create a b c).2 w' := by
 have hwb := hw
 unfold wellB at hwb
 simp only [Bool.and_eq_true,decide_eq_true_eq] at hwb
 obtain ⟨W,hW⟩ : ∃ W : World,W = w.alloc (.cells #[.int .i64 (a : Int),.int .i64 (b : Int),.int .i64 (c : Int)] 29) := ⟨_,rfl⟩
 have hB0 : Below w.heap.size w W := by rw [hW]; exact (Below.refl _ _).alloc (Nat.le_refl _) _
 have hx : Bx W w.heap.size #[.int .i64 (a : Int),.int .i64 (b : Int),.int .i64 (c : Int)] 29 := by rw [hW]; exact bx_new w _ _ rfl
 have hzW : W.heap.size = w.heap.size + 1 := by rw [hW]; simp
 have HIC := isConfig_any a b c W
 rw [hw] at HIC
 have HC0 : Hid (∀ w1 : World,Below (w.heap.size + 1) W w1 -> w1.cell? ⟨bs,0,none⟩ = some (.pointer (some ⟨q.bd,0,none⟩)) /\ (w1.cell? ⟨w.heap.size,0,none⟩ = some (.int .i64 (a : Int)) /\ w1.cell? ⟨w.heap.size,1,none⟩ = some (.int .i64 (b : Int)) /\ w1.cell? ⟨w.heap.size,2,none⟩ = some (.int .i64 (c : Int))) /\ Below w.heap.size w w1 /\ w.heap.size + 1 <= w1.heap.size) := fun w1 hb => by
  have hb1 : Below w.heap.size w w1 := hB0.trans (hb.mono (by omega))
  have h1 := hx.below hb (by omega)
  exact ⟨(hS.box.below hb1 hS.box.lt).cell (j := 0) rfl,⟨h1.cell (j := 0) rfl,h1.cell (j := 1) rfl,h1.cell (j := 2) rfl⟩,hb1,by have := hb.size; omega⟩
 have HHA : Hid (∀ w1 : World,Below w.heap.size w w1 -> _) := fun w1 hb => has_any E n q.Fd q.bd d q.p ⟨#[108,111,103]⟩ w1 (hE.chg (F := fun _ => False) (Chg.of_below hb) (fun _ h => h.elim)) (hS.disk.below hb) (by decide)
 rw [hd] at HHA
 have hfn : (d.file (nameN (⟨#[108,111,103]⟩ : ByteArray).data.toList)).isSome = false := hf
 rw [hfn] at HHA
 simp only [Bool.false_eq_true,if_false,Bool.not_false,Bool.true_and] at HHA
 have HHD : Hid (∀ wx : World,Below w.heap.size w wx -> Calls Tryz.prog 71 #[.agg #[.int .i64 (a : Int),.int .i64 (b : Int),.int .i64 (c : Int)]] wx fun e w' => ∃ g cp,e = .returned (.slice (some ⟨g,0,none⟩) (headL a b c).length cp) /\ w'.ownsRow 0 5 1 (.slice (some ⟨g,0,none⟩) (headL a b c).length cp) (headL a b c).length (cellsB (headL a b c)) /\ wx.heap.size <= g /\ Below wx.heap.size wx w') := fun wx hb => by
  refine (recHeadB_any a b c wx (by omega) (by omega) (by omega) (hE.env.halves.below hb hE.env.halves.1)).mono ?_
  rintro e w' ⟨v,rfl,hr,hb'⟩
  obtain ⟨g,cp,rfl,hgl,_⟩ := hr.form (by rw [headL_length]; omega)
  exact ⟨g,cp,rfl,own_lower hr (Nat.zero_le _),hgl,hb'⟩
 have HAP : Hid (∀ (w1 : World) (g cp : Nat),w1.ownsRow 0 5 1 (.slice (some ⟨g,0,none⟩) (headL a b c).length cp) (headL a b c).length (cellsB (headL a b c)) -> Calls Tryz.prog 55 #[.string ⟨#[108,111,103]⟩,.slice (some ⟨g,0,none⟩) (headL a b c).length cp] w1 (Made w1 (stAppend 0 (headL a b c)) (some g))) := fun w1 g cp hr => append_log g cp _ w1 hr (by rw [headL_length]; omega) (by rw [headL_length]; omega)
 have HA : Hid (d.create a b c = d.opening a [stMake 0,stAppend 0 (headL a b c),stSync 0]) := create_makes hw hd hf
 have HE : Hid (Env0 n w E) := hE
 have HG : Hid (∀ k,G k -> n <= k /\ k < w.heap.size) := hG
 have HS : Hid (StoreAt w G bs d q) := hS
 have HOK : Hid (DkOk d) := hok
 rw [hzW] at HIC
 subst hW
 have HNG : Hid (¬ G w.heap.size) := fun h => by have := (HG.out _ h).2; omega
 clear hE hG hS hok hB0 hx hzW hfn hf hwb
 go_enter Tryz.func36,Tryz.ntmps36
 go_wp2_with (first | (go_at_call 68; refine HIC.mono ?_; rintro e w1 ⟨rfl,hb⟩; obtain ⟨k0,kk,hbb,hzz⟩ := HC0.out w1 hb; have HB1 : Hid (Below (w.heap.size + 1) _ w1) := hb; have HB : Hid (Below w.heap.size w w1) := hbb; clear hb hbb kk) | (go_at_call 69; refine (HHA.out w1 HB.out).mono ?_; rintro e w2 ⟨ev,rfl,hf,hb⟩; obtain rfl := fault_nil hf; obtain ⟨_,kk,hbb2,_⟩ := HC0.out w2 (HB1.out.trans (hb.mono hzz)); have HB2 : Hid (Below w.heap.size w w2) := hbb2; clear hf hb k0 hbb2))
 go_region_held3 (fun w' => w'.cell? ⟨w.heap.size,0,none⟩ = some (.int .i64 (a : Int)) /\ w'.cell? ⟨w.heap.size,1,none⟩ = some (.int .i64 (b : Int)) /\ w'.cell? ⟨w.heap.size,2,none⟩ = some (.int .i64 (c : Int))) (first | (exact kk) | (assumption) | (exact crS_next (by assumption) (by assumption)) | (exact crS_next (by assumption) ((Below.refl _ _).alloc (Nat.le_refl _) _)) | (exact crS_chg (by assumption) (by assumption) HNG.out)) (first | (go_at_call 54; refine (make_log _).mono ?_; rintro e wm ⟨sa,sa2,ka,ca,rfl,hTa,hba⟩) | (go_at_call 71; refine (HHD.out wm ?_).mono ?_; exact HB2.out.drew.trans (hba.mono HB2.out.size); rintro e wh ⟨g,cp,rfl,hrow,hgl,hbh⟩) | (go_at_call 55; refine (HAP.out wh g cp hrow).mono ?_; rintro e wa ⟨sb,sb2,kb,cb,rfl,hTb,hbb⟩) | (go_at_call 43; refine (sync_log wa).mono ?_; rintro e ws ⟨sc,sc2,kc,cc,rfl,hTc,hbc⟩) | (go_at_call 70; refine (create_call HE.out HG.out HS.out HOK.out hd HB2.out.drew hTa hba hbh (Nat.le_trans HB2.out.size (Nat.le_trans hba.size hgl)) hTb hbb hTc hbc).mono ?_; rintro e wo ⟨rfl,hdn,hchg⟩))
 all_goals
  go_wp2
  go_ret
  exact ⟨by rw [HA.out]; rfl,by rw [HA.out]; exact hdn⟩
end Go.Proofs.YtdhgebdbiehchaaGreatDoor
namespace Go.Proofs.YtdhgebdbiehchaaGreatDoor
open Go.RowKit Go.Maps
set_option linter.unusedVariables false
theorem create_any (E : Sent) (n : Nat) (G : Nat -> Prop) (bs : Nat) (d : Dk) (q : StP) (a b c : Int) (w : World) (hE : Env0 n w E) (hG : ∀ k,G k -> n <= k /\ k < w.heap.size) (hS : StoreAt w G bs d q) (hok : DkOk d) :
  Calls Tryz.prog 36 #[.pointer (some ⟨bs,0,none⟩),.agg #[.int .i64 a,.int .i64 b,.int .i64 c]] w fun e w' => e = .returned (.int .i64 (d.create a b c).1) /\ Done E G bs w (d.create a b c).2 w' := by
 by_cases h : wellB a b c = false \/ d.down = true \/ d.f0.isSome = true
 ·exact create_not E n G bs d q a b c w hE hS h
 ·have hw : wellB a b c = true := by cases hh : wellB a b c; exact absurd (.inl hh) h; rfl
  have hd : d.down = false := by cases hh : d.down; rfl; exact absurd (.inr (.inl hh)) h
  have hf : d.f0.isSome = false := by cases hh : d.f0.isSome; rfl; exact absurd (.inr (.inr hh)) h
  have hwb := hw
  unfold wellB at hwb
  simp only [Bool.and_eq_true,decide_eq_true_eq] at hwb
  obtain ⟨a',rfl⟩ := Int.eq_ofNat_of_zero_le (show 0 <= a by omega)
  obtain ⟨b',rfl⟩ := Int.eq_ofNat_of_zero_le (show 0 <= b by omega)
  obtain ⟨c',rfl⟩ := Int.eq_ofNat_of_zero_le (show 0 <= c by omega)
  exact create_new E n G bs d q a' b' c' w hE hG hS hok hw hd hf
end Go.Proofs.YtdhgebdbiehchaaGreatDoor
namespace Go.Proofs.YtdhgebdbiehchaaGreatDoor
open Go.RowKit Go.Maps
set_option linter.unusedSimpArgs false
set_option linter.unusedVariables false
def Rg (κ : Nat -> Nat) (n : Nat) (W : World) (c : Nat) (k : Nat) : Prop := κ k = c /\ n <= k /\ k < W.heap.size
theorem Rg.le {κ : Nat -> Nat} {n c : Nat} {W W' : World} (h : W.heap.size <= W'.heap.size) : ∀ k,Rg κ n W c k -> Rg κ n W' c k := fun k hk => ⟨hk.1,hk.2.1,Nat.lt_of_lt_of_le hk.2.2 h⟩
def recol (κ : Nat -> Nat) (w w' : World) (c : Nat) (k : Nat) : Nat := if w.heap.size <= k /\ k < w'.heap.size then c else κ k
theorem recol_old {κ : Nat -> Nat} {w w' : World} {c k : Nat} (h : k < w.heap.size) : recol κ w w' c k = κ k := by unfold recol; rw [if_neg (by omega)]
theorem recol_out {κ : Nat -> Nat} {w w' : World} {c k : Nat} (h : w'.heap.size <= k) : recol κ w w' c k = κ k := by unfold recol; rw [if_neg (by omega)]
theorem recol_new {κ : Nat -> Nat} {w w' : World} {c k : Nat} (h : w.heap.size <= k) (h' : k < w'.heap.size) : recol κ w w' c k = c := by unfold recol; rw [if_pos ⟨h,h'⟩]
theorem Rg.toNew {κ : Nat -> Nat} {n c c' : Nat} {w w' : World} (hs : w.heap.size <= w'.heap.size) : ∀ k,Rg κ n w c k -> Rg (recol κ w w' c') n w' c k := fun k hk => ⟨(recol_old hk.2.2).trans hk.1,hk.2.1,Nat.lt_of_lt_of_le hk.2.2 hs⟩
theorem Rg.fx {κ : Nat -> Nat} {n c : Nat} {w w' : World} (hn : n <= w.heap.size) (hs : w.heap.size <= w'.heap.size) : ∀ k,Fx (Rg κ n w c) w w' k -> Rg (recol κ w w' c) n w' c k := by
 rintro k (hk | hk)
 ·exact Rg.toNew hs k hk
 ·exact ⟨recol_new hk.1 hk.2,by omega,hk.2⟩
structure PairAt (W : World) (κ : Nat -> Nat) (n j : Nat) (d : Dk × Dk) (p : Nat × Nat × Nat) : Prop where
 box : Bx W p.1 #[.pointer (some ⟨p.2.1,0,none⟩),.pointer (some ⟨p.2.2,0,none⟩)] 198
 col : Rg κ n W 0 p.1
 px : ∃ q,StoreAt W (Rg κ n W (2 * j + 2)) p.2.1 d.1 q
 py : ∃ r,RefAt W (Rg κ n W (2 * j + 3)) p.2.2 d.2 r
structure LawP where
 pv : Value
 ps : List (Nat × Nat × Nat)
 isv : Value
 imv : Value
 next : Int
def markC (s : ByteArray) : Nat -> List Value
 | 0 => []
 | n + 1 => .string s :: .string ⟨#[]⟩ :: markC s n
structure Mark where
 v : Value
 s : ByteArray
 n : Nat
def MarkAt (W : World) (κ : Nat -> Nat) (n : Nat) (m : Mark) : Prop := ∃ p c,m.v = .slice p m.n c /\ m.n <= 1000000 /\ (0 < m.n -> ∃ g cur,p = some ⟨g,0,none⟩ /\ W.heap[g]? = some (.cells cur 54 (0,0)) /\ (∀ (j : Nat) (u : Value),(markC m.s m.n)[j]? = some u -> cur[j]? = some u) /\ Rg κ n W 0 g)
structure MarksAt (W : World) (κ : Nat -> Nat) (n bw : Nat) (isv imv : Value) (ls : List Mark) : Prop where
 is : W.ownsRow 0 32 1 isv ls.length (ls.map (·.v))
 im : W.ownsRow 0 9 1 imv ls.length (ls.map fun m => .string m.s)
 cis : ∀ g,isv.ownBlock = some g -> Rg κ n W 0 g
 cim : ∀ g,imv.ownBlock = some g -> Rg κ n W 0 g
 each : ∀ m ∈ ls,MarkAt W κ n m
structure LawAt (W : World) (κ : Nat -> Nat) (n bw : Nat) (ds : List (Dk × Dk)) (P : LawP) (ls : List Mark) : Prop where
 box : Bx W bw #[P.pv,P.isv,P.imv,.int .i64 P.next] 65
 col : Rg κ n W 0 bw
 row : W.ownsRow 0 118 1 P.pv ds.length (P.ps.map fun p => .pointer (some ⟨p.1,0,none⟩))
 len : P.ps.length = ds.length
 crow : ∀ g,P.pv.ownBlock = some g -> Rg κ n W 0 g
 pairs : ∀ (j : Nat) (d : Dk × Dk) (p : Nat × Nat × Nat),ds[j]? = some d -> P.ps[j]? = some p -> PairAt W κ n j d p
 marks : MarksAt W κ n bw P.isv P.imv ls
 out : ∀ k,W.heap.size <= k -> κ k = 1
theorem PairAt.kept {W W' : World} {κ κ' : Nat -> Nat} {n j : Nat} {d : Dk × Dk} {p : Nat × Nat × Nat} {K : Nat -> Prop} (h : PairAt W κ n j d p) (hc : Chg K W W') (hκ : ∀ k,k < W.heap.size -> κ' k = κ k) (hK : ∀ k c,Rg κ n W c k -> c = 0 \/ c = 2 * j + 2 \/ c = 2 * j + 3 -> ¬ K k) : PairAt W' κ' n j d p := by
 have hr : ∀ c k,Rg κ n W c k -> Rg κ' n W' c k := fun c k hk => ⟨(hκ k hk.2.2).trans hk.1,hk.2.1,Nat.lt_of_lt_of_le hk.2.2 hc.size⟩
 obtain ⟨q,hq⟩ := h.px
 obtain ⟨r,hr'⟩ := h.py
 exact ⟨h.box.chg hc (hK _ _ h.col (.inl rfl)),hr _ _ h.col,⟨q,(hq.keep hc (fun k hk => hK k _ hk (.inr (.inl rfl)))).mono (hr _)⟩,⟨r,(hr'.kept hc (fun k hk => hK k _ hk (.inr (.inr rfl)))).mono (hr _)⟩⟩
theorem MarkAt.kept {W W' : World} {κ κ' : Nat -> Nat} {n : Nat} {m : Mark} (h : MarkAt W κ n m) (hk : ∀ g,Rg κ n W 0 g -> (∃ cur,W.heap[g]? = some (.cells cur 54 (0,0))) -> W'.heap[g]? = W.heap[g]?) (hr : ∀ g,Rg κ n W 0 g -> Rg κ' n W' 0 g) : MarkAt W' κ' n m := by
 obtain ⟨p,c,h1,hb,h2⟩ := h
 refine ⟨p,c,h1,hb,fun hn => ?_⟩
 obtain ⟨g,cur,a1,a2,a3,a4⟩ := h2 hn
 exact ⟨g,cur,a1,(hk g a4 ⟨cur,a2⟩).trans a2,a3,hr g a4⟩
theorem MarksAt.kept {W W' : World} {κ κ' : Nat -> Nat} {n bw : Nat} {isv imv : Value} {ls : List Mark} {K : Nat -> Prop} (h : MarksAt W κ n bw isv imv ls) (hc : Chg K W W') (hκ : ∀ k,k < W.heap.size -> κ' k = κ k) (hK : ∀ k,Rg κ n W 0 k -> ¬ K k) : MarksAt W' κ' n bw isv imv ls := by
 have hr : ∀ c k,Rg κ n W c k -> Rg κ' n W' c k := fun c k hk => ⟨(hκ k hk.2.2).trans hk.1,hk.2.1,Nat.lt_of_lt_of_le hk.2.2 hc.size⟩
 exact ⟨own_chg h.is hc (fun g e => hK _ (h.cis g e)),own_chg h.im hc (fun g e => hK _ (h.cim g e)),fun g e => hr _ _ (h.cis g e),fun g e => hr _ _ (h.cim g e),
  fun m hm => (h.each m hm).kept (fun g hg _ => hc.keep g hg.2.2 (hK g hg)) (fun g hg => hr _ _ hg)⟩
theorem LawAt.kept {W W' : World} {κ : Nat -> Nat} {n bw : Nat} {ds : List (Dk × Dk)} {P : LawP} {ls : List Mark} {K : Nat -> Prop} (h : LawAt W κ n bw ds P ls) (hc : Chg K W W') (hK : ∀ k,n <= k -> k < W.heap.size -> κ k ≠ 1 -> ¬ K k) : LawAt W' κ n bw ds P ls := by
 have hr : ∀ c k,Rg κ n W c k -> Rg κ n W' c k := fun c k hk => ⟨hk.1,hk.2.1,Nat.lt_of_lt_of_le hk.2.2 hc.size⟩
 have h0 : ∀ k,Rg κ n W 0 k -> ¬ K k := fun k hk => hK k hk.2.1 hk.2.2 (by rw [hk.1]; decide)
 exact ⟨h.box.chg hc (h0 _ h.col),hr _ _ h.col,own_chg h.row hc (fun g e => h0 _ (h.crow g e)),h.len,fun g e => hr _ _ (h.crow g e),
  fun j d p hd hp => (h.pairs j d p hd hp).kept hc (fun _ _ => rfl) (fun k c hk e => hK k hk.2.1 hk.2.2 (by rw [hk.1]; omega)),h.marks.kept hc (fun _ _ => rfl) h0,fun k hk => h.out k (Nat.le_trans hc.size hk)⟩
theorem LawAt.below {W W' : World} {κ : Nat -> Nat} {n bw : Nat} {ds : List (Dk × Dk)} {P : LawP} {ls : List Mark} (h : LawAt W κ n bw ds P ls) (hb : Below W.heap.size W W') : LawAt W' κ n bw ds P ls :=
 h.kept (K := fun _ => False) (Chg.of_below hb) (fun _ _ _ _ h => h)
theorem getElem?_set_cases {α : Type} {l : List α} {j i : Nat} {a x : α} (h : (l.set j a)[i]? = some x) : (i = j /\ x = a) \/ (i ≠ j /\ l[i]? = some x) := by
 rw [List.getElem?_set] at h
 by_cases e : j = i
 ·rw [if_pos e] at h
  split at h
  ·cases h; exact .inl ⟨e.symm,rfl⟩
  ·cases h
 ·rw [if_neg e] at h; exact .inr ⟨fun e' => e e'.symm,h⟩
theorem LawAt.didX {w w' : World} {κ : Nat -> Nat} {n bw : Nat} {ds : List (Dk × Dk)} {P : LawP} {ls : List Mark} {E : Sent} {j : Nat} {d : Dk × Dk} {p : Nat × Nat × Nat} {d' : Dk} (h : LawAt w κ n bw ds P ls) (hn : n <= w.heap.size) (hd : ds[j]? = some d) (hp : P.ps[j]? = some p)
  (hD : Done E (Rg κ n w (2 * j + 2)) p.2.1 w d' w') : LawAt w' (recol κ w w' (2 * j + 2)) n bw (ds.set j (d',d.2)) P ls := by
 obtain ⟨⟨q,hq⟩,hc⟩ := hD
 have hs := hc.size
 have hκ : ∀ k,k < w.heap.size -> recol κ w w' (2 * j + 2) k = κ k := fun k hk => recol_old hk
 have hr : ∀ c k,Rg κ n w c k -> Rg (recol κ w w' (2 * j + 2)) n w' c k := fun c k hk => Rg.toNew hs k hk
 have hK : ∀ k c,c ≠ 2 * j + 2 -> Rg κ n w c k -> ¬ Rg κ n w (2 * j + 2) k := fun k c hne h1 h2 => hne (h1.1.symm.trans h2.1)
 refine ⟨h.box.chg hc (hK _ 0 (by omega) h.col),hr _ _ h.col,?_,by rw [h.len,List.length_set],fun g e => hr _ _ (h.crow g e),?_,h.marks.kept hc hκ (fun k hk => hK k 0 (by omega) hk),fun k hk => (recol_out hk).trans (h.out k (Nat.le_trans hs hk))⟩
 ·rw [List.length_set]; exact own_chg h.row hc (fun g e => hK _ 0 (by omega) (h.crow g e))
 ·intro i d1 p1 h1 h2
  rcases getElem?_set_cases h1 with ⟨rfl,rfl⟩ | ⟨hne,h1⟩
  ·rw [hp] at h2
   cases h2
   have hpr := h.pairs i d p hd hp
   obtain ⟨r,hr'⟩ := hpr.py
   exact ⟨hpr.box.chg hc (hK _ 0 (by omega) hpr.col),hr _ _ hpr.col,⟨q,hq.mono (Rg.fx hn hs)⟩,⟨r,(hr'.kept hc (fun k hk => hK k _ (by omega) hk)).mono (hr _)⟩⟩
  ·exact (h.pairs i d1 p1 h1 h2).kept hc hκ (fun k c hk e => hK k c (by omega) hk)
theorem LawAt.didY {w w' : World} {κ : Nat -> Nat} {n bw : Nat} {ds : List (Dk × Dk)} {P : LawP} {ls : List Mark} {j : Nat} {d : Dk × Dk} {p : Nat × Nat × Nat} {d' : Dk} (h : LawAt w κ n bw ds P ls) (hn : n <= w.heap.size) (hd : ds[j]? = some d) (hp : P.ps[j]? = some p)
  (hD : RDone (Rg κ n w (2 * j + 3)) p.2.2 w d' w') : LawAt w' (recol κ w w' (2 * j + 3)) n bw (ds.set j (d.1,d')) P ls := by
 obtain ⟨⟨q,hq⟩,hc⟩ := hD
 have hs := hc.size
 have hκ : ∀ k,k < w.heap.size -> recol κ w w' (2 * j + 3) k = κ k := fun k hk => recol_old hk
 have hr : ∀ c k,Rg κ n w c k -> Rg (recol κ w w' (2 * j + 3)) n w' c k := fun c k hk => Rg.toNew hs k hk
 have hK : ∀ k c,c ≠ 2 * j + 3 -> Rg κ n w c k -> ¬ Rg κ n w (2 * j + 3) k := fun k c hne h1 h2 => hne (h1.1.symm.trans h2.1)
 refine ⟨h.box.chg hc (hK _ 0 (by omega) h.col),hr _ _ h.col,?_,by rw [h.len,List.length_set],fun g e => hr _ _ (h.crow g e),?_,h.marks.kept hc hκ (fun k hk => hK k 0 (by omega) hk),fun k hk => (recol_out hk).trans (h.out k (Nat.le_trans hs hk))⟩
 ·rw [List.length_set]; exact own_chg h.row hc (fun g e => hK _ 0 (by omega) (h.crow g e))
 ·intro i d1 p1 h1 h2
  rcases getElem?_set_cases h1 with ⟨rfl,rfl⟩ | ⟨hne,h1⟩
  ·rw [hp] at h2
   cases h2
   have hpr := h.pairs i d p hd hp
   obtain ⟨r,hr'⟩ := hpr.px
   exact ⟨hpr.box.chg hc (hK _ 0 (by omega) hpr.col),hr _ _ hpr.col,⟨r,(hr'.keep hc (fun k hk => hK k _ (by omega) hk)).mono (hr _)⟩,⟨q,hq.mono (Rg.fx hn hs)⟩⟩
  ·exact (h.pairs i d1 p1 h1 h2).kept hc hκ (fun k c hk e => hK k c (by omega) hk)
def Inv (E : Sent) (n bw : Nat) (m : Bool) (nd c : Nat) (Fr : Nat -> Prop) (W : World) : Prop :=
 ∃ κ ds P ls,LawAt W κ n bw ds P ls /\ Env0 n W E /\ (∀ d ∈ ds,d.1 = d.2 /\ DkOk d.1) /\ (m = false -> ls = []) /\ ds.length = nd /\ (ls.length <= 4 * c /\ 0 <= P.next /\ P.next <= (c : Int)) /\ (∀ k,Fr k -> κ k = 1 /\ k < W.heap.size)
def Mv (n : Nat) (Fr : Nat -> Prop) (k : Nat) : Prop := n <= k /\ ¬ Fr k
theorem Inv.below {E : Sent} {n bw nd c : Nat} {m : Bool} {Fr : Nat -> Prop} {W W' : World} (h : Inv E n bw m nd c Fr W) (hb : Below W.heap.size W W') : Inv E n bw m nd c Fr W' := by
 obtain ⟨κ,ds,P,ls,h1,h2,h3,h4,h5,h6,h7⟩ := h
 exact ⟨κ,ds,P,ls,h1.below hb,h2.below (hb.mono h2.le),h3,h4,h5,h6,fun k hk => ⟨(h7 k hk).1,Nat.lt_of_lt_of_le (h7 k hk).2 hb.size⟩⟩
theorem Inv.drop {E : Sent} {n bw nd c : Nat} {m : Bool} {Fr : Nat -> Prop} {W : World} (h : Inv E n bw m nd c Fr W) : Inv E n bw m nd c (fun _ => False) W := by
 obtain ⟨κ,ds,P,ls,h1,h2,h3,h4,h5,h6,h7⟩ := h
 exact ⟨κ,ds,P,ls,h1,h2,h3,h4,h5,h6,fun _ h => h.elim⟩
theorem Inv.hold {E : Sent} {n bw nd c : Nat} {m : Bool} {W W' : World} (h : Inv E n bw m nd c (fun _ => False) W) (hb : Below W.heap.size W W') {g : Nat} (h1 : W.heap.size <= g) (h2 : g < W'.heap.size) : Inv E n bw m nd c (fun k => k = g) W' := by
 have h0 := h
 obtain ⟨κ,ds,P,ls,a1,a2,a3,a4,a5,a6,a7⟩ := h0
 exact ⟨κ,ds,P,ls,a1.below hb,a2.below (hb.mono a2.le),a3,a4,a5,a6,fun k hk => ⟨a1.out k (by omega),by omega⟩⟩
end Go.Proofs.YtdhgebdbiehchaaGreatDoor
