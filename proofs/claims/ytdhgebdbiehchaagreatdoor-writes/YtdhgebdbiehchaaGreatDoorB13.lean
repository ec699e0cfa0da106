/- The contract of table.slots.put: one is put in, what is nearer to its home gives way. sums.AppendLow onto the slice of a literal: it has no room, so it grows at once. The contract of table.front.bytes. The contract of table.Make: the bytes of the index of a log that says this. The contracts of disk.Disk's Has and Read. -/
import Derived.Test.YtdhgebdbiehchaaGreatDoorB12
import Derived.Test.YtdhgebdbiehchaaGreatDoorB10
import Derived.Test.YtdhgebdbiehchaaGreatDoorB01
import Derived.ArgAppend
import Derived.Lib.SmallJoins
import Derived.Test.YtdhgebdbiehchaaGreatDoorB11
import Derived.Test.YtdhgebdbiehchaaGreatDoorB05
import Derived.Deep.RegionHeld3
namespace Go.Proofs.YtdhgebdbiehchaaGreatDoor
open Go.RowKit
set_option linter.unusedSimpArgs false
set_option linter.unusedVariables false

/-- Four stores into one block. -/
def put4 (w : World) (g k : Nat) (a b c d : Value) : World := (((w.setCell ⟨g, k, none⟩ a).setCell ⟨g, k + 1, none⟩ b).setCell ⟨g, k + 2, none⟩ c).setCell ⟨g, k + 3, none⟩ d
theorem put4_far (w : World) {g m : Nat} (h : g ≠ m) (k : Nat) (a b c d : Value) (j : Nat) : (put4 w g k a b c d).cell? ⟨m, j, none⟩ = w.cell? ⟨m, j, none⟩ := by
  unfold put4
  rw [World.cell?_setCell_far _ _ _ _ h, World.cell?_setCell_far _ _ _ _ h, World.cell?_setCell_far _ _ _ _ h, World.cell?_setCell_far _ _ _ _ h]
theorem put4_below {w w0 : World} {g n : Nat} (h : Below n w0 w) (hg : n ≤ g) (k : Nat) (a b c d : Value) : Below n w0 (put4 w g k a b c d) :=
  (((h.setCell hg _).setCell hg _).setCell hg _).setCell hg _
theorem put4_size (w : World) (g k : Nat) (a b c d : Value) : (put4 w g k a b c d).heap.size = w.heap.size := by simp [put4]
theorem own_store4 {w : World} {base g cap n : Nat} {t : List (Option Slt)} {a : Nat} (x : Slt) (h : w.ownsRow base 175 4 (.slice (some ⟨g, 0, none⟩) n cap) n (cellsP t)) (hl : t.length = n) (ha : a < n) :
    (put4 w g (a * 4) (.int .u8 1) (.int .i64 x.num) (.int .i64 x.blk) (.int .i64 x.no)).ownsRow base 175 4 (.slice (some ⟨g, 0, none⟩) n cap) n (cellsP (t.set a (some x))) := by
  rw [← cellsP_set (by omega) x]
  exact ((((h.stored _ _).1.stored _ _).1.stored _ _).1.stored _ _).1
theorem own_put4_other {w : World} {base e size g cap n : Nat} {xs : List Value} (h : w.ownsRow base e size (.slice (some ⟨g, 0, none⟩) n cap) n xs) {b : Nat} (hb : g ≠ b) (k : Nat) (v0 v1 v2 v3 : Value) : (put4 w b k v0 v1 v2 v3).ownsRow base e size (.slice (some ⟨g, 0, none⟩) n cap) n xs :=
  own_set_other (own_set_other (own_set_other (own_set_other h hb _ _) hb _ _) hb _ _) hb _ _
/-- A slot of the program's in a box of its own. -/
def PBox (w : World) (g : Nat) (x : Slt) : Prop := (w.cell? ⟨g, 0, none⟩ = some (.int .u8 1) ∧ w.cell? ⟨g, 1, none⟩ = some (.int .i64 x.num) ∧ w.cell? ⟨g, 2, none⟩ = some (.int .i64 x.blk) ∧ w.cell? ⟨g, 3, none⟩ = some (.int .i64 x.no)) ∧ ∀ i, w.frozen? ⟨g, i, none⟩ = false
theorem PBox.below {w w' : World} {g m : Nat} {x : Slt} (h : PBox w g x) (hb : Below m w w') (hg : g < m) : PBox w' g x :=
  ⟨⟨(hb.cell (p := ⟨g, 0, none⟩) hg).trans h.1.1, (hb.cell (p := ⟨g, 1, none⟩) hg).trans h.1.2.1, (hb.cell (p := ⟨g, 2, none⟩) hg).trans h.1.2.2.1, (hb.cell (p := ⟨g, 3, none⟩) hg).trans h.1.2.2.2⟩, fun i => (hb.frozen (p := ⟨g, i, none⟩) hg).trans (h.2 i)⟩
theorem pbox_put4 {w : World} {b : Nat} {x : Slt} (h : PBox w b x) (y : Slt) : PBox (put4 w b 0 (.int .u8 1) (.int .i64 y.num) (.int .i64 y.blk) (.int .i64 y.no)) b y := by
  obtain ⟨⟨h0, h1, h2, h3⟩, hf⟩ := h
  unfold put4
  simp only [Nat.zero_add]
  refine ⟨⟨?_, ?_, ?_, ?_⟩, fun i => by simp [hf i]⟩
  · rw [off_ne (by decide), off_ne (by decide), off_ne (by decide), World.cell?_setCell_same _ _ _ h0]
  · rw [off_ne (by decide), off_ne (by decide), World.cell?_setCell_same _ _ _ (by rw [off_ne (by decide)]; exact h1)]
  · rw [off_ne (by decide), World.cell?_setCell_same _ _ _ (by rw [off_ne (by decide), off_ne (by decide)]; exact h2)]
  · rw [World.cell?_setCell_same _ _ _ (by rw [off_ne (by decide), off_ne (by decide), off_ne (by decide)]; exact h3)]
theorem pbox_put4_other {w : World} {b g : Nat} {x : Slt} (h : PBox w b x) (hg : g ≠ b) (k : Nat) (v0 v1 v2 v3 : Value) : PBox (put4 w g k v0 v1 v2 v3) b x := by
  obtain ⟨⟨h0, h1, h2, h3⟩, hf⟩ := h
  exact ⟨⟨(put4_far w hg _ _ _ _ _ _).trans h0, (put4_far w hg _ _ _ _ _ _).trans h1, (put4_far w hg _ _ _ _ _ _).trans h2, (put4_far w hg _ _ _ _ _ _).trans h3⟩, fun i => by simp [put4, hf i]⟩

/-- All below a bound is as it was, and all that was there but one block. -/
def BelowG (base g : Nat) (w w' : World) : Prop := Below base w w' ∧ Turn2 g g w w'
theorem BelowG.set {base g b : Nat} {w w' : World} (h : BelowG base g w w') (hb : b = g ∨ w.heap.size ≤ b) (hbb : base ≤ b) (j : Nat) (v : Value) : BelowG base g w (w'.setCell ⟨b, j, none⟩ v) :=
  ⟨h.1.setCell hbb _, ⟨h.2.os, h.2.tape, h.2.output, by simpa [World.setCell] using h.2.size, fun k hk h1 h2 => (Below.heap_setCell w' ⟨b, j, none⟩ v k (by show k ≠ b; omega)).trans (h.2.block k hk h1 h2)⟩⟩
theorem BelowG.put4 {base g b : Nat} {w w' : World} (h : BelowG base g w w') (hb : b = g ∨ w.heap.size ≤ b) (hbb : base ≤ b) (k : Nat) (v0 v1 v2 v3 : Value) : BelowG base g w (put4 w' b k v0 v1 v2 v3) :=
  (((h.set hb hbb _ _).set hb hbb _ _).set hb hbb _ _).set hb hbb _ _
theorem BelowG.drew {base g : Nat} {w w' : World} (h : BelowG base g w w') : BelowG base g w w'.drew := ⟨h.1.drew, h.2.os, h.2.tape, h.2.output, h.2.size, h.2.block⟩

/-- All that is kept behind the exchange. -/
theorem swap4_all {w wd : World} {base g b n cap a : Nat} {t : List (Option Slt)} {x y : Slt} (hot : wd.ownsRow base 175 4 (.slice (some ⟨g, 0, none⟩) n cap) n (cellsP t)) (htl : t.length = n) (ha : a < n) (hbx : PBox wd b x) (hgb : g ≠ b) (hbg : base ≤ g) (hbb : base ≤ b) (hz : b < wd.heap.size) (hB : BelowG base g w wd) (hbw : w.heap.size ≤ b) (W : World)
    (hW : W = ((((((((wd.setCell ⟨g, a * 4, none⟩ (.int .u8 1)).setCell ⟨g, a * 4 + 1, none⟩ (.int .i64 x.num)).setCell ⟨g, a * 4 + 2, none⟩ (.int .i64 x.blk)).setCell ⟨g, a * 4 + 3, none⟩ (.int .i64 x.no)).setCell ⟨b, 0, none⟩ (.int .u8 1)).setCell ⟨b, 1, none⟩ (.int .i64 y.num)).setCell ⟨b, 2, none⟩ (.int .i64 y.blk)).setCell ⟨b, 3, none⟩ (.int .i64 y.no)).drew) :
    W.ownsRow base 175 4 (.slice (some ⟨g, 0, none⟩) n cap) n (cellsP (t.set a (some x))) ∧ PBox W b y ∧ BelowG base g w W ∧ b < W.heap.size := by
  obtain ⟨Z, hZ⟩ : ∃ Z, Z = put4 (put4 wd g (a * 4) (.int .u8 1) (.int .i64 x.num) (.int .i64 x.blk) (.int .i64 x.no)) b 0 (.int .u8 1) (.int .i64 y.num) (.int .i64 y.blk) (.int .i64 y.no) := ⟨_, rfl⟩
  have e : W = Z.drew := by
    rw [hW, hZ]
    simp only [put4, Nat.zero_add]
  have hP : PBox Z b y := by
    rw [hZ]
    exact pbox_put4 (x := x) (pbox_put4_other hbx hgb (a * 4) (.int .u8 1) (.int .i64 x.num) (.int .i64 x.blk) (.int .i64 x.no)) y
  have hz2 : b < Z.heap.size := by
    rw [hZ, put4_size, put4_size]; exact hz
  have hO : Z.ownsRow base 175 4 (.slice (some ⟨g, 0, none⟩) n cap) n (cellsP (t.set a (some x))) := by
    rw [hZ]
    exact own_put4_other (own_store4 x hot htl ha) hgb 0 (.int .u8 1) (.int .i64 y.num) (.int .i64 y.blk) (.int .i64 y.no)
  have hD : BelowG base g w Z := by
    rw [hZ]
    exact (hB.put4 (.inl rfl) hbg (a * 4) (.int .u8 1) (.int .i64 x.num) (.int .i64 x.blk) (.int .i64 x.no)).put4 (.inr hbw) hbb 0 (.int .u8 1) (.int .i64 y.num) (.int .i64 y.blk) (.int .i64 y.no)
  clear hZ hW
  subst e
  exact ⟨hO.drew, hP.below (Below.refl (b + 1) Z).drew (Nat.lt_succ_self b), hD.drew, hz2⟩
theorem pslots_next {W wx w' : World} {g k b : Nat} {y0 y1 y2 y3 x0 x1 x2 x3 : Option Value} (h : ((wx.cell? ⟨g, k, none⟩ = y0 ∧ wx.cell? ⟨g, k + 1, none⟩ = y1 ∧ wx.cell? ⟨g, k + 2, none⟩ = y2 ∧ wx.cell? ⟨g, k + 3, none⟩ = y3) ∧ (wx.cell? ⟨b, 0, none⟩ = x0 ∧ wx.cell? ⟨b, 1, none⟩ = x1 ∧ wx.cell? ⟨b, 2, none⟩ = x2 ∧ wx.cell? ⟨b, 3, none⟩ = x3)) ∧ Below W.heap.size W wx) (hb : Below wx.heap.size wx w') (hg : g < W.heap.size) (hbb : b < W.heap.size) : ((w'.cell? ⟨g, k, none⟩ = y0 ∧ w'.cell? ⟨g, k + 1, none⟩ = y1 ∧ w'.cell? ⟨g, k + 2, none⟩ = y2 ∧ w'.cell? ⟨g, k + 3, none⟩ = y3) ∧ (w'.cell? ⟨b, 0, none⟩ = x0 ∧ w'.cell? ⟨b, 1, none⟩ = x1 ∧ w'.cell? ⟨b, 2, none⟩ = x2 ∧ w'.cell? ⟨b, 3, none⟩ = x3)) ∧ Below W.heap.size W w' := by
  obtain ⟨⟨⟨h0, h1, h2, h3⟩, g0, g1, g2, g3⟩, hB⟩ := h
  have hg' : g < wx.heap.size := Nat.lt_of_lt_of_le hg hB.size
  have hb' : b < wx.heap.size := Nat.lt_of_lt_of_le hbb hB.size
  exact ⟨⟨⟨(hb.cell (p := ⟨g, k, none⟩) hg').trans h0, (hb.cell (p := ⟨g, k + 1, none⟩) hg').trans h1, (hb.cell (p := ⟨g, k + 2, none⟩) hg').trans h2, (hb.cell (p := ⟨g, k + 3, none⟩) hg').trans h3⟩, (hb.cell (p := ⟨b, 0, none⟩) hb').trans g0, (hb.cell (p := ⟨b, 1, none⟩) hb').trans g1, (hb.cell (p := ⟨b, 2, none⟩) hb').trans g2, (hb.cell (p := ⟨b, 3, none⟩) hb').trans g3⟩, hB.trans (hb.mono hB.size)⟩

set_option maxRecDepth 100000 in
set_option maxHeartbeats 3200000 in
theorem put_any (g n cap base e : Nat) (t : List (Option Slt)) (x0 : Slt) (w : World) (hown : w.ownsRow base 175 4 (.slice (some ⟨g, 0, none⟩) n cap) n (cellsP t)) (hbg : base ≤ g) (hgw : g < w.heap.size) (htl0 : t.length = n) (hn : n ≤ 5000) (hef : e < n) (hfree : t[e]? = some none) (hnum : ∀ y : Slt, some y ∈ t → y.num < 4294967296) (hx0 : x0.num < 4294967296) :
    Calls Tryz.prog 92 #[.slice (some ⟨g, 0, none⟩) n cap, .agg #[.int .u8 1, .int .i64 x0.num, .int .i64 x0.blk, .int .i64 x0.no]] w fun e w' => e = .returned (.tuple #[]) ∧ w'.ownsRow base 175 4 (.slice (some ⟨g, 0, none⟩) n cap) n (cellsP (putL t x0)) ∧ BelowG base g w w' := by
  have hmod : (x0.num : Int) % (n : Int) = ((x0.num % n : Nat) : Int) := by simp
  have htm : (x0.num : Int).tmod (n : Int) = ((x0.num % n : Nat) : Int) := rfl
  have hNs : x0.num % n < n := Nat.mod_lt _ (by omega)
  have hsne : ¬ n = 0 := by omega
  have HPL : Hid (putL t x0 = putF n t x0 (x0.num % n)) := by show _ = _; rw [putL, htl0]
  have HFREE : Hid (t[e]? = some none) := hfree
  have HBX : Hid (PBox (w.alloc (.cells #[.int .u8 1, .int .i64 (x0.num : Int), .int .i64 (x0.blk : Int), .int .i64 (x0.no : Int)] 175)) w.heap.size x0) := ⟨⟨by simp, by simp, by simp, by simp⟩, fun i => by simp⟩
  generalize x0.num % n = q at *
  clear hfree
  go_enter Tryz.func92, Tryz.ntmps92
  go_wp2
  go_loopw [4] (fun ai wx => ∃ (a f : Nat) (t' : List (Option Slt)) (x : Slt), ai = .int .i64 a ∧ (a < n ∧ t'.length = n ∧ gap n e a < f) ∧ (x.num < 4294967296 ∧ ∀ y : Slt, some y ∈ t' → y.num < 4294967296) ∧ Hid (t'[e]? = some none) ∧ Hid (putL t x0 = putF f t' x a) ∧ wx.ownsRow base 175 4 (.slice (some ⟨g, 0, none⟩) n cap) n (cellsP t') ∧ PBox wx w.heap.size x ∧ BelowG base g w wx ∧ w.heap.size < wx.heap.size) (fun ai _ => gap n e (intOf ai).toNat)
  case atStart => exact ⟨q, n, t, x0, rfl, ⟨hNs, htl0, gap_lt (by omega)⟩, ⟨hx0, hnum⟩, HFREE, HPL, hown.alloc _, HBX.out, ⟨(Below.refl _ _).alloc (by omega) _, (Turn2.refl _ _ _).alloc _⟩, by simp⟩
  case round =>
    obtain ⟨a, f, t', x, rfl, ⟨ha, htl, hgp⟩, ⟨hxn, hyn⟩, HE, HT, hot, hbx, hBx, hzx⟩ := hrel
    obtain ⟨wx, rfl⟩ : ∃ wx, wx = wr := ⟨_, rfl⟩
    obtain ⟨f', rfl⟩ : ∃ f', f = f' + 1 := ⟨f - 1, by omega⟩
    clear HFREE HPL HBX hown hnum
    have hta : t'[a]? = some t'[a] := List.getElem?_eq_getElem (by omega)
    obtain ⟨⟨b0, b1, b2, b3⟩, bf⟩ := hbx
    have HBOX : Hid (PBox wx w.heap.size x) := ⟨⟨b0, b1, b2, b3⟩, bf⟩
    obtain ⟨z0, z1, z2, z3⟩ := pslot_at hot hta ha
    have g0 := hot.frozenAt (a * 4)
    have g1 := hot.frozenAt (a * 4 + 1)
    have g2 := hot.frozenAt (a * 4 + 2)
    have g3 := hot.frozenAt (a * 4 + 3)
    have n1 : g ≠ w.heap.size := by omega
    have n2 : w.heap.size ≠ g := by omega
    have HOT : Hid (wx.ownsRow base 175 4 (.slice (some ⟨g, 0, none⟩) n cap) n (cellsP t')) := hot
    clear hot
    cases hy : t'[a] with
    | none =>
      rw [hy] at hta z0 z1 z2 z3
      simp only [sltP, List.getElem?_cons_zero, List.getElem?_cons_succ] at z0 z1 z2 z3
      have HT2 : Hid (putL t x0 = t'.set a (some x)) := by
        show _ = _
        rw [HT.out, putF, hta]
      clear HT HE hta hy hyn
      go_wp2
      refine bodyPost_end (v := .tuple #[]) ?_ rfl ⟨rfl, by rw [HT2.out]; exact own_store4 x HOT.out htl ha, hBx.put4 (.inl rfl) hbg (a * 4) _ _ _ _⟩
      simp [results, Tryz.results92, go_sem]
    | some y =>
      have hym : y.num < 4294967296 := hyn y (List.mem_of_getElem? (by rw [hta, hy]))
      rw [hy] at hta z0 z1 z2 z3
      simp only [sltP, List.getElem?_cons_zero, List.getElem?_cons_succ] at z0 z1 z2 z3
      have hne : a ≠ e := by
        intro h
        subst h
        rw [HE.out] at hta
        cases hta
      have hstep := gap_step ha hef hne
      have hax : (a + 1) % n < n := Nat.mod_lt _ (by omega)
      have HT2 : Hid (putL t x0 = if awayN n y a < awayN n x a then putF f' (t'.set a (some x)) y ((a + 1) % n) else putF f' t' x ((a + 1) % n)) := by
        show _ = _
        rw [HT.out, putF, hta]
        simp only [htl]
      have HE2 : Hid ((t'.set a (some x))[e]? = some none) := by
        show _ = _
        rw [List.getElem?_set_ne hne]; exact HE.out
      have hmod2 : ((a : Int) + 1) % (n : Int) = (((a + 1) % n : Nat) : Int) := by simp
      have htm2 : ((a : Int) + 1).tmod (n : Int) = (((a + 1) % n : Nat) : Int) := rfl
      have HGP : Hid (gap n e ((a + 1) % n) < f') := by show _ < _; omega
      have HGM : Hid (gap n e ((a + 1) % n) < gap n e a) := by show _ < _; omega
      have HYN : Hid (∀ z : Slt, some z ∈ t'.set a (some x) → z.num < 4294967296) := fun z hz => by
        rcases List.mem_or_eq_of_mem_set hz with h | h
        · exact hyn z h
        · cases h; exact hxn
      have HYN0 : Hid (∀ z : Slt, some z ∈ t' → z.num < 4294967296) := hyn
      generalize (a + 1) % n = q2 at *
      have HAY : Hid _ := awayP_any (some ⟨g, 0, none⟩) n cap 1 y a
      have HAX : Hid _ := awayP_any (some ⟨g, 0, none⟩) n cap 1 x a
      clear hstep hgp HT hy hyn hta hmod htm hNs
      generalize awayN n y a = ay at *
      generalize awayN n x a = ax at *
      have hgx : g < wx.heap.size := by omega
      go_wp2_with fail
      go_cut [27] (fun c wd => c = .bool (decide (ay < ax)) ∧ Below wx.heap.size wx wd)
      case first =>
        go_region_held3 (fun w' => ((w'.cell? ⟨g, a * 4, none⟩ = some (.int .u8 1) ∧ w'.cell? ⟨g, a * 4 + 1, none⟩ = some (.int .i64 y.num) ∧ w'.cell? ⟨g, a * 4 + 2, none⟩ = some (.int .i64 y.blk) ∧ w'.cell? ⟨g, a * 4 + 3, none⟩ = some (.int .i64 y.no)) ∧ (w'.cell? ⟨w.heap.size, 0, none⟩ = some (.int .u8 1) ∧ w'.cell? ⟨w.heap.size, 1, none⟩ = some (.int .i64 x.num) ∧ w'.cell? ⟨w.heap.size, 2, none⟩ = some (.int .i64 x.blk) ∧ w'.cell? ⟨w.heap.size, 3, none⟩ = some (.int .i64 x.no))) ∧ Below wx.heap.size wx w') (first | (exact ⟨⟨⟨z0, z1, z2, z3⟩, b0, b1, b2, b3⟩, (Below.refl _ _).drew⟩) | (assumption) | (exact pslots_next (by assumption) (by assumption) hgx hzx)) (first | (go_at_call_of 151 (Value.agg #[.int .u8 1, .int .i64 y.num, .int .i64 y.blk, .int .i64 y.no]); refine (HAY.out _ ha hn hym).mono ?_; rintro e w' ⟨rfl, hb4y⟩) | (go_at_call_of 151 (Value.agg #[.int .u8 1, .int .i64 x.num, .int .i64 x.blk, .int .i64 x.no]); refine (HAX.out _ ha hn hxn).mono ?_; rintro e w' ⟨rfl, hb4x⟩))
        all_goals
          go_wp2_with fail
          go_meet
          refine ⟨rfl, ?_⟩
          first | exact ((Below.refl _ _).drew.trans hb4y).trans (hb4x.mono hb4y.size) | exact ((Below.refl _ _).drew.trans hb4x).trans (hb4y.mono hb4x.size)
      case rest =>
        obtain ⟨rfl, hbd⟩ := hcut
        obtain ⟨wd, rfl⟩ : ∃ wd, wd = wc := ⟨_, rfl⟩
        have hszd := hbd.size
        have HOTD : Hid (wd.ownsRow base 175 4 (.slice (some ⟨g, 0, none⟩) n cap) n (cellsP t')) := own_below HOT.out hbd (Nat.le_refl _)
        have HBD : Hid (PBox wd w.heap.size x) := HBOX.out.below hbd hzx
        have HBB : Hid (BelowG base g w wd) := ⟨hBx.1.trans (hbd.mono (by omega)), hBx.2.trans (Turn2.of_below hbd)⟩
        replace z0 := (hbd.cell (p := ⟨g, a * 4, none⟩) hgx).trans z0
        replace z1 := (hbd.cell (p := ⟨g, a * 4 + 1, none⟩) hgx).trans z1
        replace z2 := (hbd.cell (p := ⟨g, a * 4 + 2, none⟩) hgx).trans z2
        replace z3 := (hbd.cell (p := ⟨g, a * 4 + 3, none⟩) hgx).trans z3
        replace g0 := (hbd.frozen (p := ⟨g, a * 4, none⟩) hgx).trans g0
        replace g1 := (hbd.frozen (p := ⟨g, a * 4 + 1, none⟩) hgx).trans g1
        replace g2 := (hbd.frozen (p := ⟨g, a * 4 + 2, none⟩) hgx).trans g2
        replace g3 := (hbd.frozen (p := ⟨g, a * 4 + 3, none⟩) hgx).trans g3
        clear b0 b1 b2 b3 bf HAY HAX HOT HBOX hBx
        obtain ⟨⟨b0, b1, b2, b3⟩, bf⟩ := HBD.out
        have v0 := bf 0
        have v1 := bf 1
        have v2 := bf 2
        have v3 := bf 3
        have hzd : w.heap.size < wd.heap.size := by omega
        clear bf hbd
        by_cases hlt : ay < ax
        · have hd : decide (ay < ax) = true := by simp; omega
          have HT3 : Hid (putL t x0 = putF f' (t'.set a (some x)) y q2) := by
            show _ = _
            rw [HT2.out, if_pos hlt]
          rw [hd]
          clear hd HT2 HE
          go_wp2_with fail
          go_region
          all_goals
            go_wp2
            go_roundw
            case rel =>
              exact ⟨q2, f', t'.set a (some x), y, by first | rfl | go_num, ⟨hax, by simp [htl], HGP.out⟩, ⟨hym, HYN.out⟩, HE2, HT3, swap4_all HOTD.out htl ha HBD.out n1 hbg (by omega) hzd HBB.out (Nat.le_refl _) _ rfl⟩
            case measure => simp [intOf]; exact HGM.out
        · have hd : decide (ay < ax) = false := by simp; omega
          have HT3 : Hid (putL t x0 = putF f' t' x q2) := by
            show _ = _
            rw [HT2.out, if_neg hlt]
          rw [hd]
          clear hd HT2 HE2
          go_wp2
          go_roundw
          case rel => exact ⟨q2, f', t', x, by first | rfl | go_num, ⟨hax, htl, HGP.out⟩, ⟨hxn, HYN0.out⟩, HE, HT3, HOTD.out, HBD.out, HBB.out, hzd⟩
          case measure => simp [intOf]; exact HGM.out
end Go.Proofs.YtdhgebdbiehchaaGreatDoor
namespace Go.Proofs.YtdhgebdbiehchaaGreatDoor
open Go.RowKit
set_option linter.unusedSimpArgs false
set_option linter.unusedVariables false

set_option maxHeartbeats 1600000 in
theorem appendLow_lit (g : Nat) (l : List UInt8) (n : Int) (k : Nat) (w : World) (base : Nat) (hn : 0 ≤ n) (hn' : n ≤ 9223372036854775807) (hk : k ≤ 8) (hk1 : 1 ≤ k)
    (hc : ∀ j u, (cellsB l)[j]? = some u → w.cell? ⟨g, j, none⟩ = some u) (hg : g < w.heap.size) (hbase : base ≤ w.heap.size) (hl : l.length ≤ 1000) :
    Calls Tryz.prog 129 #[.slice (some ⟨g, 0, none⟩) l.length l.length, .int .i64 n, .int .i64 k] w fun e w' => ∃ v', e = .returned v' ∧ w'.ownsRow base 5 1 v' (l.length + k) (cellsB (l ++ lowL n.toNat k)) ∧ Below base w w' := by
  obtain ⟨i0, hi, hz0, hz1, hz2⟩ := info_parts info_u8
  have HC : Hid (∀ j u, (cellsB l)[j]? = some u → w.cell? ⟨g, j, none⟩ = some u) := hc
  clear hc
  go_enter Tryz.func129, Tryz.ntmps129
  go_wp2
  go_loopw [0, 9] (fun m i wr => ∃ (j : Nat), j ≤ k ∧ i = .int .i64 j ∧ ((j = 0 ∧ m = .slice (some ⟨g, 0, none⟩) l.length l.length ∧ wr = w) ∨ (1 ≤ j ∧ wr.ownsRow base 5 1 m (l.length + j) (cellsB (l ++ lowL n.toNat j)))) ∧ Below base w wr) (fun _ i _ => k - (intOf i).toNat)
  case atStart => exact ⟨0, Nat.zero_le _, rfl, .inl ⟨rfl, rfl, rfl⟩, Below.refl _ _⟩
  case round =>
    obtain ⟨j, hj, rfl, ho, hb⟩ := hrel
    rcases ho with ⟨rfl, rfl, rfl⟩ | ⟨hj1, ho⟩
    · have hlt : 0 < k := hk1
      go_wp2_with (at_builtin; refine wpList_append_grows _ rfl (.tmp 12) (.tmp 18) 43 rfl 5 i0 (.int .u8 0) 1 1 Tryz.underlying43 hi hz0 hz1 hz2 rfl (by decide) (some ⟨g, 0, none⟩) l.length l.length (cellsB l) rfl (by intro h; cases h) ?c0 ?c6 ⟨wr.heap.size, 0, none⟩ 1 1 [.int .u8 (n % 256)] rfl rfl ?c1 ?c2 (Nat.lt_succ_self _) ?c3 ?c4 ?_)
      case c0 => simp [cellsB]
      case c6 =>
        intro b hb j u hu
        cases hb
        have := HC.out j u hu
        rw [Addr.add_lit]
        simp only [Nat.zero_add]
        exact (World.cell?_of_block (w := wr) (Below.heap_alloc wr _ g hg)).trans this
      case c1 => exact cell_one_new _ _ _
      case c2 => intro u hu; simp at hu; subst hu; rfl
      case c3 => unfold maxLen; omega
      case c4 => omega
      intro v' w1 hown' hgrow
      go_wp2
      go_roundw
      case rel =>
        refine ⟨1, by omega, by go_num, .inr ⟨Nat.le_refl _, ?_⟩, ?_⟩
        · have e0 : IntKind.u8.wrap (n / 2 ^ (8 * ((0 : Nat) : Int)).toNat) = n % 256 := by rw [IntKind.wrap_u8]; simp
          have e1 := cells_snoc hn l 0
          rw [e0] at e1
          rw [← e1]
          have h3 := Joins.ownsRow_le (base' := base) hown' (by omega)
          simpa [lowL] using h3
        · exact (hb.alloc (by omega) _).grown hgrow (by simp; omega) (fun k e => by cases e)
      case measure => simp [intOf]; omega
    · by_cases hlt : j < k
      · have h8 : (0 : Int) ≤ 8 * (j : Int) := by omega
        have h9 : 8 * (j : Int) ≤ 64 := by omega
        go_wp2_with (at_builtin; refine wpList_append_own _ rfl (.tmp 12) (.tmp 18) 43 rfl base 5 i0 (.int .u8 0) 1 1 Tryz.underlying43 hi hz0 hz1 hz2 rfl (by decide) _ _ _ rfl (ho.alloc _) ⟨wr.heap.size, 0, none⟩ 1 1 [.int .u8 (IntKind.u8.wrap (n / 2 ^ (8 * (j : Int)).toNat))] rfl rfl ?c1 ?c2 ?c3 ?c4 ?c5 ?_)
        case c1 => exact cell_one_new _ _ _
        case c2 => intro u hu; simp at hu; subst hu; rfl
        case c3 => unfold maxLen; omega
        case c4 => omega
        case c5 => have := hb.size; simp; omega
        intro v' w1 hown' hgrow _
        clear h8 h9
        go_wp2
        go_roundw
        case rel =>
          refine ⟨j + 1, by omega, by go_num, .inr ⟨by omega, ?_⟩, ?_⟩
          · rw [← cells_snoc hn]; exact hown'
          · exact (hb.alloc (by have := hb.size; omega) _).grown hgrow (by have := hb.size; simp; omega) (own_ge ho)
        case measure => simp [intOf]; omega
      · have hjk : j = k := by omega
        subst hjk
        go_wp2
        go_ret
        exact ⟨_, rfl, ho, hb⟩
end Go.Proofs.YtdhgebdbiehchaaGreatDoor
namespace Go.Proofs.YtdhgebdbiehchaaGreatDoor
open Go.RowKit
set_option linter.unusedSimpArgs false
set_option linter.unusedVariables false

/-- The five cells of a box. -/
def Cells5 (w : World) (b : Nat) (a1 a2 a3 a4 a5 : Nat) : Prop := w.cell? ⟨b, 0, none⟩ = some (.int .i64 a1) ∧ w.cell? ⟨b, 1, none⟩ = some (.int .i64 a2) ∧ w.cell? ⟨b, 2, none⟩ = some (.int .i64 a3) ∧ w.cell? ⟨b, 3, none⟩ = some (.int .i64 a4) ∧ w.cell? ⟨b, 4, none⟩ = some (.int .i64 a5)
theorem Cells5.below {w w' : World} {b n a1 a2 a3 a4 a5 : Nat} (h : Cells5 w b a1 a2 a3 a4 a5) (hb : Below n w w') (hn : b < n) : Cells5 w' b a1 a2 a3 a4 a5 :=
  ⟨(hb.cell (p := ⟨b, 0, none⟩) hn).trans h.1, (hb.cell (p := ⟨b, 1, none⟩) hn).trans h.2.1, (hb.cell (p := ⟨b, 2, none⟩) hn).trans h.2.2.1, (hb.cell (p := ⟨b, 3, none⟩) hn).trans h.2.2.2.1, (hb.cell (p := ⟨b, 4, none⟩) hn).trans h.2.2.2.2⟩

set_option maxRecDepth 100000 in
set_option maxHeartbeats 1600000 in
theorem frontBytes_any (a1 a2 a3 a4 a5 : Nat) (w : World) (h1 : a1 < 4294967296) (h2 : a2 < 4294967296) (h3 : a3 < 4294967296) (h4 : a4 < 4294967296) (h5 : a5 < 4294967296) (hH : HalvesAt w) :
    Calls Tryz.prog 97 #[.agg #[.int .i64 a1, .int .i64 a2, .int .i64 a3, .int .i64 a4, .int .i64 a5]] w fun e w' => ∃ v', e = .returned v' ∧ w'.ownsRow w.heap.size 5 1 v' (sealL (frontB a1 a2 a3 a4 a5)).length (cellsB (sealL (frontB a1 a2 a3 a4 a5))) ∧ Below w.heap.size w w' := by
  have HH : Hid (HalvesAt w) := hH
  clear hH
  have hcv := Joins.run_convert_bytes_const_at (P := Tryz.prog) (w.alloc (.cells #[.int .i64 (a1 : Int), .int .i64 (a2 : Int), .int .i64 (a3 : Int), .int .i64 (a4 : Int), .int .i64 (a5 : Int)] 139)) 43 5 #[.int .u8 73, .int .u8 88] 2 2 (w.heap.size + 1) (by simp) Tryz.underlying43 Tryz.underlying5
  go_enter Tryz.func97, Tryz.ntmps97
  go_wp2_with fail
  clear hcv
  obtain ⟨W, hW⟩ : ∃ W, W = (w.alloc (.cells #[.int .i64 (a1 : Int), .int .i64 (a2 : Int), .int .i64 (a3 : Int), .int .i64 (a4 : Int), .int .i64 (a5 : Int)] 139)).alloc (.cells #[.int .u8 73, .int .u8 88] 5 (2, 3)) := ⟨_, rfl⟩
  have hc : Cells5 W w.heap.size a1 a2 a3 a4 a5 := by rw [hW]; exact ⟨by simp, by simp, by simp, by simp, by simp⟩
  have hz : W.heap.size = w.heap.size + 1 + 1 := by rw [hW]; simp
  have hl : ∀ j u, (cellsB [73, 88])[j]? = some u → W.cell? ⟨w.heap.size + 1, j, none⟩ = some u := by
    intro j u hu
    rw [hW, Joins.cell_alloc_mark_at _ _ _ _ _ _ (by simp)]
    have e : cellsB [73, 88] = [.int .u8 73, .int .u8 88] := rfl
    rw [e] at hu
    simpa using hu
  have hB : Below w.heap.size w W := by rw [hW]; exact ((Below.refl _ _).alloc (Nat.le_refl _) _).alloc (by simp) _
  rw [← hW]
  have HA : Hid _ := appendLow_lit (w.heap.size + 1) [73, 88] (a1 : Int) 2 W (w.heap.size + 1 + 1) (by omega) (by omega) (by omega) (by omega) hl (by omega) (by omega) (by simp)
  clear hW hl
  refine Calls.mono HA.out ?_
  rintro e w1 ⟨v1, rfl, r1, b1⟩
  rw [Int.toNat_natCast, show ([73, 88] : List UInt8).length + 2 = ([73, 88] ++ lowL a1 2).length by simp [lowL_length]] at r1
  have hB1 : Below w.heap.size w w1 := hB.trans (b1.mono (by omega))
  have c1 := hc.below b1 (by omega)
  have z1 := b1.size
  obtain ⟨_, k1, _, _, _⟩ := c1
  have HA1 : Hid _ := appendLow_any v1 _ (a2 : Int) 2 w1 (w.heap.size + 1 + 1) (by omega) (by omega) (by omega) r1 (by omega) (by simp [lowL_length])
  clear HA r1
  go_wp2_with fail
  refine Calls.mono HA1.out ?_
  rintro e w2 ⟨v2, rfl, r2, b2⟩
  rw [Int.toNat_natCast, show ([73, 88] ++ lowL a1 2 : List UInt8).length + 2 = ([73, 88] ++ lowL a1 2 ++ lowL a2 2).length by simp [lowL_length]] at r2
  have hB2 : Below w.heap.size w w2 := hB1.trans (b2.mono (by omega))
  have c2 := (hc.below b1 (by omega)).below b2 (by omega)
  have z2 := b2.size
  obtain ⟨_, _, k2, _, _⟩ := c2
  have HA2 : Hid _ := appendLow_any v2 _ (a3 : Int) 2 w2 (w.heap.size + 1 + 1) (by omega) (by omega) (by omega) r2 (by omega) (by simp [lowL_length])
  clear HA1 r2 k1
  go_wp2_with fail
  refine Calls.mono HA2.out ?_
  rintro e w3 ⟨v3, rfl, r3, b3⟩
  rw [Int.toNat_natCast, show ([73, 88] ++ lowL a1 2 ++ lowL a2 2 : List UInt8).length + 2 = ([73, 88] ++ lowL a1 2 ++ lowL a2 2 ++ lowL a3 2).length by simp [lowL_length]] at r3
  have hB3 : Below w.heap.size w w3 := hB2.trans (b3.mono (by omega))
  have c3 := ((hc.below b1 (by omega)).below b2 (by omega)).below b3 (by omega)
  have z3 := b3.size
  obtain ⟨_, _, _, k3, _⟩ := c3
  have HA3 : Hid _ := appendLow_any v3 _ (a4 : Int) 4 w3 (w.heap.size + 1 + 1) (by omega) (by omega) (by omega) r3 (by omega) (by simp [lowL_length])
  clear HA2 r3 k2
  go_wp2_with fail
  refine Calls.mono HA3.out ?_
  rintro e w4 ⟨v4, rfl, r4, b4⟩
  rw [Int.toNat_natCast, show ([73, 88] ++ lowL a1 2 ++ lowL a2 2 ++ lowL a3 2 : List UInt8).length + 4 = ([73, 88] ++ lowL a1 2 ++ lowL a2 2 ++ lowL a3 2 ++ lowL a4 4).length by simp [lowL_length]] at r4
  have hB4 : Below w.heap.size w w4 := hB3.trans (b4.mono (by omega))
  have c4 := (((hc.below b1 (by omega)).below b2 (by omega)).below b3 (by omega)).below b4 (by omega)
  have z4 := b4.size
  obtain ⟨_, _, _, _, k4⟩ := c4
  have HA4 : Hid _ := appendLow_any v4 _ (a5 : Int) 4 w4 (w.heap.size + 1 + 1) (by omega) (by omega) (by omega) r4 (by omega) (by simp [lowL_length])
  clear HA3 r4 k3
  go_wp2_with fail
  refine Calls.mono HA4.out ?_
  rintro e w5 ⟨v5, rfl, r5, b5⟩
  rw [Int.toNat_natCast, show ([73, 88] ++ lowL a1 2 ++ lowL a2 2 ++ lowL a3 2 ++ lowL a4 4 : List UInt8).length + 4 = (frontB a1 a2 a3 a4 a5).length by simp [lowL_length, frontB]] at r5
  have hB5 : Below w.heap.size w w5 := hB4.trans (b5.mono (by omega))
  have z5 := b5.size
  have HS : Hid _ := seal_any v5 (frontB a1 a2 a3 a4 a5) (w.heap.size + 1 + 1) w5 r5 (by omega) (by rw [frontB_length]; omega) (HH.out.below hB5 HH.out.1)
  clear HA4 r5 k4
  go_wp2_with fail
  refine Calls.mono HS.out ?_
  rintro e w6 ⟨v6, rfl, r6, b6⟩
  have HR6 : Hid (w6.ownsRow (w.heap.size + 1 + 1) 5 1 v6 (sealL (frontB a1 a2 a3 a4 a5)).length (cellsB (sealL (frontB a1 a2 a3 a4 a5)))) := r6
  clear r6 HS
  go_wp2
  go_ret
  exact ⟨_, rfl, Joins.ownsRow_le HR6.out (by omega), hB5.trans (b6.mono (by omega))⟩
end Go.Proofs.YtdhgebdbiehchaaGreatDoor
namespace Go.Proofs.YtdhgebdbiehchaaGreatDoor
open Go.RowKit Go.Maps
set_option linter.unusedSimpArgs false
set_option linter.unusedVariables false

theorem info_pslot : ∃ i, Tryz.prog.info? 175 = some i ∧ i.zero = some (.agg #[.int .u8 0, .int .i64 0, .int .i64 0, .int .i64 0]) ∧ i.size = 4 ∧ i.bytes = 32 := by
  have h : ((Tryz.prog.info? 175).bind fun i => if i.size = 4 ∧ i.bytes = 32 then i.zero else none) = some (.agg #[.int .u8 0, .int .i64 0, .int .i64 0, .int .i64 0]) := by kernel_rfl
  cases hi : Tryz.prog.info? 175 with
  | none => rw [hi] at h; cases h
  | some i =>
    rw [hi] at h
    simp only [Option.bind_some] at h
    split at h
    · rename_i hc; exact ⟨i, rfl, h, hc.1, hc.2⟩
    · cases h
theorem Maps2.below {W W' : World} {bi bp n k : Nat} {L : List Sd} (h : Maps2 W bi bp n L) (hb : Below k W W') (h1 : bi < k) (h2 : bp < k) : Maps2 W' bi bp n L := by
  obtain ⟨DI, DP, ⟨⟨es, ck, hb1, r1⟩, h4, h5⟩, ⟨es', ck', hb2, r2⟩, h7⟩ := h
  exact ⟨DI, DP, ⟨⟨es, ck, (hb.block bi h1).trans hb1, r1⟩, h4, h5⟩, ⟨es', ck', (hb.block bp h2).trans hb2, r2⟩, h7⟩
theorem Maps2.drew {W : World} {bi bp n : Nat} {L : List Sd} (h : Maps2 W bi bp n L) : Maps2 W.drew bi bp n L := h
theorem own_belowK {W W' : World} {base e size n k : Nat} {v : Value} {xs : List Value} (h : W.ownsRow base e size v n xs) (hb : Below k W W') (hk : W.heap.size ≤ k) : W'.ownsRow base e size v n xs := by
  refine ⟨h.1, ?_⟩
  rcases h.2 with h0 | ⟨g, cap, cur, e1, h1, h2, r⟩
  · exact .inl h0
  · exact .inr ⟨g, cap, cur, e1, h1, (hb.block g (Nat.lt_of_lt_of_le (Array.getElem?_eq_some_iff.1 h2).1 hk)).trans h2, r⟩
theorem own_low {W W' : World} {base e size n k : Nat} {v : Value} {xs : List Value} (h : W.ownsRow base e size v n xs) (hb : Below k W W') (hk : ∀ g, v.ownBlock = some g → g < k) : W'.ownsRow base e size v n xs := by
  refine ⟨h.1, ?_⟩
  rcases h.2 with h0 | ⟨g, cap, cur, e1, h1, h2, r⟩
  · exact .inl h0
  · exact .inr ⟨g, cap, cur, e1, h1, (hb.block g (hk g (by rw [e1]; rfl))).trans h2, r⟩
theorem own_lt {W : World} {base e size n : Nat} {v : Value} {xs : List Value} (h : W.ownsRow base e size v n xs) : ∀ g, v.ownBlock = some g → g < W.heap.size := fun g hg => by
  rcases h.2 with ⟨rfl, _⟩ | ⟨g', cap, cur, rfl, _, h2, _⟩
  · simp [Value.ownBlock] at hg
  · have : g' = g := by simpa [Value.ownBlock] using hg
    subst this; exact (Array.getElem?_eq_some_iff.1 h2).1
theorem num_lt (seed bits : Int) (key : List UInt8) (h0 : 0 ≤ bits) (h1 : bits ≤ 32) : (numberI seed bits key).toNat < 4294967296 := by
  have := numberI_range seed bits key h0 h1; omega

theorem cellsQ_get {L : List Sd} {k : Nat} (h : k < L.length) : (cellsQ L)[k * 2]? = some (.int .i64 L[k].blk) ∧ (cellsQ L)[k * 2 + 1]? = some (.int .i64 L[k].no) := by
  have h0 := cellsQ_at L (k * 2) (by omega)
  have h1 := cellsQ_at L (k * 2 + 1) (by omega)
  have e0 : k * 2 / 2 = k := by omega
  have e1 : (k * 2 + 1) / 2 = k := by omega
  have e2 : k * 2 % 2 = 0 := by omega
  have e3 : (k * 2 + 1) % 2 = 1 := by omega
  simp only [e0, e2] at h0
  simp only [e1, e3] at h1
  exact ⟨h0, h1⟩
theorem fieldIt (a b : ByteArray) (w : World) : (Instr.field 54 (.agg #[.string a, .string b]) 0).run Tryz.prog w = .ok (.string a) w := by kernel_rfl
/-- What the region of a round leans on. -/
def MkS (W1 : World) (b r : Nat) (blk seed bits bi bp pb pn : Nat) (w' : World) : Prop :=
  (w'.cell? ⟨b, 0, none⟩ = some (.int .i64 blk) ∧ w'.cell? ⟨b, 1, none⟩ = some (.int .i64 seed) ∧ w'.cell? ⟨b, 2, none⟩ = some (.int .i64 bits) ∧ w'.cell? ⟨b, 3, none⟩ = some (.map (some bi)) ∧ w'.cell? ⟨b, 4, none⟩ = some (.map (some bp))) ∧
  (w'.cell? ⟨r, 0, none⟩ = some (.int .i64 pb) ∧ w'.cell? ⟨r, 1, none⟩ = some (.int .i64 pn)) ∧ Below W1.heap.size W1 w' ∧ r < w'.heap.size
theorem MkS.below {W1 wx w' : World} {b r blk seed bits bi bp pb pn : Nat} (h : MkS W1 b r blk seed bits bi bp pb pn wx) (hb : Below wx.heap.size wx w') (h1 : b < W1.heap.size) : MkS W1 b r blk seed bits bi bp pb pn w' := by
  obtain ⟨⟨c0, c1, c2, c3, c4⟩, ⟨p0, p1⟩, hB, hr⟩ := h
  have hbx : b < wx.heap.size := Nat.lt_of_lt_of_le h1 hB.size
  exact ⟨⟨(hb.cell (p := ⟨b, 0, none⟩) hbx).trans c0, (hb.cell (p := ⟨b, 1, none⟩) hbx).trans c1, (hb.cell (p := ⟨b, 2, none⟩) hbx).trans c2, (hb.cell (p := ⟨b, 3, none⟩) hbx).trans c3, (hb.cell (p := ⟨b, 4, none⟩) hbx).trans c4⟩,
    ⟨(hb.cell (p := ⟨r, 0, none⟩) hr).trans p0, (hb.cell (p := ⟨r, 1, none⟩) hr).trans p1⟩, hB.trans (hb.mono hB.size), Nat.lt_of_lt_of_le hr hb.size⟩
theorem MkS.turn {W1 wx w' : World} {b r blk seed bits bi bp pb pn : Nat} (h : MkS W1 b r blk seed bits bi bp pb pn wx) (hb : BelowG W1.heap.size W1.heap.size wx w') (h1 : b < W1.heap.size) (h2 : r ≠ W1.heap.size) : MkS W1 b r blk seed bits bi bp pb pn w' := by
  obtain ⟨⟨c0, c1, c2, c3, c4⟩, ⟨p0, p1⟩, hB, hr⟩ := h
  obtain ⟨hb, ht⟩ := hb
  exact ⟨⟨(hb.cell (p := ⟨b, 0, none⟩) h1).trans c0, (hb.cell (p := ⟨b, 1, none⟩) h1).trans c1, (hb.cell (p := ⟨b, 2, none⟩) h1).trans c2, (hb.cell (p := ⟨b, 3, none⟩) h1).trans c3, (hb.cell (p := ⟨b, 4, none⟩) h1).trans c4⟩,
    ⟨(ht.cell (p := ⟨r, 0, none⟩) hr h2 h2).trans p0, (ht.cell (p := ⟨r, 1, none⟩) hr h2 h2).trans p1⟩, hB.trans hb, Nat.lt_of_lt_of_le hr hb.size⟩

set_option maxRecDepth 100000 in
set_option maxHeartbeats 3200000 in
theorem make_any (log : ByteArray) (blk seed bits : Nat) (bi bp nn : Nat) (L : List Sd) (w : World) (hm : Maps2 w bi bp nn L) (hL : Lives L) (hlen : L.length ≤ 2000) (hx : ∀ x ∈ L, x.key.length ≤ 20 ∧ x.blk ≤ 100000 ∧ x.no ≤ 255) (hseed : seed ≤ 4294967295) (hbits : bits ≤ 32) (hlog : log.size ≤ 100000) (hH : HalvesAt w) :
    Calls Tryz.prog 52 #[.string log, .agg #[.int .i64 blk, .int .i64 seed, .int .i64 bits, .map (some bi), .map (some bp)]] w fun e w' => e = .returned (.string (S (indexB log.data.toList seed bits L))) ∧ Below w.heap.size w w' := by
  obtain ⟨i0, hi, hz0, hz1, hz2⟩ := info_pslot
  obtain ⟨hbi, hbp⟩ := hm.lt
  have hn1 := sizeL_bound hlen
  have hn2 : L.length < sizeL L.length := by have := sizeL_big hlen; omega
  have HM : Hid (Maps2 w bi bp nn L) := hm
  have HL : Hid (Lives L) := hL
  have HX : Hid (∀ x ∈ L, x.key.length ≤ 20 ∧ x.blk ≤ 100000 ∧ x.no ≤ 255) := hx
  have HH : Hid (HalvesAt w) := hH
  have HPL : Hid (∀ wx, Maps2 wx bi bp nn L → _) := fun wx h => places_any blk seed bits bi bp nn L wx h hL (by omega)
  have HSF : Hid (∀ wx, _) := fun wx => sizeFor_any L.length wx hlen
  have HIX : Hid (indexB log.data.toList seed bits L = sealL (frontB L.length (sizeL L.length) (farP (sizeL L.length) (fillL (sizeL L.length) (L.map (sltOf seed bits))) (sizeL L.length)) log.data.toList.length (sumI log.data.toList).toNat) ++ sealL (tabB (fillL (sizeL L.length) (L.map (sltOf seed bits))))) := rfl
  generalize sizeL L.length = n at *
  generalize indexB log.data.toList seed bits L = IX at *
  clear hm hL hx hH
  go_enter Tryz.func52, Tryz.ntmps52
  go_wp2_with fail
  refine Calls.mono (HPL.out _ (HM.out.alloc _)) ?_
  rintro e w1 ⟨a, cap, rfl, hr1, hb1⟩
  have HR1 : Hid _ := hr1
  clear hr1 HPL
  go_wp2_with fail
  refine Calls.mono (HSF.out _) ?_
  rintro e W1 ⟨rfl, rfl⟩
  clear HSF
  have hB1 : Below w.heap.size w W1 := ((Below.refl _ _).alloc (Nat.le_refl _) _).trans (hb1.mono (by simp))
  have z1 : w.heap.size < W1.heap.size := by have := hb1.size; simp at this; omega
  have q0 : W1.cell? ⟨w.heap.size, 0, none⟩ = some (.int .i64 blk) := by rw [hb1.cell (p := ⟨w.heap.size, 0, none⟩) (by simp)]; simp
  have q1 : W1.cell? ⟨w.heap.size, 1, none⟩ = some (.int .i64 seed) := by rw [hb1.cell (p := ⟨w.heap.size, 1, none⟩) (by simp)]; simp
  have q2 : W1.cell? ⟨w.heap.size, 2, none⟩ = some (.int .i64 bits) := by rw [hb1.cell (p := ⟨w.heap.size, 2, none⟩) (by simp)]; simp
  have q3 : W1.cell? ⟨w.heap.size, 3, none⟩ = some (.map (some bi)) := by rw [hb1.cell (p := ⟨w.heap.size, 3, none⟩) (by simp)]; simp
  have q4 : W1.cell? ⟨w.heap.size, 4, none⟩ = some (.map (some bp)) := by rw [hb1.cell (p := ⟨w.heap.size, 4, none⟩) (by simp)]; simp
  have HM1 : Hid (Maps2 W1 bi bp nn L) := HM.out.below hB1 hbi hbp
  go_wp2_with (at_make; refine wpList_make_full _ rfl (.tmp 14) (.tmp 14) 169 rfl W1.heap.size 175 i0 (.agg #[.int .u8 0, .int .i64 0, .int .i64 0, .int .i64 0]) 4 Tryz.underlying169 hi hz0 hz1 .i64 .i64 _ _ n rfl rfl rfl rfl ?_ ?_ ?_ ?_)
  · first | omega | (rw [hz2]; omega)
  · unfold maxLen; omega
  · exact Nat.le_refl _
  intro w3 hown3 hgr
  have hB3 : Below W1.heap.size W1 w3 := Below.grown (Below.refl _ _) hgr (Nat.le_refl _) (fun k e => by cases e)
  have hown4 : w3.ownsRow W1.heap.size 175 4 (.slice (some ⟨W1.heap.size, 0, none⟩) n n) n (cellsP (fillL n (([] : List Sd).map (sltOf seed bits)))) := by
    rw [made4 n] at hown3
    simpa [fillL] using hown3
  have HO4 : Hid _ := hown4
  clear hown3 hown4 hgr
  go_wp2
  go_loopw [18] (fun i wr => ∃ k : Nat, k ≤ L.length ∧ i = .int .i64 k ∧ Hid (wr.ownsRow W1.heap.size 175 4 (.slice (some ⟨W1.heap.size, 0, none⟩) n n) n (cellsP (fillL n ((L.take k).map (sltOf seed bits))))) ∧ Below W1.heap.size W1 wr) (fun i _ => L.length - (intOf i).toNat)
  case atStart => exact ⟨0, Nat.zero_le _, rfl, by show World.ownsRow _ _ _ _ _ _ _; rw [List.take_zero]; exact HO4.out, hB3⟩
  case round =>
    obtain ⟨k, hk, rfl, HO, hB⟩ := hrel
    have zr := hB.size
    by_cases hlt : k < L.length
    · obtain ⟨g, c', he, hg0, hg1, hgc⟩ := own_cellsN HR1.out (by omega)
      simp only [Value.slice.injEq] at he
      obtain ⟨rfl, _, rfl⟩ := he
      have hq := cellsQ_get hlt
      have y0 := (hB.cell (p := ⟨g, k * 2, none⟩) hg1).trans ((hgc (k * 2) (by omega)).trans hq.1)
      have y1 := (hB.cell (p := ⟨g, k * 2 + 1, none⟩) hg1).trans ((hgc (k * 2 + 1) (by omega)).trans hq.2)
      have hrow := HO.out
      have hgr := own_lt hrow W1.heap.size rfl
      have hmem : L[k] ∈ L := List.getElem_mem _
      have hxx := HX.out _ hmem
      obtain ⟨e, hef, hfree⟩ := fillL_free (n := n) (xs := (L.take k).map (sltOf seed bits)) (by simp; omega)
      have HT : Hid (fillL n ((L.take (k + 1)).map (sltOf seed bits)) = putL (fillL n ((L.take k).map (sltOf seed bits))) (sltOf seed bits L[k])) := by
        show _ = _
        rw [List.take_succ_eq_append_getElem hlt, List.map_append, List.map_cons, List.map_nil, fillL_snoc]
      have hnum : ∀ y : Slt, some y ∈ fillL n ((L.take k).map (sltOf seed bits)) → y.num < 4294967296 := by
        intro y hy
        obtain ⟨p, hp⟩ := List.mem_iff_getElem?.1 hy
        have := ((fill_run (n := n) ((L.take k).map (sltOf seed bits)) (by simp; omega)).2 y).1 ⟨p, hp⟩
        obtain ⟨z, _, rfl⟩ := List.mem_map.1 this
        exact num_lt _ _ _ (by omega) (by omega)
      have HAT : Hid (∀ wx, Maps2 wx bi bp nn L → _) := fun wx h => at_any blk seed bits bi bp nn L L[k] wx h HL.out hmem
      have HNU : Hid (∀ wx, Calls Tryz.prog 93 #[.agg #[.int .i64 blk, .int .i64 seed, .int .i64 bits], .string (S L[k].key)] wx fun e w' => e = .returned (.int .i64 ((sltOf seed bits L[k]).num : Nat)) ∧ Below wx.heap.size wx w') := by
        intro wx
        refine (recNumber_any blk seed bits (S L[k].key) wx (by omega) (by omega) (by omega) (by omega) (by rw [S_size]; omega)).mono ?_
        rintro e w' ⟨rfl, hb⟩
        refine ⟨?_, hb⟩
        have := numberI_range seed bits L[k].key (by omega) (by omega)
        rw [S_data]
        refine ret_int ?_
        show _ = (((numberI seed bits L[k].key).toNat : Nat) : Int)
        omega
      have HPU : Hid (∀ wx : World, wx.ownsRow W1.heap.size 175 4 (.slice (some ⟨W1.heap.size, 0, none⟩) n n) n (cellsP (fillL n ((L.take k).map (sltOf seed bits)))) → W1.heap.size < wx.heap.size → _) := fun wx h1 h2 => put_any W1.heap.size n n W1.heap.size e _ (sltOf seed bits L[k]) wx h1 (Nat.le_refl _) h2 (fillL_length _ _) (by omega) hef hfree hnum (num_lt _ _ _ (by omega) (by omega))
      have eb : (sltOf seed bits L[k]).blk = L[k].blk := rfl
      have en : (sltOf seed bits L[k]).no = L[k].no := rfl
      rw [eb, en] at HPU
      clear hq hgc hmem hxx hfree hnum eb en hrow
      generalize L[k] = x at *
      obtain ⟨put, ky, vl, xb, xn⟩ := x
      dsimp only at *
      generalize (sltOf seed bits ⟨put, ky, vl, xb, xn⟩).num = sn at *
      have HBr : Hid (Below W1.heap.size W1 wr) := hB
      replace q0 := (hB.cell (p := ⟨w.heap.size, 0, none⟩) z1).trans q0
      replace q1 := (hB.cell (p := ⟨w.heap.size, 1, none⟩) z1).trans q1
      replace q2 := (hB.cell (p := ⟨w.heap.size, 2, none⟩) z1).trans q2
      replace q3 := (hB.cell (p := ⟨w.heap.size, 3, none⟩) z1).trans q3
      replace q4 := (hB.cell (p := ⟨w.heap.size, 4, none⟩) z1).trans q4
      have hne1 : w.heap.size ≠ wr.heap.size := by omega
      have hlt1 : w.heap.size < wr.heap.size := by omega
      have HMr : Hid (Maps2 wr bi bp nn L) := HM1.out.below hB (by omega) (by omega)
      have hrne : wr.heap.size ≠ W1.heap.size := by omega
      have hfd := fieldIt (S ky) (S vl)
      have HIN : Hid (∀ o : Obj, o = .cells #[.int .i64 (xb : Int), .int .i64 (xn : Int)] 165 → MkS W1 w.heap.size wr.heap.size blk seed bits bi bp xb xn (wr.alloc o).drew) := by
        rintro o rfl
        exact ⟨⟨(past_drew _ _ hlt1).trans q0, (past_drew _ _ hlt1).trans q1, (past_drew _ _ hlt1).trans q2, (past_drew _ _ hlt1).trans q3, (past_drew _ _ hlt1).trans q4⟩, ⟨by simp, by simp⟩, (hB.alloc zr _).drew, by simp⟩
      go_wp2_with fail
      go_region_held3 (fun w' => (w'.cell? ⟨w.heap.size, 0, none⟩ = some (.int .i64 (blk : Int)) ∧ w'.cell? ⟨w.heap.size, 1, none⟩ = some (.int .i64 (seed : Int)) ∧ w'.cell? ⟨w.heap.size, 2, none⟩ = some (.int .i64 (bits : Int)) ∧ w'.cell? ⟨w.heap.size, 3, none⟩ = some (.map (some bi)) ∧ w'.cell? ⟨w.heap.size, 4, none⟩ = some (.map (some bp))) ∧ (w'.cell? ⟨wr.heap.size, 0, none⟩ = some (.int .i64 (xb : Int)) ∧ w'.cell? ⟨wr.heap.size, 1, none⟩ = some (.int .i64 (xn : Int))) ∧ Below W1.heap.size W1 w' ∧ wr.heap.size < w'.heap.size) (first | (exact HIN.out _ rfl) | (exact MkS.below (by assumption) (by assumption) z1) | (exact MkS.turn (by assumption) (by assumption) z1 hrne)) (first | (go_at_call 94; refine (HAT.out _ ?_).mono ?_; exact (HMr.out.alloc _).drew; rintro e wA ⟨rfl, hbA⟩) | (go_at_call 93; refine (HNU.out _).mono ?_; rintro e wB ⟨rfl, hbB⟩) | (go_at_call 92; refine (HPU.out _ ?_ ?_).mono ?_; exact own_belowK (own_belowK (HO.out.alloc _).drew hbA (Nat.le_refl _)) hbB (Nat.le_refl _); have := hbA.size; have := hbB.size; simp at *; omega; rintro e wC ⟨rfl, hrC, hbC⟩))
      all_goals
        have HRC : Hid _ := hrC
        have hBC : Below W1.heap.size W1 wC := by
          have h1 := (hB.alloc zr (.cells #[.int .i64 (xb : Int), .int .i64 (xn : Int)] 165)).drew
          have h2 := h1.trans (hbA.mono h1.size)
          have h3 := h2.trans (hbB.mono h2.size)
          exact h3.trans hbC.1
        clear q0 q1 q2 q3 q4 y0 y1 hrC hbC hbA hbB HAT HNU HPU HO HIN HMr HBr
        go_wp2
        go_roundw
        case rel => exact ⟨k + 1, by omega, by go_num, by rw [HT.out]; exact HRC.out, hBC⟩
        case measure => simp [intOf]; omega
    · have hkk : k = L.length := by omega
      subst hkk
      have HOE : Hid (wr.ownsRow W1.heap.size 175 4 (.slice (some ⟨W1.heap.size, 0, none⟩) n n) n (cellsP (fillL n (L.map (sltOf seed bits))))) := by
        have := HO.out
        rwa [List.take_length] at this
      have HTN : Hid (∀ y : Slt, some y ∈ fillL n (L.map (sltOf seed bits)) → y.num < 4294967296 ∧ y.blk ≤ 100000 ∧ y.no ≤ 255) := by
        intro y hy
        obtain ⟨p, hp⟩ := List.mem_iff_getElem?.1 hy
        have := ((fill_run (n := n) (L.map (sltOf seed bits)) (by simp; omega)).2 y).1 ⟨p, hp⟩
        obtain ⟨z, hz, rfl⟩ := List.mem_map.1 this
        have := HX.out z hz
        exact ⟨num_lt _ _ _ (by omega) (by omega), this.2.1, this.2.2⟩
      have HTL : Hid ((fillL n (L.map (sltOf seed bits))).length = n) := fillL_length _ _
      clear HO HM HM1 HL HX HR1 hbi hbp
      generalize fillL n (L.map (sltOf seed bits)) = T at *
      have HFA : Hid _ := farthest_any W1.heap.size n n W1.heap.size T wr HOE.out HTL.out (by omega) (by omega) (fun y hy => (HTN.out y hy).1)
      go_wp2_with fail
      refine Calls.mono HFA.out ?_
      rintro e w4 ⟨rfl, hb4⟩
      have hfar := farP_lt (n := n) (by omega) T n
      have hsum := sumI_lt log.data.toList
      have HSU : Hid (∀ wx, Calls Tryz.prog 96 #[.string log] wx fun e w' => e = .returned (.int .i64 ((sumI log.data.toList).toNat : Nat)) ∧ Below wx.heap.size wx w') := fun wx => (sumOf_any log wx (by omega)).mono fun e w' h => ⟨h.1.trans (ret_int (by omega)), h.2⟩
      have hsum2 : (sumI log.data.toList).toNat < 4294967296 := by omega
      have HLL : Hid (log.data.toList.length = log.size) := by show _ = _; simp
      rw [HLL.out] at HIX
      clear hsum
      generalize (sumI log.data.toList).toNat = sm at *
      generalize farP n T n = fr at *
      go_wp2_with fail
      refine Calls.mono (HSU.out _) ?_
      rintro e w5 ⟨rfl, hb5⟩
      have hB5 : Below W1.heap.size W1 w5 := (hB.trans (hb4.mono zr)).trans (hb5.mono (by have := hb4.size; omega))
      have HB5 : Hid (Below w.heap.size w w5) := hB1.trans (hB5.mono (by omega))
      have HO5 : Hid (w5.ownsRow W1.heap.size 175 4 (.slice (some ⟨W1.heap.size, 0, none⟩) n n) n (cellsP T)) := own_belowK (own_belowK HOE.out hb4 (Nat.le_refl _)) hb5 (Nat.le_refl _)
      have HH5 : Hid (HalvesAt w5) := HH.out.below HB5.out HH.out.1
      have HF : Hid (∀ wx, HalvesAt wx → _) := fun wx hx => frontBytes_any L.length n fr log.size sm wx (by omega) (by omega) (by omega) (by omega) hsum2 hx
      have z5 := HB5.out.size
      clear HFA HSU hb4 hb5 hB5 HOE q0 q1 q2 q3 q4 hB zr
      go_wp2_with fail
      refine Calls.mono (HF.out _ (HH5.out.below ((Below.refl _ _).alloc (Nat.le_refl _) _) HH5.out.1)) ?_
      rintro e w6 ⟨v6, rfl, hr6, hb6⟩
      obtain ⟨W5, hW5⟩ : ∃ W5, W5 = w5.alloc (.cells #[.int .i64 (L.length : Int), .int .i64 (n : Int), .int .i64 (fr : Int), .int .i64 (log.size : Int), .int .i64 (sm : Int)] 139) := ⟨_, rfl⟩
      rw [← hW5] at hr6 hb6
      have hzW5 : W5.heap.size = w5.heap.size + 1 := by rw [hW5]; simp
      have z56 := hb6.size
      have hBW5 : Below w5.heap.size w5 W5 := by rw [hW5]; exact (Below.refl _ _).alloc (Nat.le_refl _) _
      have hB6 : Below w5.heap.size w5 w6 := hBW5.trans (hb6.mono (by omega))
      have HB6 : Hid (Below w.heap.size w w6) := HB5.out.trans (hB6.mono z5)
      have HO6 : Hid _ := own_belowK HO5.out hB6 (Nat.le_refl _)
      have HTB : Hid _ := tableBytes_any W1.heap.size n n W1.heap.size T w6 HO6.out HTL.out (by omega) (by omega) HTN.out (HH.out.below HB6.out HH.out.1)
      have HR6 : Hid (w6.ownsRow W5.heap.size 5 1 v6 (sealL (frontB L.length n fr log.size sm)).length (cellsB (sealL (frontB L.length n fr log.size sm)))) := hr6
      have z6 := HB6.out.size
      clear hr6 hW5 HF HO5 HH5
      go_wp2_with fail
      refine Calls.mono HTB.out ?_
      rintro e w7 ⟨v7, rfl, hr7, hb7⟩
      have HB7 : Hid (Below w.heap.size w w7) := HB6.out.trans (hb7.mono z6)
      have hr6' := own_belowK HR6.out hb7 (Nat.le_refl _)
      have hlf : (sealL (frontB L.length n fr log.size sm)).length ≤ 20 := by rw [sealL_length, frontB_length]; omega
      have hlt2 : (sealL (tabB T)).length ≤ 10 * n + 4 ∧ 1 ≤ (sealL (tabB T)).length := by rw [sealL_length, tabB_length, HTL.out]; omega
      obtain ⟨i1, hj, hy0, hy1, hy2⟩ := info_parts info_u8
      obtain ⟨g7, c7, rfl, hg70, hg71, hg7c⟩ := own_cellsN hr7 (by omega)
      have HG7 : Hid (∀ j u, (cellsB (sealL (tabB T)))[j]? = some u → w7.cell? ((⟨g7, 0, none⟩ : Addr).add j) = some u) := by
        intro j u hu
        rw [Addr.add_lit, Nat.zero_add, hg7c j (by have := (List.getElem?_eq_some_iff.1 hu).1; rw [cellsB_length] at this; omega)]
        exact hu
      have HR7 : Hid _ := hr6'
      have z7 := HB7.out.size
      have h67 := hb7.size
      clear HTB hr7 hr6' hg7c HR6 HO6 hb7 hB6 hBW5 hb6
      go_wp2_with (at_builtin; refine wpList_append_own _ rfl (.tmp 46) (.tmp 48) 43 rfl W5.heap.size 5 i1 (.int .u8 0) 1 1 Tryz.underlying43 hj hy0 hy1 hy2 rfl (by decide) _ _ _ rfl HR7.out ⟨g7, 0, none⟩ (sealL (tabB T)).length c7 (cellsB (sealL (tabB T))) rfl (by rw [cellsB_length, Nat.mul_one]) HG7.out ?c2 ?c3 ?c4 ?c5 ?_)
      case c2 => intro u hu; obtain ⟨y, _, rfl⟩ := List.mem_map.1 hu; rfl
      case c3 => unfold maxLen; omega
      case c4 => omega
      case c5 => omega
      intro v8 w8 hr8 hg8 _
      rw [← cellsB_append] at hr8
      have hcv := conv_own hr8
      rw [← HIX.out] at hcv
      have HB8 : Hid (Below w.heap.size w w8) := HB7.out.grown hg8 z7 (fun k e => by have := own_ge HR7.out k e; omega)
      clear hr8 hg8
      go_wp2
      go_ret
      exact ⟨rfl, HB8.out⟩
end Go.Proofs.YtdhgebdbiehchaaGreatDoor
namespace Go.Proofs.YtdhgebdbiehchaaGreatDoor
open Go.RowKit Go.Maps
set_option linter.unusedSimpArgs false
set_option linter.unusedVariables false

theorem wpList_lookup_own {H : Type} {P : Program} (w : World) {ops : Array Oper} {rest : List Oper} {o : Oper} {a : Act} {Q : Exit → Act → World → Prop} (hg : o.guard = none) (m x : Operand) (t : TypeId) (hop : o.op = Op.lookup t m x false)
    (k e : TypeId) (K : Keyed P k) (ht : P.underlying t = some (.map k e)) (R : Value → Option (DataW H × List MemPlace)) {z : Value} (hz : (zeroValue e).run P w = .ok z w) (zd : DataW H) (zp : List MemPlace) (hzd : R z = some (zd, zp)) (b n : Nat) (D : DataW H)
    (hm : a.eval m = .map (some b)) (hown : w.ownsMap P k R b n D) (key : Value) (kl : Lit) (hx : a.eval x = key) (hkey : keyOf P k key = some kl)
    (hK : ∀ v ps, R v = some (D.atKey kl zd, ps) → wpList P ops Q rest (a.put o.dst v) w) : wpList P ops Q (o :: rest) a w := by
  refine wpList_plain hg fun K' hK' => ?_
  obtain ⟨v, ps, hrun, hv⟩ := hown.lookup K ht hz hzd hkey
  unfold Oper.wp
  simp [execOp, hop, hm, hx, hrun, Result.andThen]
  exact hK' _ _ (hK v ps hv)

theorem fault_new {w : World} {E : Sent} {e : Int} (he : e ≠ 0) (a b : Value) {g : Nat} (hg : g = w.heap.size) : FaultIs (w.alloc (.cells #[a, b, errVal E e] 152)) E e (.iface 128 (.pointer (some ⟨g, 0, none⟩))) := by
  subst hg
  exact .inr ⟨he, w.heap.size, rfl, by rw [World.cell?_alloc_at _ _ _ _ rfl]; rfl⟩
theorem FaultIs.drew {w : World} {E : Sent} {e : Int} {v : Value} (h : FaultIs w E e v) : FaultIs w.drew E e v := h
theorem FaultIs.below {w w' : World} {E : Sent} {e : Int} {v : Value} (h : FaultIs w E e v) (hb : Below w.heap.size w w') : FaultIs w' E e v := by
  rcases h with h | ⟨h1, b, h2, h3⟩
  · exact .inl h
  · exact .inr ⟨h1, b, h2, (hb.cell (p := ⟨b, 2, none⟩) (cell_lt (p := ⟨b, 2, none⟩) h3)).trans h3⟩
theorem faultIs_nil {w : World} {E : Sent} : FaultIs w E 0 .nilIface := .inl ⟨rfl, rfl⟩
/-- What the program's answer makes of it. -/
theorem answer_any (E : Sent) (e : Int) (v : Value) (w : World) (hE : Env w E) (hv : FaultIs w E e v) (he : e = 0 ∨ e = 6 ∨ e = 7 ∨ e = 8 ∨ e = 1 ∨ e = 2) :
    Calls Tryz.prog 41 #[v] w fun r w' => r = .returned (.int .i64 e) ∧ Below w.heap.size w w' := by
  rcases hv with ⟨rfl, rfl⟩ | ⟨h0, b, rfl, hc⟩
  · exact answer_nil w
  · rw [errVal_pos h0] at hc
    have := answer_fault E b (errAd E e) w hE hc (errAd_mem E e)
    rwa [errNo_ad hE.nodup (by omega)] at this

set_option maxRecDepth 100000 in
set_option maxHeartbeats 1600000 in
theorem has_any (E : Sent) (n : Nat) (F : Nat → Prop) (bd : Nat) (d : Dk) (p : Pr) (s : ByteArray) (w : World) (hE : Env0 n w E) (hD : DiskAt w F bd d p) (hs : s.size ≤ 140737488351232) :
    Calls Tryz.prog 69 #[.pointer (some ⟨bd, 0, none⟩), .string s] w fun e w' => ∃ ev, e = .returned (.tuple #[.bool (!d.down && (d.file (nameN s.data.toList)).isSome), ev]) ∧ FaultIs w' E (if d.down = true then 7 else 0) ev ∧ Below w.heap.size w w' := by
  have c1 := hD.dk.cell (j := 1) rfl
  have c2 := hD.dk.cell (j := 2) rfl
  have gd := hE.env.down
  have e7 : errVal E 7 = .iface 352 (.pointer (some E.down)) := by simp [errVal, errAd]
  obtain ⟨D, h1, h2, h3⟩ := hD.map
  have hk := keyStr s hs
  have hat := (h2.2 (.string s.data.toList)).1 (.lit (.int .i64 (-1)))
  have HO : Hid (w.ownsMap Tryz.prog 9 rFp p.bm 3 D) := h1
  unfold fM at hat
  simp only at hat
  rw [← e7] at gd
  clear h1 h2 h3 hD hE
  cases hd : d.down with
  | true =>
    rw [hd] at c2
    have HF : Hid (∀ (wx : World) (g : Nat), g = wx.heap.size → FaultIs (wx.alloc (.cells #[.string ⟨#[102, 105, 110, 100]⟩, .string s, errVal E 7] 152)) E 7 (.iface 128 (.pointer (some ⟨g, 0, none⟩)))) := fun wx g hg => fault_new (by omega) _ _ hg
    rw [if_pos rfl]
    rw [e7] at gd HF
    clear hat HO hk hd c1 e7
    go_enter Tryz.func69, Tryz.ntmps69
    go_wp2
    go_region
    all_goals
      go_wp2
      go_ret2
      first
        | exact ⟨_, rfl, (HF.out w.drew _ rfl), ((Below.refl _ _).drew.alloc (Nat.le_refl _) _)⟩
        | exact ⟨_, rfl, (HF.out w _ rfl).drew, ((Below.refl _ _).alloc (Nat.le_refl _) _).drew⟩
  | false =>
    rw [hd] at c2
    rw [if_neg (by simp)]
    cases hf : d.file (nameN s.data.toList) with
    | none =>
      rw [hf] at hat
      simp only [Option.map_none, Option.getD_none] at hat
      clear hf hd gd e7
      go_enter Tryz.func69, Tryz.ntmps69
      go_wp2_with (first | (at_lookup; refine wpList_lookup_own _ rfl _ _ 180 rfl 9 134 keyedStr Tryz.underlying180 rFp (zeroFp _) _ [] rFp_nil p.bm 3 D rfl HO.out _ _ rfl hk ?_; intro v ps hv; rw [hat] at hv; obtain rfl := rFp_inv_nil hv))
      go_ret2
      exact ⟨_, rfl, faultIs_nil, Below.refl _ _⟩
    | some f =>
      rw [hf] at hat
      simp only [Option.map_some, Option.getD_some] at hat
      clear hf hd gd e7
      go_enter Tryz.func69, Tryz.ntmps69
      go_wp2_with (first | (at_lookup; refine wpList_lookup_own _ rfl _ _ 180 rfl 9 134 keyedStr Tryz.underlying180 rFp (zeroFp _) _ [] rFp_nil p.bm 3 D rfl HO.out _ _ rfl hk ?_; intro v ps hv; rw [hat] at hv; obtain rfl := rFp_inv hv))
      go_ret2
      exact ⟨_, rfl, faultIs_nil, Below.refl _ _⟩

set_option maxRecDepth 100000 in
set_option maxHeartbeats 1600000 in
theorem read_disk (E : Sent) (n : Nat) (F : Nat → Prop) (bd : Nat) (d : Dk) (p : Pr) (s : ByteArray) (w : World) (hE : Env0 n w E) (hD : DiskAt w F bd d p) (hs : s.size ≤ 140737488351232) :
    Calls Tryz.prog 50 #[.pointer (some ⟨bd, 0, none⟩), .string s] w fun e w' => ∃ ev, e = .returned (.tuple #[.string (S (d.fileR s.data.toList).1), ev]) ∧ FaultIs w' E (d.fileR s.data.toList).2 ev ∧ Below w.heap.size w w' := by
  have HF : Hid _ := find_any E n F bd d p s w hE hD hs
  have HD : Hid (DiskAt w F bd d p) := hD
  have e7 : errVal E 7 = .iface 352 (.pointer (some E.down)) := by simp [errVal, errAd]
  have e2 : errVal E 2 = .iface 352 (.pointer (some E.gone)) := by simp [errVal, errAd]
  have HN : Hid (∀ (e : Int) (wx : World) (g : Nat), e ≠ 0 → g = wx.heap.size → FaultIs (wx.alloc (.cells #[.string ⟨#[114, 101, 97, 100]⟩, .string s, errVal E e] 152)) E e (.iface 128 (.pointer (some ⟨g, 0, none⟩)))) := fun e wx g he hg => fault_new he _ _ hg
  clear hD hE
  cases hd : d.down with
  | true =>
    have HR : Hid (d.fileR s.data.toList = ([], 7)) := by show _ = _; unfold Dk.fileR; rw [if_pos hd]
    rw [findV, if_pos hd] at HF
    have HN7 := HN.out 7
    rw [e7] at HF HN7
    have HN7' : Hid _ := HN7
    clear HN7 HN hd
    go_enter Tryz.func50, Tryz.ntmps50
    go_wp2_with fail
    refine Calls.mono HF.out ?_
    rintro e w1 ⟨rfl, hb1⟩
    have hb1z := hb1.size
    go_wp2
    go_ret2
    exact ⟨_, by rw [HR.out]; rfl, by rw [HR.out]; exact HN7'.out w1 _ (by omega) rfl, hb1.alloc hb1z _⟩
  | false =>
    cases hf : d.file (nameN s.data.toList) with
    | none =>
      have HR : Hid (d.fileR s.data.toList = ([], 2)) := by show _ = _; unfold Dk.fileR; rw [if_neg (by rw [hd]; simp), hf]
      rw [findV, if_neg (by rw [hd]; simp), hf] at HF
      have HN2 := HN.out 2
      rw [e2] at HN2
      have HN2' : Hid _ := HN2
      simp only [e2] at HF
      clear HN2 HN hd hf e7 e2
      go_enter Tryz.func50, Tryz.ntmps50
      go_wp2_with fail
      refine Calls.mono HF.out ?_
      rintro e w1 ⟨rfl, hb1⟩
      have hb1z := hb1.size
      go_wp2
      go_ret2
      exact ⟨_, by rw [HR.out]; rfl, by rw [HR.out]; exact HN2'.out w1 _ (by omega) rfl, hb1.alloc hb1z _⟩
    | some f =>
      have HR : Hid (d.fileR s.data.toList = (f.text, 0)) := by show _ = _; unfold Dk.fileR; rw [if_neg (by rw [hd]; simp), hf]
      rw [findV, if_neg (by rw [hd]; simp), hf] at HF
      simp only at HF
      obtain ⟨hfb, hfr⟩ := HD.out.files _ _ hf
      have HB : Hid _ := hfb
      have HFR : Hid _ := hfr
      clear HN hd hf e7 e2 hfb hfr
      generalize p.B (nameN s.data.toList) = fb at *
      generalize p.V (nameN s.data.toList) = fv at *
      go_enter Tryz.func50, Tryz.ntmps50
      go_wp2_with fail
      refine Calls.mono HF.out ?_
      rintro e w1 ⟨rfl, hb1⟩
      have c0 := ((Bx.below HB.out hb1 (Bx.lt HB.out)).cell (j := 0) rfl)
      have hcv := conv_own (own_belowK HFR.out hb1 (Nat.le_refl _))
      clear HF
      go_wp2
      go_ret2
      exact ⟨_, by rw [HR.out]; rfl, by rw [HR.out]; exact faultIs_nil, hb1⟩
end Go.Proofs.YtdhgebdbiehchaaGreatDoor
