/- A range over a function whose iterator tells things that lie in memory: a round is asked only where what is told lies; no round leaves the loop. What a log says, which of its entries live, and the table of an index, as plain functions. Nothing of the program is named here. What the program's two maps hold (by place the item, by key the place), as plain functions of the live entries. The contract of the document's Live: those entries that are a key's last, and puts, in order. What a look answers, as a plain function on bytes. -/
import Derived.RangeFuncNested
import Derived.RangeFuncLeaves
import Derived.Test.YtdhgebdbiehchaaGreatDoorB03
import Derived.Maps.OwnIn
import Derived.Maps.OwnSet
import Derived.DeepKeys4
import Derived.Deep.DeepCutAuto
import Derived.Laws.AppendOwnNone
import Derived.BigQuiet
namespace Go.Proofs.YtdhgebdbiehchaaGreatDoor
open Go Go.RowKit
set_option linter.unusedVariables false

/-- The iterator's word: what it tells lies in memory (Px) when a round begins; no round says 'no more'. -/
def SeqTells {α : Type} (F : Fence) (n : Nat) (P : Program) (g : Nat) (lb : Array Value) (encs : α → Array Value) (Px : List α → α → World → Prop) (Kp : World → World → Prop) (S : List α → Prop) (w : World) : Prop :=
  ∀ (l : Nat) (J : List α → World → Prop) (W : World), Below w.heap.size w W → AbidesFrom W.heap.size J →
    (∀ pre x W1, J pre W1 → Px pre x W1 → YieldAt F (n - 1) P l (encs x) W1 fun e W' => e = .returned (.bool true) ∧ J (pre ++ [x]) W' ∧ Kp W1 W') →
    J [] W →
    CallsIn F n P g (#[.func (.yield l) #[] #[]] ++ lb) W fun e W' => (∃ v, e = .returned v) ∧ ∃ xs, S xs ∧ J xs W'

/-- How a round ends. -/
def tellPost {α : Type} (B : Nat) (Kp : World → World → Prop) (I : List α → World → Prop) (xs : List α) (W : World) : Exit → Act → World → Prop
  | .normal, _, W' => KeepsFrom B W W' ∧ Kp W W' ∧ I xs W'
  | _, _, _ => False

variable {F : Fence} {n : Nat} {P : Program}

/-- The law, out of the model's own rules for the loop's record. -/
theorem wpIn_rangeTells {α : Type} {g : Operand} {ps : Array Tmp} {assign body : Code} {Q : Exit → Act → World → Prop} {a : Act} {w : World}
    (hro : F.round = none) (h1 : 1 ≤ n) {gf : Nat} {lb : Array Value} (hg : a.eval g = .func (.func gf) #[] lb) (hFg : F.fn gf) (eg : ∀ args w, (callFunc gf args).run P w = .ok (.enter gf args) w)
    {encs : α → Array Value} {Px : List α → α → World → Prop} {Kp : World → World → Prop} {S : List α → Prop} {w0 : World} (hseq : SeqTells F (n - 1) P gf lb encs Px Kp S w0)
    (hKt : ∀ {A B C : World}, Kp A B → Kp B C → Kp A C) (hKb : ∀ (W : World) (l : Nat) (o o' : Obj), w.heap.size ≤ l → W.heap[l]? = some o → o.isCells = false → o.isWalk = false → Kp W (W.putObj l o')) (hb0 : Below w0.heap.size w0 w) (hps : ∀ x, (encs x).size = ps.size)
    (I : List α → World → Prop) (hI : OwnFrom w.heap.size I) (h0 : I [] w) (Ax : List α → α → Act → World → Prop) (hAx : ∀ pre x a', OwnFrom w.heap.size (fun (_ : Unit) W => Ax pre x a' W))
    (hassign : ∀ (l : Nat) (pre : List α) (x : α) (W : World) (K : Act → World → Prop), I pre W → Px pre x W → (∀ a' W', KeepsFrom w.heap.size W W' → Kp W W' → I pre W' → Ax pre x a' W' → K a' W') →
      assign.wpIn (F.inRound l) (n - 1 - 1) P (Exit.then K (fun _ _ _ => False)) { tmps := (ps.zip (encs x)).foldl (fun t (p, v) => t.setIfInBounds p v) a.tmps, defers := [] } W)
    (hbody : ∀ (l : Nat) (pre : List α) (x : α) (a' : Act) (W : World), I pre W → Ax pre x a' W → body.wpIn (F.inRound l) (n - 1 - 1) P (tellPost w.heap.size Kp I (pre ++ [x]) W) a' W)
    (hdone : ∀ (D : Nat) (xs : List α) (W : World), w.heap.size ≤ D → S xs → I xs W → W.heap[D]? = some (.deferred (some [])) → Q .normal { a with defers := { target := .collected D, args := #[] } :: a.defers } W) :
    (Code.rangeFunc g ps assign body).wpIn F n P Q a w := by
  refine wpIn_rangeFunc fun fn hfn => ?_
  rw [hro]
  let D := w.heap.size
  let l := w.heap.size + 1
  let rec0 : LoopState → Loop := fun st => { state := st, pending := none, fn, tmps := a.tmps, params := ps, assign, body, defers := D }
  obtain ⟨V, hV⟩ : ∃ V, (w.alloc (.deferred (some []))).alloc (.loop (rec0 .ready)) = V := ⟨_, rfl⟩
  have vl : V.heap[l]? = some (.loop (rec0 .ready)) := by
    rw [← hV]
    have := World.alloc_heap_new (w.alloc (.deferred (some []))) (.loop (rec0 .ready))
    rwa [World.size_alloc] at this
  have vD : V.heap[D]? = some (.deferred (some [])) := by
    rw [← hV]
    exact (Below.heap_alloc _ _ _ (by simp [D])).trans (World.alloc_heap_new w _)
  have vI : I [] V := by rw [← hV]; exact hI.alloc _ (hI.alloc _ h0)
  have vB : Below w0.heap.size w0 V := by
    rw [← hV]
    exact hb0.trans ((((Below.refl _ w).alloc (Nat.le_refl _) _).alloc (by simp) _).mono hb0.size)
  have vz : w.heap.size ≤ V.heap.size := by rw [← hV]; simp; omega
  refine ⟨l, [{ target := .collected D, args := #[] }], V, { target := .fn (.func gf) lb, args := #[.func (.yield l) #[] #[]] }, V, gf, #[.func (.yield l) #[] #[]] ++ lb, V, ?_, ?_, ?_, ?_, fun _ => h1, ?_⟩
  · rw [← hV]; exact run_enterLoop_outer _ _ _ _ _
  · simp only [resolve, hg]
    simp [go_sem]
  · intro f' hf'
    simp [Target.leads] at hf'
    subst hf'
    exact hFg
  · simp [invoke, go_sem, eg]
  · let J : List α → World → Prop := fun pre W => I pre W ∧ W.heap[l]? = some (.loop (rec0 .ready)) ∧ W.heap[D]? = some (.deferred (some []))
    have hJ : AbidesFrom V.heap.size J := by
      intro s A B row hs hgr hr
      have hw : ∀ r, row = some r → ∃ o : Obj, A.heap[r]? = some o ∧ o.isWalk = true := fun r e => (hr r e).2
      refine ⟨hI s A B row hs.1 hgr (fun r e => ?_), (grownBy_keeps hgr hw hs.2.1 rfl).trans hs.2.1, (grownBy_keeps hgr hw hs.2.2 rfl).trans hs.2.2⟩
      obtain ⟨hB, o, ho, hk⟩ := hr r e
      exact ⟨Nat.le_trans vz hB, o, ho, Obj.not_cells_of_walk hk⟩
    refine (hseq l J V vB hJ ?_ ⟨vI, vl, vD⟩).mono ?_
    · rintro pre x W ⟨hi, hl, hk⟩ hp
      refine ⟨fn, _, assign, body, run_yield (P := P) (args := encs x) hl (hps x), roundIn_of_wpIn hfn (hassign l pre x W _ hi hp ?_)⟩
      intro a' A hka hkp hia hax
      have al := hka.same l _ (by simp [l]) hl rfl
      have aD := hka.same D _ (Nat.le_refl _) hk rfl
      refine ⟨_, run_beginRound al rfl, ?_⟩
      have hlt : l < A.heap.size := (Array.getElem?_eq_some_iff.1 al).1
      obtain ⟨X, hX⟩ : ∃ X, A.putObj l (.loop { rec0 .ready with state := .busy }) = X := ⟨_, rfl⟩
      have xl : X.heap[l]? = some (.loop { rec0 .ready with state := .busy }) := by rw [← hX]; exact World.putObj_heap_same hlt
      have xD : X.heap[D]? = some (.deferred (some [])) := by rw [← hX]; exact (World.putObj_heap_other (by simp [D, l])).trans aD
      have xI : I pre X := by rw [← hX]; exact hI.putObj _ hia (by simp [l]) al rfl
      have xA : Ax pre x a' X := by rw [← hX]; exact (hAx pre x a').putObj (s := ()) _ hax (by simp [l]) al rfl
      have xK : Kp W X := by rw [← hX]; exact hKt hkp (hKb _ _ _ _ (by simp [l]) al rfl rfl)
      subst hX
      refine wpIn_mono (hbody l pre x a' _ xI xA) ?_
      rintro e a3 Y hpost
      cases e with
      | normal =>
        obtain ⟨hk3, hkp3, hi3⟩ := hpost
        have yl := hk3.same l _ (by simp [l]) xl rfl
        have yD := hk3.same D _ (Nat.le_refl _) xD rfl
        refine ⟨_, _, run_endRound (P := P) none yl, rfl, ⟨hI.putObj _ hi3 (by simp [l]) yl rfl, World.putObj_heap_same (Array.getElem?_eq_some_iff.1 yl).1, (World.putObj_heap_other (by simp [D, l])).trans yD⟩, hKt (hKt xK hkp3) (hKb _ _ _ _ (by simp [l]) yl rfl rfl)⟩
      | _ => exact hpost.elim
    · rintro e W2 ⟨⟨v, rfl⟩, xs, hS, hi, hl, hk⟩
      exact ⟨none, _, run_endLoop (P := P) hl (by simp [rec0]), hdone D xs _ (Nat.le_refl _) hS (hI.putObj _ hi (by simp [l]) hl rfl) ((World.putObj_heap_other (by simp [D, l])).trans hk)⟩
end Go.Proofs.YtdhgebdbiehchaaGreatDoor
namespace Go.Proofs.YtdhgebdbiehchaaGreatDoor
open Go.RowKit
set_option linter.unusedSimpArgs false
set_option linter.unusedVariables false

/-- An entry, and where it stands. -/
structure Sd where
  put : Bool
  key : List UInt8
  val : List UInt8
  blk : Nat
  no : Nat

def saids (a : Nat) : Nat → List Ent → List Sd
  | _, [] => []
  | i, e :: es => ⟨e.put, e.key, e.val, a, i⟩ :: saids a (i + 1) es
theorem saids_length (a i : Nat) (es : List Ent) : (saids a i es).length = es.length := by
  induction es generalizing i with
  | nil => rfl
  | cons e es ih => simp [saids, ih]
theorem saids_snoc (a i : Nat) (es : List Ent) (e : Ent) : saids a i (es ++ [e]) = saids a i es ++ [⟨e.put, e.key, e.val, a, i + es.length⟩] := by
  induction es generalizing i with
  | nil => rfl
  | cons f es ih => simp [saids, ih]; omega
theorem saids_take {a : Nat} {es : List Ent} {k : Nat} (h : k < es.length) : saids a 0 (es.take (k + 1)) = saids a 0 (es.take k) ++ [⟨es[k].put, es[k].key, es[k].val, a, k⟩] := by
  rw [List.take_succ_eq_append_getElem h, saids_snoc]
  simp; omega

/-- The entries of all right blocks from a byte on, and where they end. -/
def readF : Nat → List UInt8 → Int → Nat → List Sd × Nat
  | 0, _, _, a => ([], a)
  | n + 1, log, blk, a => match blockP log a blk with
    | none => ([], a)
    | some (es, k) => (saids a 0 es ++ (readF n log blk (a + k)).1, (readF n log blk (a + k)).2)
def readL (log : List UInt8) (blk : Int) (a : Nat) : List Sd × Nat := readF (log.length - a) log blk a
theorem readF_fuel (log : List UInt8) (blk : Int) (n m a : Nat) (hn : log.length - a ≤ n) (hm : log.length - a ≤ m) : readF n log blk a = readF m log blk a := by
  induction n generalizing m a with
  | zero =>
    cases m with
    | zero => rfl
    | succ m =>
      rw [readF, readF]
      cases h : blockP log a blk with
      | none => rfl
      | some x =>
        have := blockP_some (es := x.1) (k := x.2) h
        omega
  | succ n ih =>
    cases m with
    | zero =>
      rw [readF, readF]
      cases h : blockP log a blk with
      | none => rfl
      | some x =>
        have := blockP_some (es := x.1) (k := x.2) h
        omega
    | succ m =>
      rw [readF, readF]
      cases h : blockP log a blk with
      | none => rfl
      | some x =>
        obtain ⟨es, k⟩ := x
        have := blockP_some h
        simp only
        rw [ih m (a + k) (by omega) (by omega)]
theorem readL_none {log : List UInt8} {blk : Int} {a : Nat} (h : blockP log a blk = none) : readL log blk a = ([], a) := by
  unfold readL
  cases log.length - a with
  | zero => rfl
  | succ n => rw [readF, h]
theorem readL_some {log : List UInt8} {blk : Int} {a k : Nat} {es : List Ent} (h : blockP log a blk = some (es, k)) : readL log blk a = (saids a 0 es ++ (readL log blk (a + k)).1, (readL log blk (a + k)).2) := by
  have := blockP_some h
  unfold readL
  obtain ⟨n, hn⟩ : ∃ n, log.length - a = n + 1 := ⟨log.length - a - 1, by omega⟩
  rw [hn, readF, h]
  simp only
  rw [readF_fuel log blk n (log.length - (a + k)) (a + k) (by omega) (Nat.le_refl _)]

/-- Those that are a key's last, and puts, in order. -/
def liveL : List Sd → List Sd
  | [] => []
  | x :: l => if x.put = true ∧ ∀ y ∈ l, y.key ≠ x.key then x :: liveL l else liveL l
theorem liveL_mem {l : List Sd} {x : Sd} (h : x ∈ liveL l) : x ∈ l ∧ x.put = true := by
  induction l with
  | nil => simp [liveL] at h
  | cons y l ih =>
    rw [liveL] at h
    split at h
    · rename_i hc
      rcases List.mem_cons.1 h with rfl | h
      · exact ⟨List.mem_cons_self, hc.1⟩
      · exact ⟨List.mem_cons_of_mem _ (ih h).1, (ih h).2⟩
    · exact ⟨List.mem_cons_of_mem _ (ih h).1, (ih h).2⟩
theorem liveL_le (l : List Sd) : (liveL l).length ≤ l.length := by
  induction l with
  | nil => simp [liveL]
  | cons x l ih =>
    rw [liveL]
    split <;> simp <;> omega
/-- By one entry more. -/
theorem liveL_snoc (l : List Sd) (x : Sd) : liveL (l ++ [x]) = (liveL l).filter (fun y => decide (y.key ≠ x.key)) ++ (if x.put = true then [x] else []) := by
  induction l with
  | nil =>
    simp only [List.nil_append, liveL, List.filter_nil]
    by_cases h : x.put = true <;> simp [h]
  | cons y l ih =>
    rw [List.cons_append, liveL, liveL, ih]
    by_cases h1 : y.put = true ∧ ∀ z ∈ l, z.key ≠ y.key
    · rw [if_pos h1]
      by_cases h2 : x.key = y.key
      · rw [if_neg (by rintro ⟨_, h⟩; exact h x (by simp) h2)]
        simp [h2]
      · rw [if_pos ⟨h1.1, fun z hz => by
          rcases List.mem_append.1 hz with hz | hz
          · exact h1.2 z hz
          · simp at hz; subst hz; exact h2⟩]
        rw [List.filter_cons_of_pos (by simpa using fun h => h2 h.symm)]
        rfl
    · rw [if_neg h1, if_neg (by rintro ⟨ha, hb⟩; exact h1 ⟨ha, fun z hz => hb z (by simp [hz])⟩)]
/-- No two of them have one key. -/
theorem liveL_keys (l : List Sd) : (liveL l).Pairwise (fun x y => x.key ≠ y.key) := by
  induction l with
  | nil => exact List.Pairwise.nil
  | cons x l ih =>
    rw [liveL]
    split
    · rename_i h
      exact List.Pairwise.cons (fun y hy => fun e => h.2 y (liveL_mem hy).1 e.symm) ih
    · exact ih

/-- Places rise. -/
def placeLt (x y : Sd) : Prop := x.blk < y.blk ∨ (x.blk = y.blk ∧ x.no < y.no)
theorem saids_rise (a i : Nat) (es : List Ent) : (saids a i es).Pairwise placeLt ∧ ∀ x ∈ saids a i es, x.blk = a ∧ i ≤ x.no ∧ x.no < i + es.length := by
  induction es generalizing i with
  | nil => exact ⟨List.Pairwise.nil, by simp [saids]⟩
  | cons e es ih =>
    obtain ⟨h1, h2⟩ := ih (i + 1)
    refine ⟨List.Pairwise.cons (fun y hy => .inr ⟨?_, ?_⟩) h1, fun x hx => ?_⟩
    · exact (h2 y hy).1.symm
    · have := h2 y hy; simp; omega
    · rcases List.mem_cons.1 hx with rfl | hx
      · simp
      · have := h2 x hx; simp; omega
theorem readF_rise (log : List UInt8) (blk : Int) (n a : Nat) : (readF n log blk a).1.Pairwise placeLt ∧ (∀ x ∈ (readF n log blk a).1, a ≤ x.blk ∧ x.blk < log.length ∧ x.no < 255) ∧ a ≤ (readF n log blk a).2 ∧ (a ≤ log.length → (readF n log blk a).2 ≤ log.length) := by
  induction n generalizing a with
  | zero => exact ⟨List.Pairwise.nil, by simp [readF], Nat.le_refl _, fun h => h⟩
  | succ n ih =>
    rw [readF]
    cases h : blockP log a blk with
    | none => exact ⟨List.Pairwise.nil, by simp, Nat.le_refl _, fun h => h⟩
    | some x =>
      obtain ⟨es, k⟩ := x
      have hb := blockP_some h
      obtain ⟨h1, h2, h3, h4⟩ := ih (a + k)
      obtain ⟨s1, s2⟩ := saids_rise a 0 es
      simp only
      refine ⟨?_, ?_, by omega, fun _ => h4 (by omega)⟩
      · rw [List.pairwise_append]
        refine ⟨s1, h1, fun x hx y hy => .inl ?_⟩
        have := s2 x hx
        have := h2 y hy
        omega
      · intro x hx
        rcases List.mem_append.1 hx with hx | hx
        · have := s2 x hx; omega
        · have := h2 x hx; omega
theorem liveL_sub (l : List Sd) : (liveL l).Sublist l := by
  induction l with
  | nil => exact List.Sublist.refl _
  | cons x l ih =>
    rw [liveL]
    split
    · exact ih.cons_cons x
    · exact ih.cons x
theorem liveL_rise {l : List Sd} (h : l.Pairwise placeLt) : (liveL l).Pairwise placeLt := h.sublist (liveL_sub l)

/-- What stands in a slot: a key's number, and its place. -/
structure Slt where
  num : Nat
  blk : Nat
  no : Nat
def awayN (n : Nat) (x : Slt) (a : Nat) : Nat := (a + n - x.num % n) % n
theorem awayN_lt {n : Nat} (h : 0 < n) (x : Slt) (a : Nat) : awayN n x a < n := Nat.mod_lt _ h

/-- How many slots. -/
def sizeF : Nat → Nat → Nat → Nat
  | 0, _, s => s
  | f + 1, n, s => if s ≤ 5 * n / 4 then sizeF f n (2 * s) else s
def sizeL (n : Nat) : Nat := sizeF 12 n 4

/-- Put in: what is nearer to its home gives way, and goes on. -/
def putF : Nat → List (Option Slt) → Slt → Nat → List (Option Slt)
  | 0, t, _, _ => t
  | f + 1, t, x, a => match t[a]? with
    | some (some y) => if awayN t.length y a < awayN t.length x a then putF f (t.set a (some x)) y ((a + 1) % t.length) else putF f t x ((a + 1) % t.length)
    | _ => t.set a (some x)
def putL (t : List (Option Slt)) (x : Slt) : List (Option Slt) := putF t.length t x (x.num % t.length)
theorem putF_length (f : Nat) (t : List (Option Slt)) (x : Slt) (a : Nat) : (putF f t x a).length = t.length := by
  induction f generalizing t x a with
  | zero => rfl
  | succ f ih =>
    rw [putF]
    split
    · split
      · rw [ih]; simp
      · rw [ih]
    · simp
/-- From here on a free slot is met within so many steps. -/
def gap (n e a : Nat) : Nat := (e + n - a) % n
theorem gap_step {n e a : Nat} (ha : a < n) (he : e < n) (hne : a ≠ e) : gap n e ((a + 1) % n) + 1 = gap n e a := by
  unfold gap
  by_cases h : a + 1 < n
  · rw [Nat.mod_eq_of_lt h]
    by_cases h2 : a < e
    · have e1 : e + n - (a + 1) = (e - (a + 1)) + n := by omega
      have e2 : e + n - a = (e - a) + n := by omega
      rw [e1, e2, Nat.add_mod_right, Nat.add_mod_right, Nat.mod_eq_of_lt (by omega), Nat.mod_eq_of_lt (by omega)]
      omega
    · rw [Nat.mod_eq_of_lt (a := e + n - (a + 1)) (by omega), Nat.mod_eq_of_lt (a := e + n - a) (by omega)]
      omega
  · have : a + 1 = n := by omega
    rw [this, Nat.mod_self, Nat.sub_zero, Nat.add_mod_right, Nat.mod_eq_of_lt he, Nat.mod_eq_of_lt (a := e + n - a) (by omega)]
    omega
theorem gap_lt {n e a : Nat} (hn : 0 < n) : gap n e a < n := Nat.mod_lt _ hn
/-- Any store of steps that suffices tells the same. -/
theorem putF_fuel (n e : Nat) (he : e < n) : ∀ (f g : Nat) (t : List (Option Slt)) (x : Slt) (a : Nat), t.length = n → a < n → t[e]? = some none → gap n e a < f → gap n e a < g → putF f t x a = putF g t x a := by
  intro f
  induction f with
  | zero => intro g t x a _ _ _ h _; omega
  | succ f ih =>
    intro g t x a hl ha hE hf hg
    obtain ⟨g, rfl⟩ : ∃ g', g = g' + 1 := ⟨g - 1, by omega⟩
    rw [putF, putF]
    split
    · rename_i y hy
      have hne : a ≠ e := by
        intro h; subst h; rw [hE] at hy; cases hy
      have hs := gap_step ha he hne
      have ha' : (a + 1) % n < n := Nat.mod_lt _ (by omega)
      rw [hl]
      split
      · exact ih g _ _ _ (by simp [hl]) ha' (by rw [List.getElem?_set_ne hne]; exact hE) (by omega) (by omega)
      · exact ih g _ _ _ hl ha' hE (by omega) (by omega)
    · rfl
/-- How many are full. -/
def fullN (t : List (Option Slt)) : Nat := (t.filter Option.isSome).length
theorem fullN_set {t : List (Option Slt)} {a : Nat} {x : Slt} (h : t[a]? = some none) : fullN (t.set a (some x)) = fullN t + 1 := by
  induction t generalizing a with
  | nil => simp at h
  | cons y t ih =>
    cases a with
    | zero => simp at h; subst h; simp [fullN]
    | succ a =>
      have := ih (a := a) (by simpa using h)
      unfold fullN at this ⊢
      rw [List.set_cons_succ, List.filter_cons, List.filter_cons]
      split <;> simp [this]
theorem fullN_swap {t : List (Option Slt)} {a : Nat} {x y : Slt} (h : t[a]? = some (some y)) : fullN (t.set a (some x)) = fullN t := by
  induction t generalizing a with
  | nil => simp at h
  | cons z t ih =>
    cases a with
    | zero => simp at h; subst h; simp [fullN]
    | succ a =>
      have := ih (a := a) (by simpa using h)
      unfold fullN at this ⊢
      rw [List.set_cons_succ, List.filter_cons, List.filter_cons]
      split <;> simp [this]
theorem fullN_free {t : List (Option Slt)} (h : fullN t < t.length) : ∃ e, e < t.length ∧ t[e]? = some none := by
  induction t with
  | nil => simp at h
  | cons y t ih =>
    cases y with
    | none => exact ⟨0, by simp, rfl⟩
    | some y =>
      obtain ⟨e, h1, h2⟩ := ih (by simp [fullN] at h ⊢; omega)
      exact ⟨e + 1, by simp; omega, by simpa using h2⟩
theorem fullN_put (n e : Nat) (he : e < n) : ∀ (f : Nat) (t : List (Option Slt)) (x : Slt) (a : Nat), t.length = n → a < n → t[e]? = some none → gap n e a < f → fullN (putF f t x a) = fullN t + 1 := by
  intro f
  induction f with
  | zero => intro t x a _ _ _ h; omega
  | succ f ih =>
    intro t x a hl ha hE hf
    rw [putF]
    split
    · rename_i y hy
      have hne : a ≠ e := by
        intro h; subst h; rw [hE] at hy; cases hy
      have hs := gap_step ha he hne
      have ha' : (a + 1) % n < n := Nat.mod_lt _ (by omega)
      rw [hl]
      split
      · rw [ih _ _ _ (by simp [hl]) ha' (by rw [List.getElem?_set_ne hne]; exact hE) (by omega), fullN_swap hy]
      · rw [ih _ _ _ hl ha' hE (by omega)]
    · rename_i hx
      have hsome : t[a]? = some t[a] := List.getElem?_eq_getElem (by omega)
      cases hy : t[a] with
      | none => exact fullN_set (by rw [hsome, hy])
      | some y => exact absurd (by rw [hsome, hy]) (hx y)

theorem sizeF_big (f n s : Nat) (h : 5 * n / 4 < s * 2 ^ f) : 5 * n / 4 < sizeF f n s := by
  induction f generalizing s with
  | zero => simpa [sizeF] using h
  | succ f ih =>
    rw [sizeF]
    split
    · exact ih (2 * s) (by rw [Nat.pow_succ] at h; rw [Nat.mul_comm 2 s, Nat.mul_assoc, Nat.mul_comm 2]; exact h)
    · omega
theorem sizeF_bound (f n s b : Nat) (h0 : s ≤ b) (h : 2 * (5 * n / 4) ≤ b) : sizeF f n s ≤ b := by
  induction f generalizing s with
  | zero => exact h0
  | succ f ih =>
    rw [sizeF]
    split
    · exact ih (2 * s) (by omega)
    · exact h0
theorem sizeF_ge (f n s : Nat) : s ≤ sizeF f n s := by
  induction f generalizing s with
  | zero => exact Nat.le_refl _
  | succ f ih =>
    rw [sizeF]
    split
    · exact Nat.le_trans (by omega) (ih (2 * s))
    · exact Nat.le_refl _
theorem sizeL_big {n : Nat} (h : n ≤ 2000) : 5 * n / 4 < sizeL n := sizeF_big 12 n 4 (by omega)
theorem sizeL_bound {n : Nat} (h : n ≤ 2000) : 4 ≤ sizeL n ∧ sizeL n ≤ 5000 := ⟨sizeF_ge 12 n 4, sizeF_bound 12 n 4 5000 (by omega) (by omega)⟩

/-- A key's slot, as it is put in. -/
def sltOf (seed bits : Int) (x : Sd) : Slt := ⟨(numberI seed bits x.key).toNat, x.blk, x.no⟩
def fillL (n : Nat) (xs : List Slt) : List (Option Slt) := xs.foldl putL (List.replicate n none)
theorem fillL_snoc (n : Nat) (xs : List Slt) (x : Slt) : fillL n (xs ++ [x]) = putL (fillL n xs) x := by
  unfold fillL; rw [List.foldl_append]; rfl
theorem foldl_put_length (xs : List Slt) (t : List (Option Slt)) : (xs.foldl putL t).length = t.length := by
  induction xs generalizing t with
  | nil => rfl
  | cons x xs ih => rw [List.foldl_cons, ih, putL, putF_length]
theorem fillL_length (n : Nat) (xs : List Slt) : (fillL n xs).length = n := by
  unfold fillL; rw [foldl_put_length]; simp
theorem foldl_put_full (xs : List Slt) (t : List (Option Slt)) (h : fullN t + xs.length ≤ t.length) (hp : 0 < t.length) : fullN (xs.foldl putL t) = fullN t + xs.length := by
  induction xs generalizing t with
  | nil => rfl
  | cons x xs ih =>
    obtain ⟨e, h1, h2⟩ := fullN_free (t := t) (by simp at h; omega)
    have e1 : fullN (putL t x) = fullN t + 1 := fullN_put t.length e h1 t.length t x (x.num % t.length) rfl (Nat.mod_lt _ hp) h2 (gap_lt hp)
    have e2 : (putL t x).length = t.length := putF_length _ _ _ _
    rw [List.foldl_cons, ih (putL t x) (by rw [e1, e2]; simp at h; omega) (by omega), e1]
    simp; omega
theorem fillL_full {n : Nat} {xs : List Slt} (h : xs.length ≤ n) (hn : 0 < n) : fullN (fillL n xs) = xs.length := by
  have h0 : fullN (List.replicate n (none : Option Slt)) = 0 := by simp [fullN]
  unfold fillL
  rw [foldl_put_full xs _ (by rw [h0]; simp; omega) (by simp; omega), h0]
  omega
/-- There is a free slot for one more. -/
theorem fillL_free {n : Nat} {xs : List Slt} (h : xs.length < n) : ∃ e, e < n ∧ (fillL n xs)[e]? = some none := by
  have := fullN_free (t := fillL n xs) (by rw [fillL_length, fillL_full (by omega) (by omega)]; exact h)
  rwa [fillL_length] at this

/-- How far the farthest of the first so many stands from its home. -/
def farP (n : Nat) (t : List (Option Slt)) : Nat → Nat
  | 0 => 0
  | k + 1 => match t.getD k none with
    | none => farP n t k
    | some x => max (farP n t k) (awayN n x k)
theorem farP_none {n k : Nat} {t : List (Option Slt)} (h : t[k]? = some none) : farP n t (k + 1) = farP n t k := by
  rw [farP, List.getD, h]; rfl
theorem farP_some {n k : Nat} {t : List (Option Slt)} {x : Slt} (h : t[k]? = some (some x)) : farP n t (k + 1) = max (farP n t k) (awayN n x k) := by
  rw [farP, List.getD, h]; rfl
theorem farP_lt {n : Nat} (hn : 0 < n) (t : List (Option Slt)) (k : Nat) : farP n t k < n := by
  induction k with
  | zero => exact hn
  | succ k ih =>
    rw [farP]
    split
    · exact ih
    · have := awayN_lt hn (by assumption) k
      omega

/-- The bytes of a slot. -/
def sltB : Option Slt → List UInt8
  | none => lowL 0 10
  | some x => lowL 1 1 ++ lowL x.num 4 ++ lowL x.blk 4 ++ lowL x.no 1
theorem lowL_len (n k : Nat) : (lowL n k).length = k := by
  induction k generalizing n with
  | zero => rfl
  | succ k ih => simp [lowL, ih]
theorem sltB_length (x : Option Slt) : (sltB x).length = 10 := by
  cases x <;> simp [sltB, lowL_len]
def tabB (t : List (Option Slt)) : List UInt8 := t.flatMap sltB
theorem tabB_snoc (t : List (Option Slt)) (x : Option Slt) : tabB (t ++ [x]) = tabB t ++ sltB x := by simp [tabB]
theorem tabB_length (t : List (Option Slt)) : (tabB t).length = 10 * t.length := by
  induction t with
  | nil => rfl
  | cons x t ih =>
    show (sltB x ++ tabB t).length = _
    rw [List.length_append, ih, sltB_length, List.length_cons]; omega
def frontB (live slots far size sum : Nat) : List UInt8 := [73, 88] ++ lowL live 2 ++ lowL slots 2 ++ lowL far 2 ++ lowL size 4 ++ lowL sum 4
theorem frontB_length (a b c d e : Nat) : (frontB a b c d e).length = 16 := by simp [frontB, lowL_len]

/-- The index of a log whose live entries these are. -/
def tableOf (seed bits : Int) (live : List Sd) : List (Option Slt) := fillL (sizeL live.length) (live.map (sltOf seed bits))
def indexB (log : List UInt8) (seed bits : Int) (live : List Sd) : List UInt8 :=
  sealL (frontB live.length (sizeL live.length) (farP (sizeL live.length) (tableOf seed bits live) (sizeL live.length)) log.length (sumI log).toNat) ++ sealL (tabB (tableOf seed bits live))
/-- What Index answers; nothing: ErrForm. -/
def indexS (log : List UInt8) : Option (List UInt8) :=
  if 100000 < log.length then none
  else if headB log = false then none
  else if (readL log (hdBlk log) 14).2 < log.length then none
  else if 2000 < (liveL (readL log (hdBlk log) 14).1).length then none
  else some (indexB log (hdSeed log) (hdBits log) (liveL (readL log (hdBlk log) 14).1))

/-- How far something stands, as the document reckons it, and as the program does. -/
theorem awayN_ref {n a : Nat} (x : Slt) (ha : a < n) : awayN n x a = if a < x.num % n then a + n - x.num % n else a - x.num % n := by
  have hh : x.num % n < n := Nat.mod_lt _ (by omega)
  unfold awayN
  split
  · rw [Nat.mod_eq_of_lt (by omega)]
  · rw [show a + n - x.num % n = (a - x.num % n) + n by omega, Nat.add_mod_right, Nat.mod_eq_of_lt (by omega)]
theorem awayN_prog {n a : Nat} (x : Slt) (ha : a < n) : ((a : Int) - (x.num : Int) % (n : Int) + (n : Int)) % (n : Int) = (awayN n x a : Nat) := by
  have hh : x.num % n < n := Nat.mod_lt _ (by omega)
  have e : (a : Int) - (x.num : Int) % (n : Int) + (n : Int) = ((a + n - x.num % n : Nat) : Int) := by
    have : (x.num : Int) % (n : Int) = ((x.num % n : Nat) : Int) := by simp
    omega
  rw [e]
  unfold awayN
  simp

end Go.Proofs.YtdhgebdbiehchaaGreatDoor
namespace Go.Proofs.YtdhgebdbiehchaaGreatDoor
open Go.RowKit Go.Maps
set_option linter.unusedSimpArgs false
set_option linter.unusedVariables false

noncomputable instance litEq : DecidableEq Lit := fun a b => Classical.propDecidable (a = b)
/-- What a map, as it is read, holds at each key. -/
def View (D : DataW Unit) (f : Lit → Option (DataW Unit)) : Prop := Tidy D ∧ ∀ k, (∀ z, D.atKey k z = (f k).getD z) ∧ Maps.has D k = (f k).isSome
theorem view_empty : View (.map []) (fun _ => none) := ⟨tidy_empty, fun k => ⟨fun z => rfl, rfl⟩⟩
theorem View.put {D : DataW Unit} {f : Lit → Option (DataW Unit)} (h : View D f) {k : Lit} (hk : WideAt.IsKeyLit k) (d : DataW Unit) : View (D.put k d) (fun j => if j = k then some d else f j) := by
  refine ⟨h.1.put hk d, fun j => ?_⟩
  by_cases e : j = k
  · subst e
    exact ⟨fun z => by rw [atKey_put_same h.1.isMap hk]; simp, by rw [has_put_same h.1.isMap hk]; simp⟩
  · exact ⟨fun z => by rw [atKey_put_other e, (h.2 j).1 z]; simp [e], by rw [has_put_other e, (h.2 j).2]; simp [e]⟩
theorem View.del {D : DataW Unit} {f : Lit → Option (DataW Unit)} (h : View D f) (k : Lit) : View (D.del k) (fun j => if j = k then none else f j) := by
  refine ⟨h.1.del k, fun j => ?_⟩
  by_cases e : j = k
  · subst e
    exact ⟨fun z => by rw [atKey_del_same]; simp, by rw [has_del_same]; simp⟩
  · exact ⟨fun z => by rw [atKey_del_other e, (h.2 j).1 z]; simp [e], by rw [has_del_other e, (h.2 j).2]; simp [e]⟩
theorem View.congr {D : DataW Unit} {f g : Lit → Option (DataW Unit)} (h : View D f) (e : ∀ k, f k = g k) : View D g := by
  have : f = g := funext e
  rw [← this]; exact h

/-- A place, as a key reads; what lies at a key. -/
def pk (a b : Nat) : Lit := .string (keyBytes [.int .i64 a, .int .i64 b])
def placeD (x : Sd) : DataW Unit := .agg [.lit (.int .i64 x.blk), .lit (.int .i64 x.no)]
def itemD (x : Sd) : DataW Unit := .agg [.lit (.string x.key), .lit (.string x.val)]
noncomputable def fI (L : List Sd) (k : Lit) : Option (DataW Unit) := (L.find? (fun x => decide (pk x.blk x.no = k))).map itemD
noncomputable def fP (L : List Sd) (k : Lit) : Option (DataW Unit) := (L.find? (fun x => decide (Lit.string x.key = k))).map placeD

theorem find_filter_sub {α : Type} {p q : α → Bool} {L : List α} (h : ∀ x ∈ L, p x = true → q x = true) : (L.filter q).find? p = L.find? p := by
  induction L with
  | nil => rfl
  | cons x L ih =>
    have ih' := ih (fun y hy => h y (by simp [hy]))
    by_cases hq : q x = true
    · rw [List.filter_cons_of_pos hq, List.find?_cons, List.find?_cons, ih']
    · rw [List.filter_cons_of_neg hq, ih', List.find?_cons]
      cases hp : p x
      · rfl
      · exact absurd (h x (by simp) hp) hq
theorem find_filter_out {α : Type} {p q : α → Bool} {L : List α} (h : ∀ x ∈ L, p x = true → q x = false) : (L.filter q).find? p = none := by
  rw [List.find?_eq_none]
  intro x hx
  obtain ⟨h1, h2⟩ := List.mem_filter.1 hx
  intro hp
  rw [h x h1 hp] at h2
  cases h2

/-- The live ones: no two of one key, places rise, and are small. -/
structure Lives (L : List Sd) : Prop where
  keys : L.Pairwise (fun x y => x.key ≠ y.key)
  rise : L.Pairwise placeLt
  small : ∀ x ∈ L, x.blk < 4294967296 ∧ x.no < 4294967296
theorem pairwise_eq {α : Type} {R : α → α → Prop} {L : List α} (h : L.Pairwise R) {x y : α} (hx : x ∈ L) (hy : y ∈ L) (h1 : ¬ R x y) (h2 : ¬ R y x) : x = y := by
  induction L with
  | nil => cases hx
  | cons z L ih =>
    obtain ⟨ha, hb⟩ := List.pairwise_cons.1 h
    rcases List.mem_cons.1 hx with e1 | hx'
    · subst e1
      rcases List.mem_cons.1 hy with e2 | hy'
      · exact e2.symm
      · exact absurd (ha y hy') h1
    · rcases List.mem_cons.1 hy with e2 | hy'
      · subst e2
        exact absurd (ha x hx') h2
      · exact ih hb hx' hy'
theorem Lives.key_eq {L : List Sd} (h : Lives L) {x y : Sd} (hx : x ∈ L) (hy : y ∈ L) (e : x.key = y.key) : x = y := pairwise_eq h.keys hx hy (fun n => n e) (fun n => n e.symm)
theorem Lives.place_eq {L : List Sd} (h : Lives L) {x y : Sd} (hx : x ∈ L) (hy : y ∈ L) (e : x.blk = y.blk) (e2 : x.no = y.no) : x = y := by
  refine pairwise_eq h.rise hx hy ?_ ?_
  · unfold placeLt; omega
  · unfold placeLt; omega
theorem Lives.filter {L : List Sd} (h : Lives L) (q : Sd → Bool) : Lives (L.filter q) := ⟨h.keys.filter _, h.rise.filter _, fun x hx => h.small x (List.mem_filter.1 hx).1⟩

/-- By one entry more: what its key had goes. -/
def less (L : List Sd) (key : List UInt8) : List Sd := L.filter (fun y => decide (y.key ≠ key))
def step (L : List Sd) (x : Sd) : List Sd := less L x.key ++ (if x.put = true then [x] else [])

/-- Distinct places read as distinct keys. -/
def PkInj : Prop := ∀ a b c d : Nat, a < 4294967296 → b < 4294967296 → c < 4294967296 → d < 4294967296 → pk a b = pk c d → a = c ∧ b = d

theorem less_same {L : List Sd} {key : List UInt8} (h : ∀ x ∈ L, x.key ≠ key) : less L key = L := List.filter_eq_self.2 (fun x hx => by simpa using h x hx)
theorem less_length {L : List Sd} (hL : Lives L) {y : Sd} (hy : y ∈ L) : (less L y.key).length + 1 = L.length := by
  have hk := hL.keys
  clear hL
  unfold less
  induction L with
  | nil => cases hy
  | cons z L ih =>
    obtain ⟨ha, hb⟩ := List.pairwise_cons.1 hk
    rcases List.mem_cons.1 hy with rfl | hy
    · rw [List.filter_cons_of_neg (by simp), List.filter_eq_self.2 (fun x hx => by simpa using (ha x hx).symm)]
      rfl
    · rw [List.filter_cons_of_pos (by simpa using ha y hy), List.length_cons, ih hy hb, List.length_cons]
theorem fP_less (L : List Sd) (key : List UInt8) (k : Lit) : (if k = .string key then none else fP L k) = fP (less L key) k := by
  unfold fP less
  by_cases e : k = .string key
  · rw [if_pos e, find_filter_out]
    · rfl
    · intro x _ hp
      simp only [decide_eq_true_eq] at hp
      rw [e] at hp
      simp at hp
      simp [hp]
  · rw [if_neg e, find_filter_sub]
    intro x _ hp
    simp only [decide_eq_true_eq] at hp
    simp only [decide_eq_true_eq]
    intro h
    exact e (by rw [← hp, h])
theorem fI_less (hp : PkInj) {L : List Sd} (hL : Lives L) {y : Sd} (hy : y ∈ L) (k : Lit) : (if k = pk y.blk y.no then none else fI L k) = fI (less L y.key) k := by
  unfold fI less
  have hs := hL.small y hy
  by_cases e : k = pk y.blk y.no
  · rw [if_pos e, find_filter_out]
    · rfl
    · intro x hx h
      simp only [decide_eq_true_eq] at h
      rw [e] at h
      have hs' := hL.small x hx
      obtain ⟨e1, e2⟩ := hp _ _ _ _ hs'.1 hs'.2 hs.1 hs.2 h
      rw [hL.place_eq hx hy e1 e2]
      simp
  · rw [if_neg e, find_filter_sub]
    intro x hx h
    simp only [decide_eq_true_eq] at h
    simp only [decide_eq_true_eq]
    intro h2
    rw [hL.key_eq hx hy h2] at h
    exact e h.symm
theorem fP_snoc {L : List Sd} {x : Sd} (h : ∀ y ∈ L, y.key ≠ x.key) (k : Lit) : (if k = .string x.key then some (placeD x) else fP L k) = fP (L ++ [x]) k := by
  unfold fP
  rw [List.find?_append]
  by_cases e : k = .string x.key
  · have : L.find? (fun x => decide (Lit.string x.key = k)) = none := List.find?_eq_none.2 (fun y hy => by simpa [e] using h y hy)
    rw [if_pos e, this]
    simp [e]
  · rw [if_neg e]
    have : [x].find? (fun x => decide (Lit.string x.key = k)) = none := by simp [List.find?_cons, Ne.symm e]
    rw [this]; simp
theorem fI_snoc (hp : PkInj) {L : List Sd} (hL : Lives L) {x : Sd} (hs : x.blk < 4294967296 ∧ x.no < 4294967296) (h : ∀ y ∈ L, placeLt y x) (k : Lit) : (if k = pk x.blk x.no then some (itemD x) else fI L k) = fI (L ++ [x]) k := by
  unfold fI
  rw [List.find?_append]
  by_cases e : k = pk x.blk x.no
  · have : L.find? (fun x => decide (pk x.blk x.no = k)) = none := List.find?_eq_none.2 (fun y hy => by
      simp only [decide_eq_true_eq]
      intro e2
      rw [e] at e2
      have hs' := hL.small y hy
      obtain ⟨e1, e3⟩ := hp _ _ _ _ hs'.1 hs'.2 hs.1 hs.2 e2
      have := h y hy
      unfold placeLt at this
      omega)
    rw [if_pos e, this]
    simp [e]
  · rw [if_neg e]
    have : [x].find? (fun x => decide (pk x.blk x.no = k)) = none := by simp [List.find?_cons, Ne.symm e]
    rw [this]; simp
/-- What is found at a key. -/
theorem fP_none {L : List Sd} {key : List UInt8} (h : fP L (.string key) = none) : ∀ x ∈ L, x.key ≠ key := by
  intro x hx e
  unfold fP at h
  rw [Option.map_eq_none_iff, List.find?_eq_none] at h
  exact h x hx (by simp [e])
theorem fP_some {L : List Sd} {key : List UInt8} {d : DataW Unit} (h : fP L (.string key) = some d) : ∃ x ∈ L, x.key = key ∧ d = placeD x := by
  unfold fP at h
  rw [Option.map_eq_some_iff] at h
  obtain ⟨x, hx, rfl⟩ := h
  have := List.find?_some hx
  simp at this
  exact ⟨x, List.mem_of_find?_eq_some hx, this, rfl⟩
theorem fI_mem (hp : PkInj) {L : List Sd} (hL : Lives L) {x : Sd} (hx : x ∈ L) : fI L (pk x.blk x.no) = some (itemD x) := by
  unfold fI
  cases h : L.find? (fun y => decide (pk y.blk y.no = pk x.blk x.no)) with
  | none =>
    rw [List.find?_eq_none] at h
    exact absurd (by simp) (h x hx)
  | some y =>
    have hy := List.mem_of_find?_eq_some h
    have e := List.find?_some h
    simp only [decide_eq_true_eq] at e
    have s1 := hL.small y hy
    have s2 := hL.small x hx
    obtain ⟨e1, e2⟩ := hp _ _ _ _ s1.1 s1.2 s2.1 s2.2 e
    rw [hL.place_eq hy hx e1 e2]
    rfl
theorem fI_isSome {L : List Sd} {k : Lit} (h : (fI L k).isSome = true) : ∃ x ∈ L, pk x.blk x.no = k := by
  unfold fI at h
  rw [Option.isSome_map, List.find?_isSome] at h
  obtain ⟨x, hx, e⟩ := h
  exact ⟨x, hx, by simpa using e⟩
theorem Lives.step {L : List Sd} (hL : Lives L) {x : Sd} (hs : x.blk < 4294967296 ∧ x.no < 4294967296) (h : ∀ y ∈ L, placeLt y x) : Lives (step L x) := by
  unfold YtdhgebdbiehchaaGreatDoor.step less
  cases x.put
  · simpa using hL.filter _
  · have hF := hL.filter (fun y => decide (y.key ≠ x.key))
    refine ⟨?_, ?_, ?_⟩
    · rw [if_pos rfl, List.pairwise_append]
      exact ⟨hF.keys, by simp, fun y hy z hz => by simp at hz; subst hz; simpa using (List.mem_filter.1 hy).2⟩
    · rw [if_pos rfl, List.pairwise_append]
      exact ⟨hF.rise, by simp, fun y hy z hz => by simp at hz; subst hz; exact h y (List.mem_filter.1 hy).1⟩
    · intro y hy
      rcases List.mem_append.1 hy with hy | hy
      · exact hF.small y hy
      · simp at hy; subst hy; exact hs
/-- How a place and an item, as elements, read. -/
def rPl : Value → Option (DataW Unit × List MemPlace)
  | .agg cs => match cs.toList with
    | [.int .i64 a, .int .i64 b] => some (.agg [.lit (.int .i64 a), .lit (.int .i64 b)], [])
    | _ => none
  | _ => none
def rIt : Value → Option (DataW Unit × List MemPlace)
  | .agg cs => match cs.toList with
    | [.string a, .string b] => some (.agg [.lit (.string a.data.toList), .lit (.string b.data.toList)], [])
    | _ => none
  | _ => none
theorem rPl_mk (a b : Int) : rPl (.agg #[.int .i64 a, .int .i64 b]) = some (.agg [.lit (.int .i64 a), .lit (.int .i64 b)], []) := rfl
theorem rIt_mk (a b : ByteArray) : rIt (.agg #[.string a, .string b]) = some (.agg [.lit (.string a.data.toList), .lit (.string b.data.toList)], []) := rfl
theorem rPl_inv {v : Value} {a b : Int} {ps : List MemPlace} (h : rPl v = some (.agg [.lit (.int .i64 a), .lit (.int .i64 b)], ps)) : v = .agg #[.int .i64 a, .int .i64 b] := by
  unfold rPl at h
  split at h
  · rename_i cs
    split at h
    · rename_i a' b' e
      simp at h
      obtain ⟨⟨rfl, rfl⟩, rfl⟩ := h
      have : cs = #[.int .i64 a', .int .i64 b'] := by rw [← Array.toList_inj, e]
      rw [this]
    · cases h
  · cases h
theorem rIt_inv {v : Value} {a b : List UInt8} {ps : List MemPlace} (h : rIt v = some (.agg [.lit (.string a), .lit (.string b)], ps)) : ∃ a' b' : ByteArray, v = .agg #[.string a', .string b'] ∧ a'.data.toList = a ∧ b'.data.toList = b := by
  unfold rIt at h
  split at h
  · rename_i cs
    split at h
    · rename_i a' b' e
      simp at h
      obtain ⟨⟨h1, h2⟩, rfl⟩ := h
      have : cs = #[.string a', .string b'] := by rw [← Array.toList_inj, e]
      exact ⟨a', b', by rw [this], h1, h2⟩
    · cases h
  · cases h
theorem step_live (ss : List Sd) (x : Sd) : step (liveL ss) x = liveL (ss ++ [x]) := (liveL_snoc ss x).symm

end Go.Proofs.YtdhgebdbiehchaaGreatDoor
namespace Go.Proofs.YtdhgebdbiehchaaGreatDoor
open Go.RowKit
set_option linter.unusedSimpArgs false
set_option linter.unusedVariables false

theorem info_said : (Tryz.prog.info? 302).map (fun i => (i.zero, i.size, i.bytes)) = some (some (.agg #[.bool false, .string ⟨#[]⟩, .string ⟨#[]⟩, .int .i64 0, .int .i64 0]), 5, 56) := by kernel_rfl

/-- Said entries as the cells of a row. -/
def cellsS (l : List Sd) : List Value := l.flatMap fun x => [.bool x.put, .string (S x.key), .string (S x.val), .int .i64 x.blk, .int .i64 x.no]
theorem cellsS_length (l : List Sd) : (cellsS l).length = l.length * 5 := by
  induction l with
  | nil => rfl
  | cons x l ih => simp [cellsS] at *; omega
theorem cellsS_snoc (l : List Sd) (x : Sd) : cellsS (l ++ [x]) = cellsS l ++ [.bool x.put, .string (S x.key), .string (S x.val), .int .i64 x.blk, .int .i64 x.no] := by simp [cellsS]
theorem cellsS_one (l : List Sd) : ∀ u ∈ cellsS l, u.oneCell' = true := by
  intro u hu
  simp only [cellsS, List.mem_flatMap] at hu
  obtain ⟨x, _, hx⟩ := hu
  simp only [List.mem_cons, List.not_mem_nil, or_false] at hx
  rcases hx with rfl | rfl | rfl | rfl | rfl <;> rfl
theorem cellsS_get {l : List Sd} {i : Nat} (h : i < l.length) : (cellsS l)[i * 5]? = some (.bool l[i].put) ∧ (cellsS l)[i * 5 + 1]? = some (.string (S l[i].key)) ∧ (cellsS l)[i * 5 + 2]? = some (.string (S l[i].val)) ∧ (cellsS l)[i * 5 + 3]? = some (.int .i64 l[i].blk) ∧ (cellsS l)[i * 5 + 4]? = some (.int .i64 l[i].no) := by
  induction l generalizing i with
  | nil => simp at h
  | cons e es ih =>
    cases i with
    | zero => exact ⟨rfl, rfl, rfl, rfl, rfl⟩
    | succ i =>
      have := ih (i := i) (by simpa using h)
      have e1 : ∀ j, (cellsS (e :: es))[(i + 1) * 5 + j]? = (cellsS es)[i * 5 + j]? := fun j => by
        show ([.bool e.put, .string (S e.key), .string (S e.val), .int .i64 e.blk, .int .i64 e.no] ++ cellsS es)[(i + 1) * 5 + j]? = _
        rw [List.getElem?_append_right (by simp; omega)]
        congr 1
        simp; omega
      exact ⟨(e1 0).trans this.1, (e1 1).trans this.2.1, (e1 2).trans this.2.2.1, (e1 3).trans this.2.2.2.1, (e1 4).trans this.2.2.2.2⟩
theorem own_cellsN {w : World} {base e size n : Nat} {v : Value} {xs : List Value} (h : w.ownsRow base e size v n xs) (hn : 0 < n) : ∃ g cap, v = .slice (some ⟨g, 0, none⟩) n cap ∧ base ≤ g ∧ g < w.heap.size ∧ ∀ j, j < n * size → w.cell? ⟨g, j, none⟩ = xs[j]? := by
  obtain ⟨h1, h2⟩ := h
  rcases h2 with ⟨_, h0⟩ | ⟨g, cap, cur, rfl, hb, hg, hc, hm, hsz, ht⟩
  · omega
  · refine ⟨g, cap, rfl, hb, (Array.getElem?_eq_some_iff.1 hg).1, fun j hj => World.ownsRow.cellAt (w := w) ⟨h1, .inr ⟨g, cap, cur, rfl, hb, hg, hc, hm, hsz, ht⟩⟩ j hj⟩
/-- A row of said entries, read. -/
theorem said_at {w : World} {base n g cap : Nat} {l : List Sd} (hg : ∀ j, j < l.length * 5 → w.cell? ⟨g, j, none⟩ = (cellsS l)[j]?) {i : Nat} (h : i < l.length) : w.cell? ⟨g, i * 5, none⟩ = some (.bool l[i].put) ∧ w.cell? ⟨g, i * 5 + 1, none⟩ = some (.string (S l[i].key)) ∧ w.cell? ⟨g, i * 5 + 2, none⟩ = some (.string (S l[i].val)) ∧ w.cell? ⟨g, i * 5 + 3, none⟩ = some (.int .i64 l[i].blk) ∧ w.cell? ⟨g, i * 5 + 4, none⟩ = some (.int .i64 l[i].no) := by
  obtain ⟨h0, h1, h2, h3, h4⟩ := cellsS_get h
  exact ⟨(hg _ (by omega)).trans h0, (hg _ (by omega)).trans h1, (hg _ (by omega)).trans h2, (hg _ (by omega)).trans h3, (hg _ (by omega)).trans h4⟩

/-- Is the entry at m the last of its key up to q, and a put? -/
def lastB (l : List Sd) (m q : Nat) : Bool := match l[m]? with
  | none => false
  | some x => x.put && ((l.drop (m + 1)).take (q - (m + 1))).all (fun y => y.key != x.key)
theorem lastB_start {l : List Sd} {m : Nat} (h : m < l.length) : lastB l m (m + 1) = l[m].put := by
  simp [lastB, List.getElem?_eq_getElem h]
theorem lastB_next {l : List Sd} {m q : Nat} (h : m < l.length) (hmq : m + 1 ≤ q) (hq : q < l.length) (ht : lastB l m q = true) : lastB l m (q + 1) = (l[q].key != l[m].key) := by
  simp only [lastB, List.getElem?_eq_getElem h] at ht ⊢
  have e : (l.drop (m + 1)).take (q + 1 - (m + 1)) = (l.drop (m + 1)).take (q - (m + 1)) ++ [l[q]] := by
    rw [show q + 1 - (m + 1) = (q - (m + 1)) + 1 by omega, List.take_succ_eq_append_getElem (by simp; omega)]
    congr 2
    simp; congr 1; omega
  rw [e, List.all_append, ← Bool.and_assoc, ht]
  simp
theorem lastB_end {l : List Sd} {m q : Nat} (h : m < l.length) (hq : q ≤ l.length) (hd : lastB l m q = false ∨ q = l.length) : liveL (l.drop m) = if lastB l m q = true then l[m] :: liveL (l.drop (m + 1)) else liveL (l.drop (m + 1)) := by
  have hfull : (lastB l m l.length = true) = (l[m].put = true ∧ ∀ y ∈ l.drop (m + 1), y.key ≠ l[m].key) := by
    simp only [lastB, List.getElem?_eq_getElem h]
    rw [List.take_of_length_le (by simp)]
    simp
  have hmono : lastB l m q = false → lastB l m l.length = false := by
    intro hf
    by_cases hx : lastB l m l.length = true
    · rw [hfull] at hx
      simp only [lastB, List.getElem?_eq_getElem h, hx.1, Bool.true_and] at hf
      rw [List.all_eq_false] at hf
      obtain ⟨y, hy, hyk⟩ := hf
      have := hx.2 y (List.mem_of_mem_take hy)
      simp at hyk
      exact absurd hyk this
    · simpa using hx
  have he : (lastB l m q = true) = (lastB l m l.length = true) := by
    rcases hd with hd | hd
    · rw [hd, hmono hd]
    · rw [hd]
  rw [List.drop_eq_getElem_cons h, liveL]
  simp only [he, hfull]

set_option maxRecDepth 100000 in
set_option maxHeartbeats 3200000 in
theorem refLive_any (v : Value) (l : List Sd) (w : World) (base : Nat) (hown : w.ownsRow base 302 5 v l.length (cellsS l)) (hlen : l.length ≤ 100000000) :
    Calls Tryz.prog 164 #[v] w fun e w' => ∃ v', e = .returned v' ∧ w'.ownsRow w.heap.size 302 5 v' (liveL l).length (cellsS (liveL l)) ∧ Below w.heap.size w w' := by
  obtain ⟨i0, hi, hz0, hz1, hz2⟩ := info_parts info_said
  by_cases h0 : l.length = 0
  · obtain ⟨p, c, rfl⟩ := own_len hown
    have hnil : l = [] := List.eq_nil_of_length_eq_zero h0
    subst hnil
    clear hown
    go_enter Tryz.func164, Tryz.ntmps164
    go_wp2
    refine wp_loop_rounds 1 ?_
    rw [rounds_succ]
    go_wp2
    go_ret
    exact ⟨_, rfl, World.ownsRow_nil _ _ _ _, Below.refl _ _⟩
  · obtain ⟨g, cap, rfl, _, hg, hcell⟩ := own_cellsN hown (by omega)
    have hcap : l.length ≤ cap := by
      rcases hown.2 with ⟨h, _⟩ | ⟨g', cap', cur, h', _, _, hnc, _⟩
      · simp at h
      · simp at h'; omega
    have HC : Hid (∀ j, j < l.length * 5 → w.cell? ⟨g, j, none⟩ = (cellsS l)[j]?) := hcell
    clear hown hcell
    go_enter Tryz.func164, Tryz.ntmps164
    go_wp2
    go_loopw [3, 4] (fun o i wr => ∃ (k : Nat), k ≤ l.length ∧ i = .int .i64 ((k : Int) - 1) ∧ wr.ownsRow w.heap.size 302 5 o (liveL (l.drop k)).length (cellsS (liveL (l.drop k))) ∧ Below w.heap.size w wr) (fun _ i _ => (intOf i + 1).toNat)
    case atStart => exact ⟨l.length, Nat.le_refl _, rfl, by rw [List.drop_length]; exact World.ownsRow_nil _ _ _ _, Below.refl _ _⟩
    case round =>
      obtain ⟨k, hk, rfl, ho, hb⟩ := hrel
      by_cases hk0 : k = 0
      · subst hk0
        rw [List.drop_zero] at ho
        have HO : Hid _ := ho
        clear ho
        go_wp2
        go_ret
        exact ⟨_, rfl, HO.out, hb⟩
      · obtain ⟨m, rfl⟩ : ∃ m, k = m + 1 := ⟨k - 1, by omega⟩
        have hmi : ((m + 1 : Nat) : Int) - 1 = (m : Int) := by omega
        rw [hmi]
        clear hmi hk0
        obtain ⟨W1, rfl⟩ : ∃ W1, W1 = wr := ⟨_, rfl⟩
        have hm : m < l.length := by omega
        have hgw : g < W1.heap.size := Nat.lt_of_lt_of_le hg hb.size
        obtain ⟨y0, y1, y2, y3, y4⟩ := said_at (w := w) (base := 0) (n := 0) (cap := 0) HC.out hm
        replace y0 := (hb.cell (p := ⟨g, m * 5, none⟩) hg).trans y0
        replace y1 := (hb.cell (p := ⟨g, m * 5 + 1, none⟩) hg).trans y1
        replace y2 := (hb.cell (p := ⟨g, m * 5 + 2, none⟩) hg).trans y2
        replace y3 := (hb.cell (p := ⟨g, m * 5 + 3, none⟩) hg).trans y3
        replace y4 := (hb.cell (p := ⟨g, m * 5 + 4, none⟩) hg).trans y4
        have HL : Hid (lastB l m (m + 1) = l[m].put) := lastB_start hm
        have HO : Hid _ := ho
        clear ho
        go_wp2
        go_loopw [5, 6] (fun la kk wx => ∃ (q : Nat), m + 1 ≤ q ∧ q ≤ l.length ∧ kk = .int .i64 q ∧ la = .bool (lastB l m q) ∧ Below W1.heap.size W1 wx) (fun _ kk _ => l.length - (intOf kk).toNat)
        case atStart => exact ⟨m + 1, Nat.le_refl _, hm, by congr 1, by rw [HL.out], Below.refl _ _⟩
        case round =>
          obtain ⟨q, hq1, hq2, rfl, rfl, hbx⟩ := hrel
          obtain ⟨wx, rfl⟩ : ∃ wx, wx = wr := ⟨_, rfl⟩
          have HOX : Hid _ := own_below HO.out hbx (Nat.le_refl _)
          have hbw : Below w.heap.size w wx := hb.trans (hbx.mono hb.size)
          have x0 := (hbx.cell (p := ⟨g, m * 5, none⟩) hgw).trans y0
          have x1 := (hbx.cell (p := ⟨g, m * 5 + 1, none⟩) hgw).trans y1
          have x2 := (hbx.cell (p := ⟨g, m * 5 + 2, none⟩) hgw).trans y2
          have x3 := (hbx.cell (p := ⟨g, m * 5 + 3, none⟩) hgw).trans y3
          have x4 := (hbx.cell (p := ⟨g, m * 5 + 4, none⟩) hgw).trans y4
          clear y0 y1 y2 y3 y4 HO HL
          cases hlast : lastB l m q
          · have HLV : Hid (liveL (l.drop m) = liveL (l.drop (m + 1))) := by
              show _ = _
              rw [lastB_end hm hq2 (.inl hlast), hlast]; rfl
            clear hlast
            go_wp2
            go_roundw
            case rel => exact ⟨m, by omega, by first | rfl | go_num, by rw [HLV.out]; exact HOX.out, hbw⟩
            case measure => first | (simp [intOf]; omega) | (simp [intOf])
          · by_cases hqn : q < l.length
            · obtain ⟨z0, z1, z2, z3, z4⟩ := said_at (w := w) (base := 0) (n := 0) (cap := 0) HC.out hqn
              replace z1 := (hbw.cell (p := ⟨g, q * 5 + 1, none⟩) hg).trans z1
              clear z0 z2 z3 z4 x0 x2 x3 x4
              have HNX : Hid (lastB l m (q + 1) = (l[q].key != l[m].key)) := lastB_next hm hq1 hqn hlast
              have HCMP : Hid ((!((S l[q].key).toList == (S l[m].key).toList)) = (l[q].key != l[m].key)) := by
                show _ = _
                rw [ByteArray.toList_eq, ByteArray.toList_eq, S_data, S_data]; rfl
              generalize (l[q].key != l[m].key) = bb at *
              generalize S l[q].key = s1 at *
              generalize S l[m].key = s2 at *
              clear hlast
              go_wp2_with fail
              go_quiet (fail)
              go_wp2
              go_roundw
              case rel => exact ⟨q + 1, by omega, by omega, by first | rfl | go_num, by rw [HNX.out, ← HCMP.out], below_drewN hbx _⟩
              case measure => first | (simp [intOf]; omega) | (simp [intOf])
            · have hqe : q = l.length := by omega
              subst hqe
              have HLV : Hid (liveL (l.drop m) = l[m] :: liveL (l.drop (m + 1))) := by
                show _ = _
                rw [lastB_end hm (Nat.le_refl _) (.inr rfl), if_pos hlast]
              clear hlast
              have hll : (liveL (l.drop (m + 1))).length ≤ 100000000 := by
                have := liveL_le (l.drop (m + 1))
                simp at this; omega
              have hsz := hbw.size
              have hlit := World.ownsRow_lit (base := w.heap.size) (e := 302) (size := 5) wx #[.bool l[m].put, .string (S l[m].key), .string (S l[m].val), .int .i64 l[m].blk, .int .i64 l[m].no] 1 hsz (by decide) rfl
              have HLIT : Hid _ := hlit
              clear hlit
              rcases HOX.out.2 with ⟨ho1, ho2⟩ | ⟨g2, cap2, cur, ho1, hg2, ho2⟩
              · have HE0 : Hid (liveL (l.drop (m + 1)) = []) := List.eq_nil_of_length_eq_zero ho2
                subst ho1
                go_wp2_with (at_builtin; refine wpList_append_own_none rfl (.tmp 49) (.tmp 50) 256 rfl w.heap.size 302 i0 5 Tryz.underlying256 hi _ _ _ rfl HLIT.out rfl ?_)
                go_roundw
                case rel => exact ⟨m, by omega, by first | rfl | go_num, by rw [HLV.out, HE0.out]; exact HLIT.out, hbw.alloc hsz _⟩
                case measure => first | (simp [intOf]; omega) | (simp [intOf])
              · subst ho1
                go_wp2_with (at_builtin; refine wpList_append_own _ rfl (.tmp 49) (.tmp 50) 256 rfl w.heap.size 302 i0 (.agg #[.bool false, .string ⟨#[]⟩, .string ⟨#[]⟩, .int .i64 0, .int .i64 0]) 5 56 Tryz.underlying256 hi hz0 hz1 hz2 rfl (by decide) _ _ _ rfl HLIT.out ⟨g2, 0, none⟩ (liveL (l.drop (m + 1))).length cap2 (cellsS (liveL (l.drop (m + 1)))) rfl (cellsS_length _) ?_ (cellsS_one _) (by unfold maxLen; omega) (by omega) (by simp; omega) ?_)
                · intro j u hj
                  have hjl : j < (liveL (l.drop (m + 1))).length * 5 := by
                    have := (List.getElem?_eq_some_iff.1 hj).1
                    rw [cellsS_length] at this; exact this
                  exact (World.ownsRow.cellAt (World.ownsRow.alloc HOX.out _) j hjl).trans hj
                · intro v' w1 hown' hgrow _
                  go_wp2
                  go_roundw
                  case rel => exact ⟨m, by omega, by first | rfl | go_num, by rw [HLV.out, List.length_cons, Nat.add_comm]; exact hown', (hbw.alloc hsz _).grown hgrow (by simp; omega) (own_ge HLIT.out)⟩
                  case measure => first | (simp [intOf]; omega) | (simp [intOf])
end Go.Proofs.YtdhgebdbiehchaaGreatDoor
namespace Go.Proofs.YtdhgebdbiehchaaGreatDoor
open Go.RowKit
set_option linter.unusedSimpArgs false
set_option linter.unusedVariables false

/-- The ten bytes of a slot. -/
def slotL (ix : List UInt8) (i : Nat) : List UInt8 := (ix.drop (20 + 10 * i)).take 10

/-- An answer: a value, how many slots, an error. -/
structure Ans where
  val : List UInt8
  num : Nat
  err : Int

/-- What the block of a slot leads to; nothing: on to the next. -/
def entStep (key : List UInt8) (k : Nat) (r : Option (List Ent × Nat)) (no : Nat) : Option Ans :=
  match r with
  | none => some ⟨[], 0, 3⟩
  | some (es, _) => match es[no]? with
    | none => some ⟨[], 0, 3⟩
    | some e => if e.put = false then some ⟨[], 0, 3⟩ else if e.key = key then some ⟨e.val, k + 1, 0⟩ else none
def slotStep (log key : List UInt8) (want : Nat) (blk : Int) (k : Nat) (s : List UInt8) : Option Ans :=
  if (s.getD 0 0).toNat = 0 then some ⟨[], k + 1, 2⟩
  else if (s.getD 0 0).toNat ≠ 1 ∨ highL ((s.drop 1).take 4) ≠ want then none
  else entStep key k (blockP log (highL ((s.drop 5).take 4)) blk) (s.getD 9 0).toNat

def lookGo (log ix key : List UInt8) (want n : Nat) (blk : Int) : Nat → Nat → Ans
  | 0, k => ⟨[], k, 2⟩
  | m + 1, k => match slotStep log key want blk k (slotL ix ((want + k) % n)) with
    | some a => a
    | none => lookGo log ix key want n blk m (k + 1)
theorem lookGo_some {log ix key : List UInt8} {want n m k : Nat} {blk : Int} {a : Ans} (h : slotStep log key want blk k (slotL ix ((want + k) % n)) = some a) : lookGo log ix key want n blk (m + 1) k = a := by
  rw [lookGo, h]
theorem lookGo_none {log ix key : List UInt8} {want n m k : Nat} {blk : Int} (h : slotStep log key want blk k (slotL ix ((want + k) % n)) = none) : lookGo log ix key want n blk (m + 1) k = lookGo log ix key want n blk m (k + 1) := by
  rw [lookGo, h]

def lookS (log ix key : List UInt8) : Ans :=
  if beginsE log ix = 0 then lookGo log ix key (numberI (hdSeed log) (hdBits log) key).toNat (ixN ix) (hdBlk log) (ixFar ix + 1) 0
  else ⟨[], 0, beginsE log ix⟩

theorem own_cells3 {w : World} {base e n : Nat} {v : Value} {xs : List Value} (h : w.ownsRow base e 3 v n xs) (hn : 0 < n) : ∃ g cap, v = .slice (some ⟨g, 0, none⟩) n cap ∧ base ≤ g ∧ g < w.heap.size ∧ ∀ j, j < n * 3 → w.cell? ⟨g, j, none⟩ = xs[j]? := by
  obtain ⟨h1, h2⟩ := h
  rcases h2 with ⟨_, h0⟩ | ⟨g, cap, cur, rfl, hb, hg, hc, hm, hsz, ht⟩
  · omega
  · refine ⟨g, cap, rfl, hb, (Array.getElem?_eq_some_iff.1 hg).1, fun j hj => World.ownsRow.cellAt (w := w) ⟨h1, .inr ⟨g, cap, cur, rfl, hb, hg, hc, hm, hsz, ht⟩⟩ j hj⟩
theorem cellsE_get {es : List Ent} {i : Nat} (h : i < es.length) : (cellsE es)[i * 3]? = some (.bool es[i].put) ∧ (cellsE es)[i * 3 + 1]? = some (.string (S es[i].key)) ∧ (cellsE es)[i * 3 + 2]? = some (.string (S es[i].val)) := by
  induction es generalizing i with
  | nil => simp at h
  | cons e es ih =>
    cases i with
    | zero => exact ⟨rfl, rfl, rfl⟩
    | succ i =>
      have := ih (i := i) (by simpa using h)
      have e1 : ∀ j, (cellsE (e :: es))[(i + 1) * 3 + j]? = (cellsE es)[i * 3 + j]? := fun j => by
        show ([.bool e.put, .string (S e.key), .string (S e.val)] ++ cellsE es)[(i + 1) * 3 + j]? = _
        rw [List.getElem?_append_right (by simp; omega)]
        congr 1
        simp; omega
      exact ⟨(e1 0).trans this.1, (e1 1).trans this.2.1, (e1 2).trans this.2.2⟩
theorem numberI_range (seed bits : Int) (key : List UInt8) (h0 : 0 ≤ bits) (h1 : bits ≤ 32) : 0 ≤ numberI seed bits key ∧ numberI seed bits key < 4294967296 := by
  unfold numberI
  have hp : (1 : Int) ≤ 2 ^ bits.toNat ∧ (2 : Int) ^ bits.toNat ≤ 4294967296 := by
    have h1 : (1 : Nat) ≤ 2 ^ bits.toNat := Nat.one_le_two_pow
    have h2 : (2 : Nat) ^ bits.toNat ≤ 2 ^ 32 := Nat.pow_le_pow_right (by omega) (by omega)
    have h3 : ((2 ^ bits.toNat : Nat) : Int) = 2 ^ bits.toNat := by simp
    omega
  have a := Int.emod_nonneg (fnv F0 (lowL seed.toNat 4 ++ key)) (show (2 : Int) ^ bits.toNat ≠ 0 by omega)
  have b := Int.emod_lt_of_pos (fnv F0 (lowL seed.toNat 4 ++ key)) (show (0 : Int) < 2 ^ bits.toNat by omega)
  omega
end Go.Proofs.YtdhgebdbiehchaaGreatDoor
