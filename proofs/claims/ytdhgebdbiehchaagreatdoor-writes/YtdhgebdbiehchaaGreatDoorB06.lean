/- A range over a function whose iterator tells things that lie in memory: a round is asked only where what is told lies; no round leaves the loop. What the program's two maps hold (by place the item, by key the place), as plain functions of the live entries. The contract of the document's Live: those entries that are a key's last, and puts, in order. The contracts of the document's away and Slots. Lemmas on the cells of a table, for the document's Slots. -/
import Derived.RangeFuncNested
import Derived.RangeFuncLeaves
import Derived.Test.YtdhgebdbiehchaaGreatDoorB04
import Derived.Maps.OwnIn
import Derived.Maps.OwnSet
import Derived.DeepKeys4
import Derived.Deep.DeepCutAuto
import Derived.Laws.AppendOwnNone
import Derived.BigQuiet
import Derived.Test.YtdhgebdbiehchaaGreatDoorB01
namespace Go.Proofs.YtdhgebdbiehchaaGreatDoor
open Go Go.RowKit
set_option linter.unusedVariables false

/-- The iterator's word: what it tells lies in memory (Px) when a round begins; no round says 'no more'. -/
def SeqTells {α : Type} (F : Fence) (n : Nat) (P : Program) (g : Nat) (lb : Array Value) (encs : α → Array Value) (Px : List α → α → World → Prop) (Kp : World → World → Prop) (S : List α → Prop) (w : World) : Prop :=
  ∀ (l : Nat) (J : List α → World → Prop) (W : World), Below w.heap.size w W → AbidesFrom W.heap.size J →
    (∀ pre x W1, J pre W1 → Px pre x W1 → YieldAt F (n - 1) P l (encs x) W1 fun e W' => e = .returned (.bool true) ∧ J (pre ++ [x]) W' ∧ Kp W1 W') →
    J [] W →
    CallsIn F n P g (#[.func (.yield l) #[] #[]] ++ lb) W fun e W' => (∃ v, e = .returned v) ∧ ∃ xs, S xs ∧ J xs W'

/-- How a round ends. -/
def tellPost {α : Type} (B : Nat) (Kp : World → World → Prop) (I : List α → World → Prop) (xs : List α) (W : World) : Exit → Act → World → Prop
  | .normal, _, W' => KeepsFrom B W W' ∧ Kp W W' ∧ I xs W'
  | _, _, _ => False

variable {F : Fence} {n : Nat} {P : Program}

/-- The law, out of the model's own rules for the loop's record. -/
theorem wpIn_rangeTells {α : Type} {g : Operand} {ps : Array Tmp} {assign body : Code} {Q : Exit → Act → World → Prop} {a : Act} {w : World}
    (hro : F.round = none) (h1 : 1 ≤ n) {gf : Nat} {lb : Array Value} (hg : a.eval g = .func (.func gf) #[] lb) (hFg : F.fn gf) (eg : ∀ args w, (callFunc gf args).run P w = .ok (.enter gf args) w)
    {encs : α → Array Value} {Px : List α → α → World → Prop} {Kp : World → World → Prop} {S : List α → Prop} {w0 : World} (hseq : SeqTells F (n - 1) P gf lb encs Px Kp S w0)
    (hKt : ∀ {A B C : World}, Kp A B → Kp B C → Kp A C) (hKb : ∀ (W : World) (l : Nat) (o o' : Obj), w.heap.size ≤ l → W.heap[l]? = some o → o.isCells = false → o.isWalk = false → Kp W (W.putObj l o')) (hb0 : Below w0.heap.size w0 w) (hps : ∀ x, (encs x).size = ps.size)
    (I : List α → World → Prop) (hI : OwnFrom w.heap.size I) (h0 : I [] w) (Ax : List α → α → Act → World → Prop) (hAx : ∀ pre x a', OwnFrom w.heap.size (fun (_ : Unit) W => Ax pre x a' W))
    (hassign : ∀ (l : Nat) (pre : List α) (x : α) (W : World) (K : Act → World → Prop), I pre W → Px pre x W → (∀ a' W', KeepsFrom w.heap.size W W' → Kp W W' → I pre W' → Ax pre x a' W' → K a' W') →
      assign.wpIn (F.inRound l) (n - 1 - 1) P (Exit.then K (fun _ _ _ => False)) { tmps := (ps.zip (encs x)).foldl (fun t (p, v) => t.setIfInBounds p v) a.tmps, defers := [] } W)
    (hbody : ∀ (l : Nat) (pre : List α) (x : α) (a' : Act) (W : World), I pre W → Ax pre x a' W → body.wpIn (F.inRound l) (n - 1 - 1) P (tellPost w.heap.size Kp I (pre ++ [x]) W) a' W)
    (hdone : ∀ (D : Nat) (xs : List α) (W : World), w.heap.size ≤ D → S xs → I xs W → W.heap[D]? = some (.deferred (some [])) → Q .normal { a with defers := { target := .collected D, args := #[] } :: a.defers } W) :
    (Code.rangeFunc g ps assign body).wpIn F n P Q a w := by
  refine wpIn_rangeFunc fun fn hfn => ?_
  rw [hro]
  let D := w.heap.size
  let l := w.heap.size + 1
  let rec0 : LoopState → Loop := fun st => { state := st, pending := none, fn, tmps := a.tmps, params := ps, assign, body, defers := D }
  obtain ⟨V, hV⟩ : ∃ V, (w.alloc (.deferred (some []))).alloc (.loop (rec0 .ready)) = V := ⟨_, rfl⟩
  have vl : V.heap[l]? = some (.loop (rec0 .ready)) := by
    rw [← hV]
    have := World.alloc_heap_new (w.alloc (.deferred (some []))) (.loop (rec0 .ready))
    rwa [World.size_alloc] at this
  have vD : V.heap[D]? = some (.deferred (some [])) := by
    rw [← hV]
    exact (Below.heap_alloc _ _ _ (by simp [D])).trans (World.alloc_heap_new w _)
  have vI : I [] V := by rw [← hV]; exact hI.alloc _ (hI.alloc _ h0)
  have vB : Below w0.heap.size w0 V := by
    rw [← hV]
    exact hb0.trans ((((Below.refl _ w).alloc (Nat.le_refl _) _).alloc (by simp) _).mono hb0.size)
  have vz : w.heap.size ≤ V.heap.size := by rw [← hV]; simp; omega
  refine ⟨l, [{ target := .collected D, args := #[] }], V, { target := .fn (.func gf) lb, args := #[.func (.yield l) #[] #[]] }, V, gf, #[.func (.yield l) #[] #[]] ++ lb, V, ?_, ?_, ?_, ?_, fun _ => h1, ?_⟩
  · rw [← hV]; exact run_enterLoop_outer _ _ _ _ _
  · simp only [resolve, hg]
    simp [go_sem]
  · intro f' hf'
    simp [Target.leads] at hf'
    subst hf'
    exact hFg
  · simp [invoke, go_sem, eg]
  · let J : List α → World → Prop := fun pre W => I pre W ∧ W.heap[l]? = some (.loop (rec0 .ready)) ∧ W.heap[D]? = some (.deferred (some []))
    have hJ : AbidesFrom V.heap.size J := by
      intro s A B row hs hgr hr
      have hw : ∀ r, row = some r → ∃ o : Obj, A.heap[r]? = some o ∧ o.isWalk = true := fun r e => (hr r e).2
      refine ⟨hI s A B row hs.1 hgr (fun r e => ?_), (grownBy_keeps hgr hw hs.2.1 rfl).trans hs.2.1, (grownBy_keeps hgr hw hs.2.2 rfl).trans hs.2.2⟩
      obtain ⟨hB, o, ho, hk⟩ := hr r e
      exact ⟨Nat.le_trans vz hB, o, ho, Obj.not_cells_of_walk hk⟩
    refine (hseq l J V vB hJ ?_ ⟨vI, vl, vD⟩).mono ?_
    · rintro pre x W ⟨hi, hl, hk⟩ hp
      refine ⟨fn, _, assign, body, run_yield (P := P) (args := encs x) hl (hps x), roundIn_of_wpIn hfn (hassign l pre x W _ hi hp ?_)⟩
      intro a' A hka hkp hia hax
      have al := hka.same l _ (by simp [l]) hl rfl
      have aD := hka.same D _ (Nat.le_refl _) hk rfl
      refine ⟨_, run_beginRound al rfl, ?_⟩
      have hlt : l < A.heap.size := (Array.getElem?_eq_some_iff.1 al).1
      obtain ⟨X, hX⟩ : ∃ X, A.putObj l (.loop { rec0 .ready with state := .busy }) = X := ⟨_, rfl⟩
      have xl : X.heap[l]? = some (.loop { rec0 .ready with state := .busy }) := by rw [← hX]; exact World.putObj_heap_same hlt
      have xD : X.heap[D]? = some (.deferred (some [])) := by rw [← hX]; exact (World.putObj_heap_other (by simp [D, l])).trans aD
      have xI : I pre X := by rw [← hX]; exact hI.putObj _ hia (by simp [l]) al rfl
      have xA : Ax pre x a' X := by rw [← hX]; exact (hAx pre x a').putObj (s := ()) _ hax (by simp [l]) al rfl
      have xK : Kp W X := by rw [← hX]; exact hKt hkp (hKb _ _ _ _ (by simp [l]) al rfl rfl)
      subst hX
      refine wpIn_mono (hbody l pre x a' _ xI xA) ?_
      rintro e a3 Y hpost
      cases e with
      | normal =>
        obtain ⟨hk3, hkp3, hi3⟩ := hpost
        have yl := hk3.same l _ (by simp [l]) xl rfl
        have yD := hk3.same D _ (Nat.le_refl _) xD rfl
        refine ⟨_, _, run_endRound (P := P) none yl, rfl, ⟨hI.putObj _ hi3 (by simp [l]) yl rfl, World.putObj_heap_same (Array.getElem?_eq_some_iff.1 yl).1, (World.putObj_heap_other (by simp [D, l])).trans yD⟩, hKt (hKt xK hkp3) (hKb _ _ _ _ (by simp [l]) yl rfl rfl)⟩
      | _ => exact hpost.elim
    · rintro e W2 ⟨⟨v, rfl⟩, xs, hS, hi, hl, hk⟩
      exact ⟨none, _, run_endLoop (P := P) hl (by simp [rec0]), hdone D xs _ (Nat.le_refl _) hS (hI.putObj _ hi (by simp [l]) hl rfl) ((World.putObj_heap_other (by simp [D, l])).trans hk)⟩
end Go.Proofs.YtdhgebdbiehchaaGreatDoor
namespace Go.Proofs.YtdhgebdbiehchaaGreatDoor
open Go.RowKit Go.Maps
set_option linter.unusedSimpArgs false
set_option linter.unusedVariables false

noncomputable instance litEq : DecidableEq Lit := fun a b => Classical.propDecidable (a = b)
/-- What a map, as it is read, holds at each key. -/
def View (D : DataW Unit) (f : Lit → Option (DataW Unit)) : Prop := Tidy D ∧ ∀ k, (∀ z, D.atKey k z = (f k).getD z) ∧ Maps.has D k = (f k).isSome
theorem view_empty : View (.map []) (fun _ => none) := ⟨tidy_empty, fun k => ⟨fun z => rfl, rfl⟩⟩
theorem View.put {D : DataW Unit} {f : Lit → Option (DataW Unit)} (h : View D f) {k : Lit} (hk : WideAt.IsKeyLit k) (d : DataW Unit) : View (D.put k d) (fun j => if j = k then some d else f j) := by
  refine ⟨h.1.put hk d, fun j => ?_⟩
  by_cases e : j = k
  · subst e
    exact ⟨fun z => by rw [atKey_put_same h.1.isMap hk]; simp, by rw [has_put_same h.1.isMap hk]; simp⟩
  · exact ⟨fun z => by rw [atKey_put_other e, (h.2 j).1 z]; simp [e], by rw [has_put_other e, (h.2 j).2]; simp [e]⟩
theorem View.del {D : DataW Unit} {f : Lit → Option (DataW Unit)} (h : View D f) (k : Lit) : View (D.del k) (fun j => if j = k then none else f j) := by
  refine ⟨h.1.del k, fun j => ?_⟩
  by_cases e : j = k
  · subst e
    exact ⟨fun z => by rw [atKey_del_same]; simp, by rw [has_del_same]; simp⟩
  · exact ⟨fun z => by rw [atKey_del_other e, (h.2 j).1 z]; simp [e], by rw [has_del_other e, (h.2 j).2]; simp [e]⟩
theorem View.congr {D : DataW Unit} {f g : Lit → Option (DataW Unit)} (h : View D f) (e : ∀ k, f k = g k) : View D g := by
  have : f = g := funext e
  rw [← this]; exact h

/-- A place, as a key reads; what lies at a key. -/
def pk (a b : Nat) : Lit := .string (keyBytes [.int .i64 a, .int .i64 b])
def placeD (x : Sd) : DataW Unit := .agg [.lit (.int .i64 x.blk), .lit (.int .i64 x.no)]
def itemD (x : Sd) : DataW Unit := .agg [.lit (.string x.key), .lit (.string x.val)]
noncomputable def fI (L : List Sd) (k : Lit) : Option (DataW Unit) := (L.find? (fun x => decide (pk x.blk x.no = k))).map itemD
noncomputable def fP (L : List Sd) (k : Lit) : Option (DataW Unit) := (L.find? (fun x => decide (Lit.string x.key = k))).map placeD

theorem find_filter_sub {α : Type} {p q : α → Bool} {L : List α} (h : ∀ x ∈ L, p x = true → q x = true) : (L.filter q).find? p = L.find? p := by
  induction L with
  | nil => rfl
  | cons x L ih =>
    have ih' := ih (fun y hy => h y (by simp [hy]))
    by_cases hq : q x = true
    · rw [List.filter_cons_of_pos hq, List.find?_cons, List.find?_cons, ih']
    · rw [List.filter_cons_of_neg hq, ih', List.find?_cons]
      cases hp : p x
      · rfl
      · exact absurd (h x (by simp) hp) hq
theorem find_filter_out {α : Type} {p q : α → Bool} {L : List α} (h : ∀ x ∈ L, p x = true → q x = false) : (L.filter q).find? p = none := by
  rw [List.find?_eq_none]
  intro x hx
  obtain ⟨h1, h2⟩ := List.mem_filter.1 hx
  intro hp
  rw [h x h1 hp] at h2
  cases h2

/-- The live ones: no two of one key, places rise, and are small. -/
structure Lives (L : List Sd) : Prop where
  keys : L.Pairwise (fun x y => x.key ≠ y.key)
  rise : L.Pairwise placeLt
  small : ∀ x ∈ L, x.blk < 4294967296 ∧ x.no < 4294967296
theorem pairwise_eq {α : Type} {R : α → α → Prop} {L : List α} (h : L.Pairwise R) {x y : α} (hx : x ∈ L) (hy : y ∈ L) (h1 : ¬ R x y) (h2 : ¬ R y x) : x = y := by
  induction L with
  | nil => cases hx
  | cons z L ih =>
    obtain ⟨ha, hb⟩ := List.pairwise_cons.1 h
    rcases List.mem_cons.1 hx with e1 | hx'
    · subst e1
      rcases List.mem_cons.1 hy with e2 | hy'
      · exact e2.symm
      · exact absurd (ha y hy') h1
    · rcases List.mem_cons.1 hy with e2 | hy'
      · subst e2
        exact absurd (ha x hx') h2
      · exact ih hb hx' hy'
theorem Lives.key_eq {L : List Sd} (h : Lives L) {x y : Sd} (hx : x ∈ L) (hy : y ∈ L) (e : x.key = y.key) : x = y := pairwise_eq h.keys hx hy (fun n => n e) (fun n => n e.symm)
theorem Lives.place_eq {L : List Sd} (h : Lives L) {x y : Sd} (hx : x ∈ L) (hy : y ∈ L) (e : x.blk = y.blk) (e2 : x.no = y.no) : x = y := by
  refine pairwise_eq h.rise hx hy ?_ ?_
  · unfold placeLt; omega
  · unfold placeLt; omega
theorem Lives.filter {L : List Sd} (h : Lives L) (q : Sd → Bool) : Lives (L.filter q) := ⟨h.keys.filter _, h.rise.filter _, fun x hx => h.small x (List.mem_filter.1 hx).1⟩

/-- By one entry more: what its key had goes. -/
def less (L : List Sd) (key : List UInt8) : List Sd := L.filter (fun y => decide (y.key ≠ key))
def step (L : List Sd) (x : Sd) : List Sd := less L x.key ++ (if x.put = true then [x] else [])

/-- Distinct places read as distinct keys. -/
def PkInj : Prop := ∀ a b c d : Nat, a < 4294967296 → b < 4294967296 → c < 4294967296 → d < 4294967296 → pk a b = pk c d → a = c ∧ b = d

theorem less_same {L : List Sd} {key : List UInt8} (h : ∀ x ∈ L, x.key ≠ key) : less L key = L := List.filter_eq_self.2 (fun x hx => by simpa using h x hx)
theorem less_length {L : List Sd} (hL : Lives L) {y : Sd} (hy : y ∈ L) : (less L y.key).length + 1 = L.length := by
  have hk := hL.keys
  clear hL
  unfold less
  induction L with
  | nil => cases hy
  | cons z L ih =>
    obtain ⟨ha, hb⟩ := List.pairwise_cons.1 hk
    rcases List.mem_cons.1 hy with rfl | hy
    · rw [List.filter_cons_of_neg (by simp), List.filter_eq_self.2 (fun x hx => by simpa using (ha x hx).symm)]
      rfl
    · rw [List.filter_cons_of_pos (by simpa using ha y hy), List.length_cons, ih hy hb, List.length_cons]
theorem fP_less (L : List Sd) (key : List UInt8) (k : Lit) : (if k = .string key then none else fP L k) = fP (less L key) k := by
  unfold fP less
  by_cases e : k = .string key
  · rw [if_pos e, find_filter_out]
    · rfl
    · intro x _ hp
      simp only [decide_eq_true_eq] at hp
      rw [e] at hp
      simp at hp
      simp [hp]
  · rw [if_neg e, find_filter_sub]
    intro x _ hp
    simp only [decide_eq_true_eq] at hp
    simp only [decide_eq_true_eq]
    intro h
    exact e (by rw [← hp, h])
theorem fI_less (hp : PkInj) {L : List Sd} (hL : Lives L) {y : Sd} (hy : y ∈ L) (k : Lit) : (if k = pk y.blk y.no then none else fI L k) = fI (less L y.key) k := by
  unfold fI less
  have hs := hL.small y hy
  by_cases e : k = pk y.blk y.no
  · rw [if_pos e, find_filter_out]
    · rfl
    · intro x hx h
      simp only [decide_eq_true_eq] at h
      rw [e] at h
      have hs' := hL.small x hx
      obtain ⟨e1, e2⟩ := hp _ _ _ _ hs'.1 hs'.2 hs.1 hs.2 h
      rw [hL.place_eq hx hy e1 e2]
      simp
  · rw [if_neg e, find_filter_sub]
    intro x hx h
    simp only [decide_eq_true_eq] at h
    simp only [decide_eq_true_eq]
    intro h2
    rw [hL.key_eq hx hy h2] at h
    exact e h.symm
theorem fP_snoc {L : List Sd} {x : Sd} (h : ∀ y ∈ L, y.key ≠ x.key) (k : Lit) : (if k = .string x.key then some (placeD x) else fP L k) = fP (L ++ [x]) k := by
  unfold fP
  rw [List.find?_append]
  by_cases e : k = .string x.key
  · have : L.find? (fun x => decide (Lit.string x.key = k)) = none := List.find?_eq_none.2 (fun y hy => by simpa [e] using h y hy)
    rw [if_pos e, this]
    simp [e]
  · rw [if_neg e]
    have : [x].find? (fun x => decide (Lit.string x.key = k)) = none := by simp [List.find?_cons, Ne.symm e]
    rw [this]; simp
theorem fI_snoc (hp : PkInj) {L : List Sd} (hL : Lives L) {x : Sd} (hs : x.blk < 4294967296 ∧ x.no < 4294967296) (h : ∀ y ∈ L, placeLt y x) (k : Lit) : (if k = pk x.blk x.no then some (itemD x) else fI L k) = fI (L ++ [x]) k := by
  unfold fI
  rw [List.find?_append]
  by_cases e : k = pk x.blk x.no
  · have : L.find? (fun x => decide (pk x.blk x.no = k)) = none := List.find?_eq_none.2 (fun y hy => by
      simp only [decide_eq_true_eq]
      intro e2
      rw [e] at e2
      have hs' := hL.small y hy
      obtain ⟨e1, e3⟩ := hp _ _ _ _ hs'.1 hs'.2 hs.1 hs.2 e2
      have := h y hy
      unfold placeLt at this
      omega)
    rw [if_pos e, this]
    simp [e]
  · rw [if_neg e]
    have : [x].find? (fun x => decide (pk x.blk x.no = k)) = none := by simp [List.find?_cons, Ne.symm e]
    rw [this]; simp
/-- What is found at a key. -/
theorem fP_none {L : List Sd} {key : List UInt8} (h : fP L (.string key) = none) : ∀ x ∈ L, x.key ≠ key := by
  intro x hx e
  unfold fP at h
  rw [Option.map_eq_none_iff, List.find?_eq_none] at h
  exact h x hx (by simp [e])
theorem fP_some {L : List Sd} {key : List UInt8} {d : DataW Unit} (h : fP L (.string key) = some d) : ∃ x ∈ L, x.key = key ∧ d = placeD x := by
  unfold fP at h
  rw [Option.map_eq_some_iff] at h
  obtain ⟨x, hx, rfl⟩ := h
  have := List.find?_some hx
  simp at this
  exact ⟨x, List.mem_of_find?_eq_some hx, this, rfl⟩
theorem fI_mem (hp : PkInj) {L : List Sd} (hL : Lives L) {x : Sd} (hx : x ∈ L) : fI L (pk x.blk x.no) = some (itemD x) := by
  unfold fI
  cases h : L.find? (fun y => decide (pk y.blk y.no = pk x.blk x.no)) with
  | none =>
    rw [List.find?_eq_none] at h
    exact absurd (by simp) (h x hx)
  | some y =>
    have hy := List.mem_of_find?_eq_some h
    have e := List.find?_some h
    simp only [decide_eq_true_eq] at e
    have s1 := hL.small y hy
    have s2 := hL.small x hx
    obtain ⟨e1, e2⟩ := hp _ _ _ _ s1.1 s1.2 s2.1 s2.2 e
    rw [hL.place_eq hy hx e1 e2]
    rfl
theorem fI_isSome {L : List Sd} {k : Lit} (h : (fI L k).isSome = true) : ∃ x ∈ L, pk x.blk x.no = k := by
  unfold fI at h
  rw [Option.isSome_map, List.find?_isSome] at h
  obtain ⟨x, hx, e⟩ := h
  exact ⟨x, hx, by simpa using e⟩
theorem Lives.step {L : List Sd} (hL : Lives L) {x : Sd} (hs : x.blk < 4294967296 ∧ x.no < 4294967296) (h : ∀ y ∈ L, placeLt y x) : Lives (step L x) := by
  unfold YtdhgebdbiehchaaGreatDoor.step less
  cases x.put
  · simpa using hL.filter _
  · have hF := hL.filter (fun y => decide (y.key ≠ x.key))
    refine ⟨?_, ?_, ?_⟩
    · rw [if_pos rfl, List.pairwise_append]
      exact ⟨hF.keys, by simp, fun y hy z hz => by simp at hz; subst hz; simpa using (List.mem_filter.1 hy).2⟩
    · rw [if_pos rfl, List.pairwise_append]
      exact ⟨hF.rise, by simp, fun y hy z hz => by simp at hz; subst hz; exact h y (List.mem_filter.1 hy).1⟩
    · intro y hy
      rcases List.mem_append.1 hy with hy | hy
      · exact hF.small y hy
      · simp at hy; subst hy; exact hs
/-- How a place and an item, as elements, read. -/
def rPl : Value → Option (DataW Unit × List MemPlace)
  | .agg cs => match cs.toList with
    | [.int .i64 a, .int .i64 b] => some (.agg [.lit (.int .i64 a), .lit (.int .i64 b)], [])
    | _ => none
  | _ => none
def rIt : Value → Option (DataW Unit × List MemPlace)
  | .agg cs => match cs.toList with
    | [.string a, .string b] => some (.agg [.lit (.string a.data.toList), .lit (.string b.data.toList)], [])
    | _ => none
  | _ => none
theorem rPl_mk (a b : Int) : rPl (.agg #[.int .i64 a, .int .i64 b]) = some (.agg [.lit (.int .i64 a), .lit (.int .i64 b)], []) := rfl
theorem rIt_mk (a b : ByteArray) : rIt (.agg #[.string a, .string b]) = some (.agg [.lit (.string a.data.toList), .lit (.string b.data.toList)], []) := rfl
theorem rPl_inv {v : Value} {a b : Int} {ps : List MemPlace} (h : rPl v = some (.agg [.lit (.int .i64 a), .lit (.int .i64 b)], ps)) : v = .agg #[.int .i64 a, .int .i64 b] := by
  unfold rPl at h
  split at h
  · rename_i cs
    split at h
    · rename_i a' b' e
      simp at h
      obtain ⟨⟨rfl, rfl⟩, rfl⟩ := h
      have : cs = #[.int .i64 a', .int .i64 b'] := by rw [← Array.toList_inj, e]
      rw [this]
    · cases h
  · cases h
theorem rIt_inv {v : Value} {a b : List UInt8} {ps : List MemPlace} (h : rIt v = some (.agg [.lit (.string a), .lit (.string b)], ps)) : ∃ a' b' : ByteArray, v = .agg #[.string a', .string b'] ∧ a'.data.toList = a ∧ b'.data.toList = b := by
  unfold rIt at h
  split at h
  · rename_i cs
    split at h
    · rename_i a' b' e
      simp at h
      obtain ⟨⟨h1, h2⟩, rfl⟩ := h
      have : cs = #[.string a', .string b'] := by rw [← Array.toList_inj, e]
      exact ⟨a', b', by rw [this], h1, h2⟩
    · cases h
  · cases h
theorem step_live (ss : List Sd) (x : Sd) : step (liveL ss) x = liveL (ss ++ [x]) := (liveL_snoc ss x).symm

end Go.Proofs.YtdhgebdbiehchaaGreatDoor
namespace Go.Proofs.YtdhgebdbiehchaaGreatDoor
open Go.RowKit
set_option linter.unusedSimpArgs false
set_option linter.unusedVariables false

theorem info_said : (Tryz.prog.info? 302).map (fun i => (i.zero, i.size, i.bytes)) = some (some (.agg #[.bool false, .string ⟨#[]⟩, .string ⟨#[]⟩, .int .i64 0, .int .i64 0]), 5, 56) := by kernel_rfl

/-- Said entries as the cells of a row. -/
def cellsS (l : List Sd) : List Value := l.flatMap fun x => [.bool x.put, .string (S x.key), .string (S x.val), .int .i64 x.blk, .int .i64 x.no]
theorem cellsS_length (l : List Sd) : (cellsS l).length = l.length * 5 := by
  induction l with
  | nil => rfl
  | cons x l ih => simp [cellsS] at *; omega
theorem cellsS_snoc (l : List Sd) (x : Sd) : cellsS (l ++ [x]) = cellsS l ++ [.bool x.put, .string (S x.key), .string (S x.val), .int .i64 x.blk, .int .i64 x.no] := by simp [cellsS]
theorem cellsS_one (l : List Sd) : ∀ u ∈ cellsS l, u.oneCell' = true := by
  intro u hu
  simp only [cellsS, List.mem_flatMap] at hu
  obtain ⟨x, _, hx⟩ := hu
  simp only [List.mem_cons, List.not_mem_nil, or_false] at hx
  rcases hx with rfl | rfl | rfl | rfl | rfl <;> rfl
theorem cellsS_get {l : List Sd} {i : Nat} (h : i < l.length) : (cellsS l)[i * 5]? = some (.bool l[i].put) ∧ (cellsS l)[i * 5 + 1]? = some (.string (S l[i].key)) ∧ (cellsS l)[i * 5 + 2]? = some (.string (S l[i].val)) ∧ (cellsS l)[i * 5 + 3]? = some (.int .i64 l[i].blk) ∧ (cellsS l)[i * 5 + 4]? = some (.int .i64 l[i].no) := by
  induction l generalizing i with
  | nil => simp at h
  | cons e es ih =>
    cases i with
    | zero => exact ⟨rfl, rfl, rfl, rfl, rfl⟩
    | succ i =>
      have := ih (i := i) (by simpa using h)
      have e1 : ∀ j, (cellsS (e :: es))[(i + 1) * 5 + j]? = (cellsS es)[i * 5 + j]? := fun j => by
        show ([.bool e.put, .string (S e.key), .string (S e.val), .int .i64 e.blk, .int .i64 e.no] ++ cellsS es)[(i + 1) * 5 + j]? = _
        rw [List.getElem?_append_right (by simp; omega)]
        congr 1
        simp; omega
      exact ⟨(e1 0).trans this.1, (e1 1).trans this.2.1, (e1 2).trans this.2.2.1, (e1 3).trans this.2.2.2.1, (e1 4).trans this.2.2.2.2⟩
theorem own_cellsN {w : World} {base e size n : Nat} {v : Value} {xs : List Value} (h : w.ownsRow base e size v n xs) (hn : 0 < n) : ∃ g cap, v = .slice (some ⟨g, 0, none⟩) n cap ∧ base ≤ g ∧ g < w.heap.size ∧ ∀ j, j < n * size → w.cell? ⟨g, j, none⟩ = xs[j]? := by
  obtain ⟨h1, h2⟩ := h
  rcases h2 with ⟨_, h0⟩ | ⟨g, cap, cur, rfl, hb, hg, hc, hm, hsz, ht⟩
  · omega
  · refine ⟨g, cap, rfl, hb, (Array.getElem?_eq_some_iff.1 hg).1, fun j hj => World.ownsRow.cellAt (w := w) ⟨h1, .inr ⟨g, cap, cur, rfl, hb, hg, hc, hm, hsz, ht⟩⟩ j hj⟩
/-- A row of said entries, read. -/
theorem said_at {w : World} {base n g cap : Nat} {l : List Sd} (hg : ∀ j, j < l.length * 5 → w.cell? ⟨g, j, none⟩ = (cellsS l)[j]?) {i : Nat} (h : i < l.length) : w.cell? ⟨g, i * 5, none⟩ = some (.bool l[i].put) ∧ w.cell? ⟨g, i * 5 + 1, none⟩ = some (.string (S l[i].key)) ∧ w.cell? ⟨g, i * 5 + 2, none⟩ = some (.string (S l[i].val)) ∧ w.cell? ⟨g, i * 5 + 3, none⟩ = some (.int .i64 l[i].blk) ∧ w.cell? ⟨g, i * 5 + 4, none⟩ = some (.int .i64 l[i].no) := by
  obtain ⟨h0, h1, h2, h3, h4⟩ := cellsS_get h
  exact ⟨(hg _ (by omega)).trans h0, (hg _ (by omega)).trans h1, (hg _ (by omega)).trans h2, (hg _ (by omega)).trans h3, (hg _ (by omega)).trans h4⟩

/-- Is the entry at m the last of its key up to q, and a put? -/
def lastB (l : List Sd) (m q : Nat) : Bool := match l[m]? with
  | none => false
  | some x => x.put && ((l.drop (m + 1)).take (q - (m + 1))).all (fun y => y.key != x.key)
theorem lastB_start {l : List Sd} {m : Nat} (h : m < l.length) : lastB l m (m + 1) = l[m].put := by
  simp [lastB, List.getElem?_eq_getElem h]
theorem lastB_next {l : List Sd} {m q : Nat} (h : m < l.length) (hmq : m + 1 ≤ q) (hq : q < l.length) (ht : lastB l m q = true) : lastB l m (q + 1) = (l[q].key != l[m].key) := by
  simp only [lastB, List.getElem?_eq_getElem h] at ht ⊢
  have e : (l.drop (m + 1)).take (q + 1 - (m + 1)) = (l.drop (m + 1)).take (q - (m + 1)) ++ [l[q]] := by
    rw [show q + 1 - (m + 1) = (q - (m + 1)) + 1 by omega, List.take_succ_eq_append_getElem (by simp; omega)]
    congr 2
    simp; congr 1; omega
  rw [e, List.all_append, ← Bool.and_assoc, ht]
  simp
theorem lastB_end {l : List Sd} {m q : Nat} (h : m < l.length) (hq : q ≤ l.length) (hd : lastB l m q = false ∨ q = l.length) : liveL (l.drop m) = if lastB l m q = true then l[m] :: liveL (l.drop (m + 1)) else liveL (l.drop (m + 1)) := by
  have hfull : (lastB l m l.length = true) = (l[m].put = true ∧ ∀ y ∈ l.drop (m + 1), y.key ≠ l[m].key) := by
    simp only [lastB, List.getElem?_eq_getElem h]
    rw [List.take_of_length_le (by simp)]
    simp
  have hmono : lastB l m q = false → lastB l m l.length = false := by
    intro hf
    by_cases hx : lastB l m l.length = true
    · rw [hfull] at hx
      simp only [lastB, List.getElem?_eq_getElem h, hx.1, Bool.true_and] at hf
      rw [List.all_eq_false] at hf
      obtain ⟨y, hy, hyk⟩ := hf
      have := hx.2 y (List.mem_of_mem_take hy)
      simp at hyk
      exact absurd hyk this
    · simpa using hx
  have he : (lastB l m q = true) = (lastB l m l.length = true) := by
    rcases hd with hd | hd
    · rw [hd, hmono hd]
    · rw [hd]
  rw [List.drop_eq_getElem_cons h, liveL]
  simp only [he, hfull]

set_option maxRecDepth 100000 in
set_option maxHeartbeats 3200000 in
theorem refLive_any (v : Value) (l : List Sd) (w : World) (base : Nat) (hown : w.ownsRow base 302 5 v l.length (cellsS l)) (hlen : l.length ≤ 100000000) :
    Calls Tryz.prog 164 #[v] w fun e w' => ∃ v', e = .returned v' ∧ w'.ownsRow w.heap.size 302 5 v' (liveL l).length (cellsS (liveL l)) ∧ Below w.heap.size w w' := by
  obtain ⟨i0, hi, hz0, hz1, hz2⟩ := info_parts info_said
  by_cases h0 : l.length = 0
  · obtain ⟨p, c, rfl⟩ := own_len hown
    have hnil : l = [] := List.eq_nil_of_length_eq_zero h0
    subst hnil
    clear hown
    go_enter Tryz.func164, Tryz.ntmps164
    go_wp2
    refine wp_loop_rounds 1 ?_
    rw [rounds_succ]
    go_wp2
    go_ret
    exact ⟨_, rfl, World.ownsRow_nil _ _ _ _, Below.refl _ _⟩
  · obtain ⟨g, cap, rfl, _, hg, hcell⟩ := own_cellsN hown (by omega)
    have hcap : l.length ≤ cap := by
      rcases hown.2 with ⟨h, _⟩ | ⟨g', cap', cur, h', _, _, hnc, _⟩
      · simp at h
      · simp at h'; omega
    have HC : Hid (∀ j, j < l.length * 5 → w.cell? ⟨g, j, none⟩ = (cellsS l)[j]?) := hcell
    clear hown hcell
    go_enter Tryz.func164, Tryz.ntmps164
    go_wp2
    go_loopw [3, 4] (fun o i wr => ∃ (k : Nat), k ≤ l.length ∧ i = .int .i64 ((k : Int) - 1) ∧ wr.ownsRow w.heap.size 302 5 o (liveL (l.drop k)).length (cellsS (liveL (l.drop k))) ∧ Below w.heap.size w wr) (fun _ i _ => (intOf i + 1).toNat)
    case atStart => exact ⟨l.length, Nat.le_refl _, rfl, by rw [List.drop_length]; exact World.ownsRow_nil _ _ _ _, Below.refl _ _⟩
    case round =>
      obtain ⟨k, hk, rfl, ho, hb⟩ := hrel
      by_cases hk0 : k = 0
      · subst hk0
        rw [List.drop_zero] at ho
        have HO : Hid _ := ho
        clear ho
        go_wp2
        go_ret
        exact ⟨_, rfl, HO.out, hb⟩
      · obtain ⟨m, rfl⟩ : ∃ m, k = m + 1 := ⟨k - 1, by omega⟩
        have hmi : ((m + 1 : Nat) : Int) - 1 = (m : Int) := by omega
        rw [hmi]
        clear hmi hk0
        obtain ⟨W1, rfl⟩ : ∃ W1, W1 = wr := ⟨_, rfl⟩
        have hm : m < l.length := by omega
        have hgw : g < W1.heap.size := Nat.lt_of_lt_of_le hg hb.size
        obtain ⟨y0, y1, y2, y3, y4⟩ := said_at (w := w) (base := 0) (n := 0) (cap := 0) HC.out hm
        replace y0 := (hb.cell (p := ⟨g, m * 5, none⟩) hg).trans y0
        replace y1 := (hb.cell (p := ⟨g, m * 5 + 1, none⟩) hg).trans y1
        replace y2 := (hb.cell (p := ⟨g, m * 5 + 2, none⟩) hg).trans y2
        replace y3 := (hb.cell (p := ⟨g, m * 5 + 3, none⟩) hg).trans y3
        replace y4 := (hb.cell (p := ⟨g, m * 5 + 4, none⟩) hg).trans y4
        have HL : Hid (lastB l m (m + 1) = l[m].put) := lastB_start hm
        have HO : Hid _ := ho
        clear ho
        go_wp2
        go_loopw [5, 6] (fun la kk wx => ∃ (q : Nat), m + 1 ≤ q ∧ q ≤ l.length ∧ kk = .int .i64 q ∧ la = .bool (lastB l m q) ∧ Below W1.heap.size W1 wx) (fun _ kk _ => l.length - (intOf kk).toNat)
        case atStart => exact ⟨m + 1, Nat.le_refl _, hm, by congr 1, by rw [HL.out], Below.refl _ _⟩
        case round =>
          obtain ⟨q, hq1, hq2, rfl, rfl, hbx⟩ := hrel
          obtain ⟨wx, rfl⟩ : ∃ wx, wx = wr := ⟨_, rfl⟩
          have HOX : Hid _ := own_below HO.out hbx (Nat.le_refl _)
          have hbw : Below w.heap.size w wx := hb.trans (hbx.mono hb.size)
          have x0 := (hbx.cell (p := ⟨g, m * 5, none⟩) hgw).trans y0
          have x1 := (hbx.cell (p := ⟨g, m * 5 + 1, none⟩) hgw).trans y1
          have x2 := (hbx.cell (p := ⟨g, m * 5 + 2, none⟩) hgw).trans y2
          have x3 := (hbx.cell (p := ⟨g, m * 5 + 3, none⟩) hgw).trans y3
          have x4 := (hbx.cell (p := ⟨g, m * 5 + 4, none⟩) hgw).trans y4
          clear y0 y1 y2 y3 y4 HO HL
          cases hlast : lastB l m q
          · have HLV : Hid (liveL (l.drop m) = liveL (l.drop (m + 1))) := by
              show _ = _
              rw [lastB_end hm hq2 (.inl hlast), hlast]; rfl
            clear hlast
            go_wp2
            go_roundw
            case rel => exact ⟨m, by omega, by first | rfl | go_num, by rw [HLV.out]; exact HOX.out, hbw⟩
            case measure => first | (simp [intOf]; omega) | (simp [intOf])
          · by_cases hqn : q < l.length
            · obtain ⟨z0, z1, z2, z3, z4⟩ := said_at (w := w) (base := 0) (n := 0) (cap := 0) HC.out hqn
              replace z1 := (hbw.cell (p := ⟨g, q * 5 + 1, none⟩) hg).trans z1
              clear z0 z2 z3 z4 x0 x2 x3 x4
              have HNX : Hid (lastB l m (q + 1) = (l[q].key != l[m].key)) := lastB_next hm hq1 hqn hlast
              have HCMP : Hid ((!((S l[q].key).toList == (S l[m].key).toList)) = (l[q].key != l[m].key)) := by
                show _ = _
                rw [ByteArray.toList_eq, ByteArray.toList_eq, S_data, S_data]; rfl
              generalize (l[q].key != l[m].key) = bb at *
              generalize S l[q].key = s1 at *
              generalize S l[m].key = s2 at *
              clear hlast
              go_wp2_with fail
              go_quiet (fail)
              go_wp2
              go_roundw
              case rel => exact ⟨q + 1, by omega, by omega, by first | rfl | go_num, by rw [HNX.out, ← HCMP.out], below_drewN hbx _⟩
              case measure => first | (simp [intOf]; omega) | (simp [intOf])
            · have hqe : q = l.length := by omega
              subst hqe
              have HLV : Hid (liveL (l.drop m) = l[m] :: liveL (l.drop (m + 1))) := by
                show _ = _
                rw [lastB_end hm (Nat.le_refl _) (.inr rfl), if_pos hlast]
              clear hlast
              have hll : (liveL (l.drop (m + 1))).length ≤ 100000000 := by
                have := liveL_le (l.drop (m + 1))
                simp at this; omega
              have hsz := hbw.size
              have hlit := World.ownsRow_lit (base := w.heap.size) (e := 302) (size := 5) wx #[.bool l[m].put, .string (S l[m].key), .string (S l[m].val), .int .i64 l[m].blk, .int .i64 l[m].no] 1 hsz (by decide) rfl
              have HLIT : Hid _ := hlit
              clear hlit
              rcases HOX.out.2 with ⟨ho1, ho2⟩ | ⟨g2, cap2, cur, ho1, hg2, ho2⟩
              · have HE0 : Hid (liveL (l.drop (m + 1)) = []) := List.eq_nil_of_length_eq_zero ho2
                subst ho1
                go_wp2_with (at_builtin; refine wpList_append_own_none rfl (.tmp 49) (.tmp 50) 256 rfl w.heap.size 302 i0 5 Tryz.underlying256 hi _ _ _ rfl HLIT.out rfl ?_)
                go_roundw
                case rel => exact ⟨m, by omega, by first | rfl | go_num, by rw [HLV.out, HE0.out]; exact HLIT.out, hbw.alloc hsz _⟩
                case measure => first | (simp [intOf]; omega) | (simp [intOf])
              · subst ho1
                go_wp2_with (at_builtin; refine wpList_append_own _ rfl (.tmp 49) (.tmp 50) 256 rfl w.heap.size 302 i0 (.agg #[.bool false, .string ⟨#[]⟩, .string ⟨#[]⟩, .int .i64 0, .int .i64 0]) 5 56 Tryz.underlying256 hi hz0 hz1 hz2 rfl (by decide) _ _ _ rfl HLIT.out ⟨g2, 0, none⟩ (liveL (l.drop (m + 1))).length cap2 (cellsS (liveL (l.drop (m + 1)))) rfl (cellsS_length _) ?_ (cellsS_one _) (by unfold maxLen; omega) (by omega) (by simp; omega) ?_)
                · intro j u hj
                  have hjl : j < (liveL (l.drop (m + 1))).length * 5 := by
                    have := (List.getElem?_eq_some_iff.1 hj).1
                    rw [cellsS_length] at this; exact this
                  exact (World.ownsRow.cellAt (World.ownsRow.alloc HOX.out _) j hjl).trans hj
                · intro v' w1 hown' hgrow _
                  go_wp2
                  go_roundw
                  case rel => exact ⟨m, by omega, by first | rfl | go_num, by rw [HLV.out, List.length_cons, Nat.add_comm]; exact hown', (hbw.alloc hsz _).grown hgrow (by simp; omega) (own_ge HLIT.out)⟩
                  case measure => first | (simp [intOf]; omega) | (simp [intOf])
end Go.Proofs.YtdhgebdbiehchaaGreatDoor
namespace Go.Proofs.YtdhgebdbiehchaaGreatDoor
open Go.RowKit
set_option linter.unusedSimpArgs false
set_option linter.unusedVariables false

theorem info_slot : (Tryz.prog.info? 263).map (fun i => (i.zero, i.size, i.bytes)) = some (some (.agg #[.bool false, .int .i64 0, .int .i64 0, .int .i64 0, .int .i64 0]), 5, 40) := by kernel_rfl

/-- The cells of a slot, in a table of n. -/
def sltC (n : Nat) : Option Slt → List Value
  | none => [.bool false, .int .i64 0, .int .i64 0, .int .i64 0, .int .i64 0]
  | some x => [.bool true, .int .i64 x.num, .int .i64 x.blk, .int .i64 x.no, .int .i64 ((x.num % n : Nat) : Int)]
theorem sltC_length (n : Nat) (x : Option Slt) : (sltC n x).length = 5 := by cases x <;> rfl
def cellsT (n : Nat) (t : List (Option Slt)) : List Value := t.flatMap (sltC n)
theorem cellsT_length (n : Nat) (t : List (Option Slt)) : (cellsT n t).length = t.length * 5 := by
  induction t with
  | nil => rfl
  | cons x t ih =>
    show (sltC n x ++ cellsT n t).length = _
    rw [List.length_append, ih, sltC_length, List.length_cons]; omega
theorem cellsT_at {n : Nat} {t : List (Option Slt)} {i : Nat} {x : Option Slt} (h : t[i]? = some x) (j : Nat) (hj : j < 5) : (cellsT n t)[i * 5 + j]? = (sltC n x)[j]? := by
  induction t generalizing i with
  | nil => simp at h
  | cons y t ih =>
    cases i with
    | zero =>
      simp at h; subst h
      show (sltC n y ++ cellsT n t)[0 * 5 + j]? = _
      rw [List.getElem?_append_left (by rw [sltC_length]; omega)]
      congr 1; omega
    | succ i =>
      show (sltC n y ++ cellsT n t)[(i + 1) * 5 + j]? = _
      rw [List.getElem?_append_right (by rw [sltC_length]; omega), sltC_length, show (i + 1) * 5 + j - 5 = i * 5 + j by omega]
      exact ih (by simpa using h)
theorem set5 {α : Type} (l r : List α) (x0 x1 x2 x3 x4 y0 y1 y2 y3 y4 : α) (k : Nat) (h : l.length = k) : (((((l ++ x0 :: x1 :: x2 :: x3 :: x4 :: r).set k y0).set (k + 1) y1).set (k + 2) y2).set (k + 3) y3).set (k + 4) y4 = l ++ y0 :: y1 :: y2 :: y3 :: y4 :: r := by
  subst h
  induction l with
  | nil => rfl
  | cons a l ih => simp
theorem cellsT_set {n : Nat} {t : List (Option Slt)} {i : Nat} (h : i < t.length) (x : Slt) : ((((((cellsT n t).set (i * 5) (.bool true)).set (i * 5 + 1) (.int .i64 x.num)).set (i * 5 + 2) (.int .i64 x.blk)).set (i * 5 + 3) (.int .i64 x.no)).set (i * 5 + 4) (.int .i64 ((x.num % n : Nat) : Int))) = cellsT n (t.set i (some x)) := by
  have e : t = t.take i ++ t[i] :: t.drop (i + 1) := by rw [List.getElem_cons_drop, List.take_append_drop]
  have hl : (t.take i).length = i := by simp; omega
  have e2 : t.set i (some x) = t.take i ++ some x :: t.drop (i + 1) := by
    conv => lhs; rw [e]
    rw [List.set_append_right _ _ (by omega), hl, Nat.sub_self]; rfl
  have c1 : ∀ (l r : List (Option Slt)) (y : Option Slt), cellsT n (l ++ y :: r) = cellsT n l ++ (sltC n y ++ cellsT n r) := fun l r y => by simp [cellsT]
  rw [e2, c1]
  conv => lhs; rw [e, c1]
  cases t[i] with
  | none => exact set5 _ _ _ _ _ _ _ _ _ _ _ _ _ (by rw [cellsT_length, hl])
  | some y => exact set5 _ _ _ _ _ _ _ _ _ _ _ _ _ (by rw [cellsT_length, hl])
theorem made5 (n : Nat) : (madeCells #[.bool false, .int .i64 0, .int .i64 0, .int .i64 0, .int .i64 0] (n * 5)).toList = cellsT n (List.replicate n none) := by
  apply List.ext_getElem?
  intro j
  by_cases hj : j < n * 5
  · have h5 : j % 5 < 5 := Nat.mod_lt _ (by omega)
    have hd : j / 5 < n := by omega
    have hr : (cellsT n (List.replicate n none))[j]? = (sltC n none)[j % 5]? := by
      have := cellsT_at (n := n) (t := List.replicate n none) (i := j / 5) (x := none) (by rw [List.getElem?_replicate, if_pos hd]) (j % 5) h5
      rwa [show j / 5 * 5 + j % 5 = j by omega] at this
    rw [hr]
    simp [madeCells, hj]
    generalize j % 5 = q at *
    match q, h5 with
    | 0, _ => rfl
    | 1, _ => rfl
    | 2, _ => rfl
    | 3, _ => rfl
    | 4, _ => rfl
  · have h1 : (cellsT n (List.replicate n none))[j]? = none := List.getElem?_eq_none (by rw [cellsT_length]; simp; omega)
    rw [h1]
    simp [madeCells, hj]

set_option maxHeartbeats 800000 in
theorem refAway_any (n : Nat) (x : Slt) (a : Nat) (w : World) (ha : a < n) (hn : n ≤ 5000) :
    Calls Tryz.prog 166 #[.agg #[.bool true, .int .i64 x.num, .int .i64 x.blk, .int .i64 x.no, .int .i64 ((x.num % n : Nat) : Int)], .int .i64 a, .int .i64 n] w fun e w' => e = .returned (.int .i64 (awayN n x a : Nat)) ∧ Below w.heap.size w w' := by
  have hh : x.num % n < n := Nat.mod_lt _ (by omega)
  have HA : Hid (awayN n x a = if a < x.num % n then a + n - x.num % n else a - x.num % n) := awayN_ref x ha
  generalize x.num % n = h at *
  by_cases hlt : a < h
  · go_enter Tryz.func166, Tryz.ntmps166
    go_wp2
    go_ret
    exact ⟨ret_int (by rw [HA.out, if_pos hlt]; omega), (Below.refl _ _).alloc (Nat.le_refl _) _⟩
  · go_enter Tryz.func166, Tryz.ntmps166
    go_wp2
    go_ret
    exact ⟨ret_int (by rw [HA.out, if_neg hlt]; omega), (Below.refl _ _).alloc (Nat.le_refl _) _⟩
end Go.Proofs.YtdhgebdbiehchaaGreatDoor
namespace Go.Proofs.YtdhgebdbiehchaaGreatDoor
open Go.RowKit
set_option linter.unusedSimpArgs false
set_option linter.unusedVariables false

theorem sizeF_stop {f n s : Nat} (h : ¬ s ≤ 5 * n / 4) : sizeF f n s = s := by
  cases f with
  | zero => rfl
  | succ f => rw [sizeF, if_neg h]

/-- A row of five cells, one element stored anew. -/
theorem own_store5 {w : World} {base g cap n : Nat} {t : List (Option Slt)} {a : Nat} (x : Slt) (h : w.ownsRow base 263 5 (.slice (some ⟨g, 0, none⟩) n cap) n (cellsT n t)) (hl : t.length = n) (ha : a < n) :
    (((((w.setCell ⟨g, a * 5, none⟩ (.bool true)).setCell ⟨g, a * 5 + 1, none⟩ (.int .i64 x.num)).setCell ⟨g, a * 5 + 2, none⟩ (.int .i64 x.blk)).setCell ⟨g, a * 5 + 3, none⟩ (.int .i64 x.no)).setCell ⟨g, a * 5 + 4, none⟩ (.int .i64 ((x.num % n : Nat) : Int))).ownsRow base 263 5 (.slice (some ⟨g, 0, none⟩) n cap) n (cellsT n (t.set a (some x))) := by
  rw [← cellsT_set (by omega) x]
  exact (((((h.stored _ _).1.stored _ _).1.stored _ _).1.stored _ _).1.stored _ _).1
/-- The cells of one slot. -/
def SlotAt (w : World) (g k : Nat) (n : Nat) (x : Slt) : Prop := w.cell? ⟨g, k, none⟩ = some (.bool true) ∧ w.cell? ⟨g, k + 1, none⟩ = some (.int .i64 x.num) ∧ w.cell? ⟨g, k + 2, none⟩ = some (.int .i64 x.blk) ∧ w.cell? ⟨g, k + 3, none⟩ = some (.int .i64 x.no) ∧ w.cell? ⟨g, k + 4, none⟩ = some (.int .i64 ((x.num % n : Nat) : Int))
theorem slot_at {w : World} {base g cap n : Nat} {t : List (Option Slt)} {a : Nat} {x : Slt} (h : w.ownsRow base 263 5 (.slice (some ⟨g, 0, none⟩) n cap) n (cellsT n t)) (hx : t[a]? = some (some x)) (ha : a < n) : SlotAt w g (a * 5) n x :=
  ⟨(h.cellAt (a * 5) (by omega)).trans (cellsT_at hx 0 (by omega)), (h.cellAt (a * 5 + 1) (by omega)).trans (cellsT_at hx 1 (by omega)), (h.cellAt (a * 5 + 2) (by omega)).trans (cellsT_at hx 2 (by omega)), (h.cellAt (a * 5 + 3) (by omega)).trans (cellsT_at hx 3 (by omega)), (h.cellAt (a * 5 + 4) (by omega)).trans (cellsT_at hx 4 (by omega))⟩
theorem SlotAt.below {w w' : World} {g k n m : Nat} {x : Slt} (h : SlotAt w g k n x) (hb : Below m w w') (hg : g < m) : SlotAt w' g k n x :=
  ⟨(hb.cell (p := ⟨g, k, none⟩) hg).trans h.1, (hb.cell (p := ⟨g, k + 1, none⟩) hg).trans h.2.1, (hb.cell (p := ⟨g, k + 2, none⟩) hg).trans h.2.2.1, (hb.cell (p := ⟨g, k + 3, none⟩) hg).trans h.2.2.2.1, (hb.cell (p := ⟨g, k + 4, none⟩) hg).trans h.2.2.2.2⟩
theorem keepA {p q r : Addr} {w wx w' : World} {a b c : Option Value} {m : Nat} (h : (wx.cell? p = a ∧ wx.cell? q = b ∧ wx.cell? r = c) ∧ Below m w wx ∧ m ≤ wx.heap.size) (hp : p.block < m) (hq : q.block < m) (hr : r.block < m) (hb : Below wx.heap.size wx w') :
    (w'.cell? p = a ∧ w'.cell? q = b ∧ w'.cell? r = c) ∧ Below m w w' ∧ m ≤ w'.heap.size := by
  obtain ⟨⟨h0, h1, h2⟩, h3, h4⟩ := h
  exact ⟨⟨(hb.cell (p := p) (by omega)).trans h0, (hb.cell (p := q) (by omega)).trans h1, (hb.cell (p := r) (by omega)).trans h2⟩, h3.trans (hb.mono h4), Nat.le_trans h4 hb.size⟩

/-- A slot in a box of its own. -/
def BoxAt (w : World) (g : Nat) (n : Nat) (x : Slt) : Prop := (w.cell? ⟨g, 0, none⟩ = some (.bool true) ∧ w.cell? ⟨g, 1, none⟩ = some (.int .i64 x.num) ∧ w.cell? ⟨g, 2, none⟩ = some (.int .i64 x.blk) ∧ w.cell? ⟨g, 3, none⟩ = some (.int .i64 x.no) ∧ w.cell? ⟨g, 4, none⟩ = some (.int .i64 ((x.num % n : Nat) : Int))) ∧ ∀ i, w.frozen? ⟨g, i, none⟩ = false
theorem BoxAt.below {w w' : World} {g n m : Nat} {x : Slt} (h : BoxAt w g n x) (hb : Below m w w') (hg : g < m) : BoxAt w' g n x :=
  ⟨⟨(hb.cell (p := ⟨g, 0, none⟩) hg).trans h.1.1, (hb.cell (p := ⟨g, 1, none⟩) hg).trans h.1.2.1, (hb.cell (p := ⟨g, 2, none⟩) hg).trans h.1.2.2.1, (hb.cell (p := ⟨g, 3, none⟩) hg).trans h.1.2.2.2.1, (hb.cell (p := ⟨g, 4, none⟩) hg).trans h.1.2.2.2.2⟩, fun i => (hb.frozen (p := ⟨g, i, none⟩) hg).trans (h.2 i)⟩
/-- Five stores into one block. -/
def put5 (w : World) (g k : Nat) (a b c d e : Value) : World := ((((w.setCell ⟨g, k, none⟩ a).setCell ⟨g, k + 1, none⟩ b).setCell ⟨g, k + 2, none⟩ c).setCell ⟨g, k + 3, none⟩ d).setCell ⟨g, k + 4, none⟩ e
theorem put5_far (w : World) {g m : Nat} (h : g ≠ m) (k : Nat) (a b c d e : Value) (j : Nat) : (put5 w g k a b c d e).cell? ⟨m, j, none⟩ = w.cell? ⟨m, j, none⟩ := by
  unfold put5
  rw [World.cell?_setCell_far _ _ _ _ h, World.cell?_setCell_far _ _ _ _ h, World.cell?_setCell_far _ _ _ _ h, World.cell?_setCell_far _ _ _ _ h, World.cell?_setCell_far _ _ _ _ h]
theorem put5_below {w w0 : World} {g n : Nat} (h : Below n w0 w) (hg : n ≤ g) (k : Nat) (a b c d e : Value) : Below n w0 (put5 w g k a b c d e) :=
  ((((h.setCell hg _).setCell hg _).setCell hg _).setCell hg _).setCell hg _
theorem put5_size (w : World) (g k : Nat) (a b c d e : Value) : (put5 w g k a b c d e).heap.size = w.heap.size := by simp [put5]
theorem grown_set (w : World) (b j : Nat) (u : Value) : w.grownBy (w.setCell ⟨b, j, none⟩ u) (some b) :=
  ⟨rfl, rfl, rfl, by simp, fun k _ hk => heap_setCell_other w ⟨b, j, none⟩ k u (fun e => hk (by simp [e]))⟩
theorem own_set_other {w : World} {base e size g cap n : Nat} {xs : List Value} (h : w.ownsRow base e size (.slice (some ⟨g, 0, none⟩) n cap) n xs) {b : Nat} (hb : g ≠ b) (j : Nat) (u : Value) : (w.setCell ⟨b, j, none⟩ u).ownsRow base e size (.slice (some ⟨g, 0, none⟩) n cap) n xs :=
  h.kept (grown_set w b j u) (.inr (by simp [Value.ownBlock]; exact hb))
theorem own_put5_other {w : World} {base e size g cap n : Nat} {xs : List Value} (h : w.ownsRow base e size (.slice (some ⟨g, 0, none⟩) n cap) n xs) {b : Nat} (hb : g ≠ b) (k : Nat) (v0 v1 v2 v3 v4 : Value) : (put5 w b k v0 v1 v2 v3 v4).ownsRow base e size (.slice (some ⟨g, 0, none⟩) n cap) n xs :=
  own_set_other (own_set_other (own_set_other (own_set_other (own_set_other h hb _ _) hb _ _) hb _ _) hb _ _) hb _ _
theorem off_ne {w : World} {b i k : Nat} {u : Value} (h : i ≠ k) : (w.setCell ⟨b, i, none⟩ u).cell? ⟨b, k, none⟩ = w.cell? ⟨b, k, none⟩ := World.cell?_setCell_other _ _ _ _ (by simp [h])
theorem box_put5 {w : World} {b n : Nat} {x : Slt} (h : BoxAt w b n x) (y : Slt) : BoxAt (put5 w b 0 (.bool true) (.int .i64 y.num) (.int .i64 y.blk) (.int .i64 y.no) (.int .i64 ((y.num % n : Nat) : Int))) b n y := by
  obtain ⟨⟨h0, h1, h2, h3, h4⟩, hf⟩ := h
  unfold put5
  simp only [Nat.zero_add]
  refine ⟨⟨?_, ?_, ?_, ?_, ?_⟩, fun i => by simp [hf i]⟩
  · rw [off_ne (by decide), off_ne (by decide), off_ne (by decide), off_ne (by decide), World.cell?_setCell_same _ _ _ h0]
  · rw [off_ne (by decide), off_ne (by decide), off_ne (by decide), World.cell?_setCell_same _ _ _ (by rw [off_ne (by decide)]; exact h1)]
  · rw [off_ne (by decide), off_ne (by decide), World.cell?_setCell_same _ _ _ (by rw [off_ne (by decide), off_ne (by decide)]; exact h2)]
  · rw [off_ne (by decide), World.cell?_setCell_same _ _ _ (by rw [off_ne (by decide), off_ne (by decide), off_ne (by decide)]; exact h3)]
  · rw [World.cell?_setCell_same _ _ _ (by rw [off_ne (by decide), off_ne (by decide), off_ne (by decide), off_ne (by decide)]; exact h4)]
theorem box_put5_other {w : World} {b n g : Nat} {x : Slt} (h : BoxAt w b n x) (hg : g ≠ b) (k : Nat) (v0 v1 v2 v3 v4 : Value) : BoxAt (put5 w g k v0 v1 v2 v3 v4) b n x := by
  obtain ⟨⟨h0, h1, h2, h3, h4⟩, hf⟩ := h
  exact ⟨⟨(put5_far w hg _ _ _ _ _ _ _).trans h0, (put5_far w hg _ _ _ _ _ _ _).trans h1, (put5_far w hg _ _ _ _ _ _ _).trans h2, (put5_far w hg _ _ _ _ _ _ _).trans h3, (put5_far w hg _ _ _ _ _ _ _).trans h4⟩, fun i => by simp [put5, hf i]⟩
theorem swap_world {wd : World} {B g b n a : Nat} {t : List (Option Slt)} {x y : Slt} (o : Obj) (hot : wd.ownsRow B 263 5 (.slice (some ⟨g, 0, none⟩) n n) n (cellsT n t)) (htl : t.length = n) (ha : a < n) (hbx : BoxAt wd b n x) (hgb : g ≠ b) (hb : b < wd.heap.size) :
    ((put5 (put5 wd g (a * 5) (.bool true) (.int .i64 x.num) (.int .i64 x.blk) (.int .i64 x.no) (.int .i64 ((x.num % n : Nat) : Int))) b 0 (.bool true) (.int .i64 y.num) (.int .i64 y.blk) (.int .i64 y.no) (.int .i64 ((y.num % n : Nat) : Int))).alloc o).ownsRow B 263 5 (.slice (some ⟨g, 0, none⟩) n n) n (cellsT n (t.set a (some x))) ∧
    BoxAt ((put5 (put5 wd g (a * 5) (.bool true) (.int .i64 x.num) (.int .i64 x.blk) (.int .i64 x.no) (.int .i64 ((x.num % n : Nat) : Int))) b 0 (.bool true) (.int .i64 y.num) (.int .i64 y.blk) (.int .i64 y.no) (.int .i64 ((y.num % n : Nat) : Int))).alloc o) b n y :=
  ⟨(own_put5_other (own_store5 x hot htl ha) hgb _ _ _ _ _ _).alloc o, (box_put5 (x := x) (box_put5_other hbx hgb _ _ _ _ _ _) y).below ((Below.refl _ _).alloc (Nat.le_refl _) o) (by rw [put5_size, put5_size]; exact hb)⟩
/-- All that is kept behind the exchange of a slot of the table and the one in its box. -/
theorem swap_all {w wd : World} {g b n a xq yq : Nat} {t : List (Option Slt)} {x y : Slt} {c1 c2 : Value} (hyq : y.num % n = yq ∧ x.num % n = xq) (hot : wd.ownsRow g 263 5 (.slice (some ⟨g, 0, none⟩) n n) n (cellsT n t)) (htl : t.length = n) (ha : a < n) (hbx : BoxAt wd b n x) (hg : w.heap.size + 1 = g) (hgb : g < b) (hb : b < wd.heap.size) (hc : (wd.cell? ⟨w.heap.size, 1, none⟩ = some c1 ∧ wd.cell? ⟨w.heap.size, 2, none⟩ = some c2) ∧ Below w.heap.size w wd) (W : World)
    (hW : W = ((((((((((wd.setCell ⟨g, a * 5, none⟩ (.bool true)).setCell ⟨g, a * 5 + 1, none⟩ (.int .i64 x.num)).setCell ⟨g, a * 5 + 2, none⟩ (.int .i64 x.blk)).setCell ⟨g, a * 5 + 3, none⟩ (.int .i64 x.no)).setCell ⟨g, a * 5 + 4, none⟩ (.int .i64 (xq : Int))).setCell ⟨b, 0, none⟩ (.bool true)).setCell ⟨b, 1, none⟩ (.int .i64 y.num)).setCell ⟨b, 2, none⟩ (.int .i64 y.blk)).setCell ⟨b, 3, none⟩ (.int .i64 y.no)).setCell ⟨b, 4, none⟩ (.int .i64 (yq : Int))).alloc (.cells #[.bool true, .int .i64 y.num, .int .i64 y.blk, .int .i64 y.no, .int .i64 (yq : Int)] 263)) :
    W.ownsRow g 263 5 (.slice (some ⟨g, 0, none⟩) n n) n (cellsT n (t.set a (some x))) ∧ BoxAt W b n y ∧ ((W.cell? ⟨w.heap.size, 1, none⟩ = some c1 ∧ W.cell? ⟨w.heap.size, 2, none⟩ = some c2) ∧ Below w.heap.size w W) ∧ b < W.heap.size := by
  obtain ⟨hy, hx⟩ := hyq
  have e : W = (put5 (put5 wd g (a * 5) (.bool true) (.int .i64 x.num) (.int .i64 x.blk) (.int .i64 x.no) (.int .i64 (xq : Int))) b 0 (.bool true) (.int .i64 y.num) (.int .i64 y.blk) (.int .i64 y.no) (.int .i64 (yq : Int))).alloc (.cells #[.bool true, .int .i64 y.num, .int .i64 y.blk, .int .i64 y.no, .int .i64 (yq : Int)] 263) := by
    rw [hW]
    simp only [put5, Nat.zero_add]
  have hsw := swap_world (y := y) (.cells #[.bool true, .int .i64 y.num, .int .i64 y.blk, .int .i64 y.no, .int .i64 (yq : Int)] 263) hot htl ha hbx (by omega) hb
  rw [hy, hx, ← e] at hsw
  have hsz : (put5 (put5 wd g (a * 5) (.bool true) (.int .i64 x.num) (.int .i64 x.blk) (.int .i64 x.no) (.int .i64 (xq : Int))) b 0 (.bool true) (.int .i64 y.num) (.int .i64 y.blk) (.int .i64 y.no) (.int .i64 (yq : Int))).heap.size = wd.heap.size := by rw [put5_size, put5_size]
  have hwz := hc.2.size
  refine ⟨hsw.1, hsw.2, ⟨⟨?_, ?_⟩, ?_⟩, ?_⟩
  · rw [e, World.cell?_alloc_lt _ _ _ (by rw [hsz]; show w.heap.size < _; omega), put5_far _ (by omega), put5_far _ (by omega)]
    exact hc.1.1
  · rw [e, World.cell?_alloc_lt _ _ _ (by rw [hsz]; show w.heap.size < _; omega), put5_far _ (by omega), put5_far _ (by omega)]
    exact hc.1.2
  · rw [e]
    exact (put5_below (put5_below hc.2 (by omega) _ _ _ _ _ _) (by omega) _ _ _ _ _ _).alloc (by rw [hsz]; omega) _
  · rw [e]
    have : ((put5 (put5 wd g (a * 5) (.bool true) (.int .i64 x.num) (.int .i64 x.blk) (.int .i64 x.no) (.int .i64 (xq : Int))) b 0 (.bool true) (.int .i64 y.num) (.int .i64 y.blk) (.int .i64 y.no) (.int .i64 (yq : Int))).alloc (.cells #[.bool true, .int .i64 y.num, .int .i64 y.blk, .int .i64 y.no, .int .i64 (yq : Int)] 263)).heap.size = wd.heap.size + 1 := by simp [hsz]
    omega
/-- A slot of the table and one in its box, as they lay. -/
def Slots2 (W : World) (g k b yq xq : Nat) (y x : Slt) (w' : World) : Prop := ((w'.cell? ⟨g, k, none⟩ = some (.bool true) ∧ w'.cell? ⟨g, k + 1, none⟩ = some (.int .i64 y.num) ∧ w'.cell? ⟨g, k + 2, none⟩ = some (.int .i64 y.blk) ∧ w'.cell? ⟨g, k + 3, none⟩ = some (.int .i64 y.no) ∧ w'.cell? ⟨g, k + 4, none⟩ = some (.int .i64 yq)) ∧ (w'.cell? ⟨b, 0, none⟩ = some (.bool true) ∧ w'.cell? ⟨b, 1, none⟩ = some (.int .i64 x.num) ∧ w'.cell? ⟨b, 2, none⟩ = some (.int .i64 x.blk) ∧ w'.cell? ⟨b, 3, none⟩ = some (.int .i64 x.no) ∧ w'.cell? ⟨b, 4, none⟩ = some (.int .i64 xq))) ∧ Below W.heap.size W w'
theorem slots2_next {W : World} {g k b yq xq : Nat} {y x : Slt} {wx w' : World} (h : Slots2 W g k b yq xq y x wx) (hb : Below wx.heap.size wx w') (hg : g < W.heap.size) (hbb : b < W.heap.size) : Slots2 W g k b yq xq y x w' := by
  obtain ⟨⟨⟨h0, h1, h2, h3, h4⟩, g0, g1, g2, g3, g4⟩, hB⟩ := h
  have hg' : g < wx.heap.size := Nat.lt_of_lt_of_le hg hB.size
  have hb' : b < wx.heap.size := Nat.lt_of_lt_of_le hbb hB.size
  exact ⟨⟨⟨(hb.cell (p := ⟨g, k, none⟩) hg').trans h0, (hb.cell (p := ⟨g, k + 1, none⟩) hg').trans h1, (hb.cell (p := ⟨g, k + 2, none⟩) hg').trans h2, (hb.cell (p := ⟨g, k + 3, none⟩) hg').trans h3, (hb.cell (p := ⟨g, k + 4, none⟩) hg').trans h4⟩, (hb.cell (p := ⟨b, 0, none⟩) hb').trans g0, (hb.cell (p := ⟨b, 1, none⟩) hb').trans g1, (hb.cell (p := ⟨b, 2, none⟩) hb').trans g2, (hb.cell (p := ⟨b, 3, none⟩) hb').trans g3, (hb.cell (p := ⟨b, 4, none⟩) hb').trans g4⟩, hB.trans (hb.mono hB.size)⟩
/-- Two cells, kept by whatever lays blocks behind. -/
def Kept2 (W : World) (p q : Addr) (a b : Value) (w' : World) : Prop := (w'.cell? p = some a ∧ w'.cell? q = some b) ∧ Below W.heap.size W w'
theorem kept2 {W : World} {p q : Addr} {a b : Value} (h : W.cell? p = some a ∧ W.cell? q = some b) (hp : p.block < W.heap.size) (hq : q.block < W.heap.size) {w' : World} (hb : Below W.heap.size W w') : (w'.cell? p = some a ∧ w'.cell? q = some b) ∧ Below W.heap.size W w' :=
  ⟨⟨(hb.cell hp).trans h.1, (hb.cell hq).trans h.2⟩, hb⟩

end Go.Proofs.YtdhgebdbiehchaaGreatDoor
