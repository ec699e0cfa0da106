/- A key that lives is found by the index of its log, and no other is (P9's plain part). Nothing of the program is named here. A row of bytes as a string. The contract of table.Make: the bytes of the index of a log that says this. The contracts of record.Read, whole, and of the program's Index: it answers what the document's does. -/
import Derived.Test.YtdhgebdbiehchaaGreatDoorB04
import Derived.Test.YtdhgebdbiehchaaGreatDoorB03
import Derived.Test.YtdhgebdbiehchaaGreatDoorB01
import Derived.Lib.SmallJoins
import Derived.Test.YtdhgebdbiehchaaGreatDoorB11
import Derived.Test.YtdhgebdbiehchaaGreatDoorB10
import Derived.Deep.RegionHeld3
import Derived.Test.YtdhgebdbiehchaaGreatDoorB09
namespace Go.Proofs.YtdhgebdbiehchaaGreatDoor
open Go.RowKit
set_option linter.unusedSimpArgs false
set_option linter.unusedVariables false

/-- A slot that is taken. -/
def Full (t : List (Option Slt)) (p : Nat) : Prop := ∃ x, t[p]? = some (some x)
def Stored (t : List (Option Slt)) (z : Slt) : Prop := ∃ p : Nat, t[p]? = some (some z)
/-- From its home on to where it would stand all slots are taken. -/
def Path (t : List (Option Slt)) (x : Slt) (a : Nat) : Prop := ∀ j, j < awayN t.length x a → Full t ((x.num % t.length + j) % t.length)
/-- From the home of each one on to where it stands all slots are taken. -/
def Run (t : List (Option Slt)) : Prop := ∀ (p : Nat) (x : Slt), t[p]? = some (some x) → Path t x p

theorem full_set {t : List (Option Slt)} {a p : Nat} (x : Slt) (h : Full t p) : Full (t.set a (some x)) p := by
  obtain ⟨y, hy⟩ := h
  have hp := (List.getElem?_eq_some_iff.1 hy).1
  by_cases e : a = p
  · subst e; exact ⟨x, by rw [List.getElem?_set_self hp]⟩
  · exact ⟨y, by rw [List.getElem?_set_ne e]; exact hy⟩
theorem path_set {t : List (Option Slt)} {a p : Nat} {z : Slt} (x : Slt) (h : Path t z p) : Path (t.set a (some x)) z p := by
  intro j hj
  rw [List.length_set] at hj ⊢
  exact full_set x (h j hj)
theorem away_home {n a : Nat} {x : Slt} (ha : a < n) : (x.num % n + awayN n x a) % n = a := by
  have hx := Nat.mod_lt x.num (show 0 < n by omega)
  rw [awayN_ref x ha]
  split
  · rw [show x.num % n + (a + n - x.num % n) = a + n by omega, Nat.add_mod_right, Nat.mod_eq_of_lt ha]
  · rw [show x.num % n + (a - x.num % n) = a by omega, Nat.mod_eq_of_lt ha]
theorem away_next {n a : Nat} {x : Slt} (ha : a < n) {j : Nat} (hj : j < awayN n x ((a + 1) % n)) : j ≤ awayN n x a := by
  have hx := Nat.mod_lt x.num (show 0 < n by omega)
  have hb := Nat.mod_lt (a + 1) (show 0 < n by omega)
  rw [awayN_ref x hb] at hj
  rw [awayN_ref x ha]
  by_cases h : a + 1 < n
  · rw [Nat.mod_eq_of_lt h] at hj
    split at hj <;> split <;> omega
  · have e : a + 1 = n := by omega
    rw [e, Nat.mod_self] at hj
    split at hj <;> split <;> omega
theorem path_next {t : List (Option Slt)} {a : Nat} {x : Slt} (ha : a < t.length) (h : Path t x a) (hf : Full t a) : Path t x ((a + 1) % t.length) := by
  intro j hj
  have := away_next ha hj
  by_cases e : j = awayN t.length x a
  · subst e; rw [away_home ha]; exact hf
  · exact h j (by omega)
theorem run_set {t : List (Option Slt)} {a : Nat} {x : Slt} (h : Run t) (hp : Path t x a) (ha : a < t.length) : Run (t.set a (some x)) := by
  intro p z hz
  by_cases e : a = p
  · subst e
    rw [List.getElem?_set_self ha] at hz
    cases hz
    exact path_set x hp
  · rw [List.getElem?_set_ne e] at hz
    exact path_set x (h p z hz)
theorem stored_set {t : List (Option Slt)} {a : Nat} {x : Slt} (ha : a < t.length) (z : Slt) : Stored (t.set a (some x)) z ↔ z = x ∨ ∃ p : Nat, p ≠ a ∧ t[p]? = some (some z) := by
  constructor
  · rintro ⟨p, hp⟩
    by_cases e : a = p
    · subst e; rw [List.getElem?_set_self ha] at hp; cases hp; exact .inl rfl
    · rw [List.getElem?_set_ne e] at hp; exact .inr ⟨p, fun h => e h.symm, hp⟩
  · rintro (rfl | ⟨p, hp, h⟩)
    · exact ⟨a, by rw [List.getElem?_set_self ha]⟩
    · exact ⟨p, by rw [List.getElem?_set_ne (fun h => hp h.symm)]; exact h⟩

theorem put_run (n e : Nat) (he : e < n) : ∀ (f : Nat) (t : List (Option Slt)) (x : Slt) (a : Nat), t.length = n → a < n → t[e]? = some none → gap n e a < f → Run t → Path t x a →
    Run (putF f t x a) ∧ ∀ z, Stored (putF f t x a) z ↔ z = x ∨ Stored t z := by
  intro f
  induction f with
  | zero => intro t x a _ _ _ h; omega
  | succ f ih =>
    intro t x a hn ha hfree hg hr hp
    rw [putF]
    cases ht : t[a]? with
    | none => exfalso; rw [List.getElem?_eq_none_iff] at ht; omega
    | some o =>
      cases o with
      | none =>
        simp only
        refine ⟨run_set hr hp (by omega), fun z => ?_⟩
        rw [stored_set (by omega)]
        constructor
        · rintro (h | ⟨p, _, h⟩)
          · exact .inl h
          · exact .inr ⟨p, h⟩
        · rintro (h | ⟨p, h⟩)
          · exact .inl h
          · exact .inr ⟨p, (fun e => by subst e; rw [ht] at h; cases h), h⟩
      | some y =>
        simp only
        have hae : a ≠ e := fun h => by subst h; rw [ht] at hfree; cases hfree
        have hgs := gap_step ha he hae
        have hnx : (a + 1) % n < n := Nat.mod_lt _ (by omega)
        rw [hn]
        split
        · have hr2 := run_set (x := x) hr hp (by omega)
          have hpy : Path (t.set a (some x)) y ((a + 1) % n) := by
            have h1 : Path t y ((a + 1) % t.length) := path_next (by omega) (hr a y ht) ⟨y, ht⟩
            rw [hn] at h1
            exact path_set x h1
          obtain ⟨h1, h2⟩ := ih (t.set a (some x)) y ((a + 1) % n) (by simp [hn]) hnx (by rw [List.getElem?_set_ne hae]; exact hfree) (by omega) hr2 hpy
          refine ⟨h1, fun z => ?_⟩
          rw [h2, stored_set (by omega)]
          constructor
          · rintro (rfl | rfl | ⟨p, _, h⟩)
            · exact .inr ⟨a, ht⟩
            · exact .inl rfl
            · exact .inr ⟨p, h⟩
          · rintro (rfl | ⟨p, h⟩)
            · exact .inr (.inl rfl)
            · by_cases e : p = a
              · subst e; rw [ht] at h; cases h; exact .inl rfl
              · exact .inr (.inr ⟨p, e, h⟩)
        · have h1 : Path t x ((a + 1) % t.length) := path_next (by omega) hp ⟨y, ht⟩
          rw [hn] at h1
          exact ih t x ((a + 1) % n) hn hnx hfree (by omega) hr h1
theorem path_home {t : List (Option Slt)} (x : Slt) (h : 0 < t.length) : Path t x (x.num % t.length) := by
  intro j hj
  rw [awayN_ref x (Nat.mod_lt _ h), if_neg (by omega), Nat.sub_self] at hj
  omega
theorem fill_run {n : Nat} (xs : List Slt) (h : xs.length < n) : Run (fillL n xs) ∧ ∀ z, Stored (fillL n xs) z ↔ z ∈ xs := by
  have gen : ∀ (k : Nat), k ≤ xs.length → Run (fillL n (xs.take k)) ∧ ∀ z, Stored (fillL n (xs.take k)) z ↔ z ∈ xs.take k := by
    intro k
    induction k with
    | zero =>
      intro _
      refine ⟨fun p x hx => ?_, fun z => ⟨?_, fun hz => by simp at hz⟩⟩
      · have := List.mem_of_getElem? hx; simp [fillL] at this
      · rintro ⟨p, hp⟩; have := List.mem_of_getElem? hp; simp [fillL] at this
    | succ k ih =>
      intro hk
      obtain ⟨h1, h2⟩ := ih (by omega)
      rw [List.take_succ_eq_append_getElem (show k < xs.length by omega), fillL_snoc]
      obtain ⟨e, he, hf⟩ := fillL_free (n := n) (xs := xs.take k) (by simp; omega)
      have hl := fillL_length n (xs.take k)
      have := put_run n e he n (fillL n (xs.take k)) xs[k] (xs[k].num % n) hl (Nat.mod_lt _ (by omega)) hf (gap_lt (by omega)) h1 (by have := path_home (t := fillL n (xs.take k)) xs[k] (by omega); rwa [hl] at this)
      unfold putL
      rw [hl]
      refine ⟨this.1, fun z => ?_⟩
      rw [this.2, h2, List.mem_append]
      simp [or_comm]
  have := gen xs.length (Nat.le_refl _)
  rwa [List.take_length] at this

theorem far_ge {n : Nat} {t : List (Option Slt)} {x : Slt} {p m : Nat} (h : t[p]? = some (some x)) (hp : p < m) : awayN n x p ≤ farP n t m := by
  induction m with
  | zero => omega
  | succ m ih =>
    by_cases e : p = m
    · subst e; rw [farP_some h]; omega
    · have := ih (by omega)
      rw [farP]
      split
      · exact this
      · omega

/-- The slots of a table, as their bytes are cut out. -/
theorem tab_slot (t : List (Option Slt)) (pre post : List UInt8) (hpre : pre.length = 20) (i : Nat) (h : i < t.length) : slotL (pre ++ (tabB t ++ post)) i = sltB t[i] := by
  unfold slotL
  have e0 : (pre ++ (tabB t ++ post)).drop 20 = tabB t ++ post := by rw [← hpre, List.drop_left]
  rw [← List.drop_drop, e0]
  have e : tabB t = tabB (t.take i) ++ (sltB t[i] ++ tabB (t.drop (i + 1))) := by
    have h1 : t = t.take i ++ (t[i] :: t.drop (i + 1)) := by rw [← List.drop_eq_getElem_cons h, List.take_append_drop]
    calc tabB t = tabB (t.take i ++ (t[i] :: t.drop (i + 1))) := congrArg tabB h1
      _ = _ := by simp only [tabB, List.flatMap_append, List.flatMap_cons]
  have l1 : (tabB (t.take i)).length = 10 * i := by rw [tabB_length]; simp; omega
  have e2 : (tabB (t.take i) ++ ((sltB t[i] ++ tabB (t.drop (i + 1))) ++ post)).drop (10 * i) = (sltB t[i] ++ tabB (t.drop (i + 1))) ++ post := by rw [← l1, List.drop_left]
  rw [e, List.append_assoc, e2, List.append_assoc, List.take_append_of_le_length (by rw [sltB_length]; omega), List.take_of_length_le (by rw [sltB_length]; omega)]
theorem slt_parts {x : Slt} (h1 : x.num < 4294967296) (h2 : x.blk < 4294967296) (h3 : x.no < 256) :
    ((sltB (some x)).getD 0 0).toNat = 1 ∧ highL (((sltB (some x)).drop 1).take 4) = x.num ∧ highL (((sltB (some x)).drop 5).take 4) = x.blk ∧ ((sltB (some x)).getD 9 0).toNat = x.no := by
  have e : sltB (some x) = [1] ++ (lowL x.num 4 ++ (lowL x.blk 4 ++ lowL x.no 1)) := by simp [sltB, lowL]
  have l1 := lowL_len x.num 4
  have l2 := lowL_len x.blk 4
  rw [e]
  refine ⟨rfl, ?_, ?_, ?_⟩
  · rw [List.drop_append_of_le_length (by simp), List.drop_of_length_le (by simp), List.nil_append, List.take_append_of_le_length (by omega), List.take_of_length_le (by omega), highL_lowL _ _ (by omega)]
  · have : ([1] ++ (lowL x.num 4 ++ (lowL x.blk 4 ++ lowL x.no 1))).drop 5 = lowL x.blk 4 ++ lowL x.no 1 := by
      rw [← List.append_assoc, List.drop_append_of_le_length (by simp [l1]), List.drop_of_length_le (by simp [l1]), List.nil_append]
    rw [this, List.take_append_of_le_length (by omega), List.take_of_length_le (by omega), highL_lowL _ _ (by omega)]
  · have : ([1] ++ (lowL x.num 4 ++ (lowL x.blk 4 ++ lowL x.no 1)))[9]? = some (UInt8.ofNat (x.no % 256)) := by
      rw [← List.append_assoc, ← List.append_assoc, List.getElem?_append_right (by simp [l1, l2])]
      simp [l1, l2, lowL]
    rw [List.getD_eq_getElem?_getD, this]
    simp
    omega
theorem slt_none : ((sltB none).getD 0 0).toNat = 0 := by decide

/-- The entry at a place is read from its block. -/
def PlaceIs (log : List UInt8) (blk : Int) (x : Sd) : Prop := ∃ es k, blockP log x.blk blk = some (es, k) ∧ es[x.no]? = some ⟨x.put, x.key, x.val⟩
theorem saids_get {a i : Nat} {es : List Ent} {x : Sd} (h : x ∈ saids a i es) : x.blk = a ∧ i ≤ x.no ∧ es[x.no - i]? = some ⟨x.put, x.key, x.val⟩ := by
  induction es generalizing i with
  | nil => simp [saids] at h
  | cons e es ih =>
    rw [saids] at h
    rcases List.mem_cons.1 h with rfl | h
    · exact ⟨rfl, Nat.le_refl _, by simp⟩
    · obtain ⟨h1, h2, h3⟩ := ih h
      refine ⟨h1, by omega, ?_⟩
      rw [show x.no - i = (x.no - (i + 1)) + 1 by omega, List.getElem?_cons_succ]
      exact h3
theorem read_place (log : List UInt8) (blk : Int) (n a : Nat) : ∀ x ∈ (readF n log blk a).1, PlaceIs log blk x := by
  induction n generalizing a with
  | zero => intro x hx; simp [readF] at hx
  | succ n ih =>
    intro x hx
    rw [readF] at hx
    split at hx
    · simp at hx
    · rename_i es k hb
      rcases List.mem_append.1 hx with hx | hx
      · obtain ⟨h1, h2, h3⟩ := saids_get hx
        refine ⟨es, k, by rw [h1]; exact hb, by simpa using h3⟩
      · exact ih _ x hx

/-- What a slot of the table says of a key. -/
theorem slot_says {log key : List UInt8} {blk : Int} {want k : Nat} {z : Slt} {x : Sd} (hp : PlaceIs log blk x) (hput : x.put = true) (hb : z.blk = x.blk) (hno : z.no = x.no) (hn : z.num < 4294967296) (hbl : z.blk < 4294967296) (hn2 : z.no < 256) :
    slotStep log key want blk k (sltB (some z)) = if z.num = want ∧ x.key = key then some ⟨x.val, k + 1, 0⟩ else none := by
  obtain ⟨p0, p1, p2, p3⟩ := slt_parts hn hbl hn2
  obtain ⟨es, kk, e1, e2⟩ := hp
  unfold slotStep
  rw [p0, p1, p2, p3, if_neg (by omega), hb, hno, e1]
  by_cases h : z.num = want
  · rw [if_neg (by simp [h])]
    unfold entStep
    simp only [e2]
    rw [hput]
    by_cases hk : x.key = key <;> simp [h, hk]
  · rw [if_pos (.inr h), if_neg (by simp [h])]

/-- A table that holds just the live ones of a log. -/
structure TabHolds (log : List UInt8) (seed bits : Int) (blk : Int) (live : List Sd) (t : List (Option Slt)) : Prop where
  run : Run t
  all : ∀ z, Stored t z ↔ z ∈ live.map (sltOf seed bits)
  keys : live.Pairwise (fun x y => x.key ≠ y.key)
  place : ∀ x ∈ live, PlaceIs log blk x ∧ x.put = true ∧ x.blk < 4294967296 ∧ x.no < 256
  bits : 0 ≤ bits ∧ bits ≤ 32
  pos : 0 < t.length
theorem TabHolds.slot {log : List UInt8} {seed bits blk : Int} {live : List Sd} {t : List (Option Slt)} (h : TabHolds log seed bits blk live t) {key : List UInt8} {p : Nat} {z : Slt} (hz : t[p]? = some (some z)) (want k : Nat) :
    ∃ x ∈ live, z = sltOf seed bits x ∧ slotStep log key want blk k (sltB (some z)) = if z.num = want ∧ x.key = key then some ⟨x.val, k + 1, 0⟩ else none := by
  obtain ⟨x, hx, rfl⟩ := List.mem_map.1 ((h.all z).1 ⟨p, hz⟩)
  obtain ⟨h1, h2, h3, h4⟩ := h.place x hx
  have hr := numberI_range seed bits x.key h.bits.1 h.bits.2
  exact ⟨x, hx, rfl, slot_says h1 h2 rfl rfl (by show (numberI seed bits x.key).toNat < _; omega) h3 h4⟩

theorem look_there {log ix : List UInt8} {seed bits blk : Int} {live : List Sd} {t : List (Option Slt)} (h : TabHolds log seed bits blk live t) (hix : ∀ i (hi : i < t.length), slotL ix i = sltB t[i]) {x : Sd} (hx : x ∈ live) {p : Nat} (hp : t[p]? = some (some (sltOf seed bits x))) :
    ∀ (m k : Nat), k ≤ awayN t.length (sltOf seed bits x) p → awayN t.length (sltOf seed bits x) p < k + m → ∃ c, lookGo log ix x.key (numberI seed bits x.key).toNat t.length blk m k = ⟨x.val, c, 0⟩ ∧ 1 ≤ c ∧ c ≤ k + m := by
  have hpl : p < t.length := (List.getElem?_eq_some_iff.1 hp).1
  intro m
  induction m with
  | zero => intro k h1 h2; omega
  | succ m ih =>
    intro k hk hkm
    have hi : ((numberI seed bits x.key).toNat + k) % t.length < t.length := Nat.mod_lt _ h.pos
    have hfull : Full t (((numberI seed bits x.key).toNat + k) % t.length) := by
      have e1 : ((numberI seed bits x.key).toNat + k) % t.length = ((sltOf seed bits x).num % t.length + k) % t.length := by
        show _ = ((numberI seed bits x.key).toNat % t.length + k) % t.length
        rw [Nat.mod_add_mod]
      rw [e1]
      by_cases e : k = awayN t.length (sltOf seed bits x) p
      · rw [e, away_home hpl]; exact ⟨_, hp⟩
      · exact h.run p _ hp k (by omega)
    obtain ⟨z, hz⟩ := hfull
    have hzi : t[((numberI seed bits x.key).toNat + k) % t.length] = some z := (List.getElem?_eq_some_iff.1 hz).2
    obtain ⟨y, hy, hyz, hs⟩ := h.slot (key := x.key) hz (numberI seed bits x.key).toNat k
    rw [← hzi, ← hix _ hi] at hs
    by_cases hc : z.num = (numberI seed bits x.key).toNat ∧ y.key = x.key
    · rw [if_pos hc] at hs
      have : y = x := by
        by_cases e : y = x
        · exact e
        · exfalso
          rcases List.mem_iff_getElem.1 hy with ⟨i, hi1, e1⟩
          rcases List.mem_iff_getElem.1 hx with ⟨j, hj1, e2⟩
          have hpw := List.pairwise_iff_getElem.1 h.keys
          rcases Nat.lt_trichotomy i j with g | g | g
          · have := hpw i j hi1 hj1 g; rw [e1, e2] at this; exact this hc.2
          · subst g; exact e (e1.symm.trans e2)
          · have := hpw j i hj1 hi1 g; rw [e1, e2] at this; exact this hc.2.symm
      subst this
      exact ⟨k + 1, lookGo_some hs, by omega, by omega⟩
    · rw [if_neg hc] at hs
      by_cases e : k = awayN t.length (sltOf seed bits x) p
      · exfalso
        have hpos : ((numberI seed bits x.key).toNat + k) % t.length = p := by
          have e1 : ((numberI seed bits x.key).toNat + k) % t.length = ((sltOf seed bits x).num % t.length + k) % t.length := by
            show _ = ((numberI seed bits x.key).toNat % t.length + k) % t.length
            rw [Nat.mod_add_mod]
          rw [e1, e, away_home hpl]
        rw [hpos, hp] at hz
        cases hz
        obtain ⟨p1, p2, p3, p4⟩ := h.place x hx
        have hr := numberI_range seed bits x.key h.bits.1 h.bits.2
        have hs2 := slot_says (key := x.key) (want := (numberI seed bits x.key).toNat) (k := k) (z := sltOf seed bits x) p1 p2 rfl rfl (by show (numberI seed bits x.key).toNat < _; omega) p3 p4
        rw [if_pos ⟨rfl, rfl⟩] at hs2
        rw [hix _ hi, hzi] at hs
        rw [hs] at hs2
        cases hs2
      · obtain ⟨c, h1, h2, h3⟩ := ih (k + 1) (by omega) (by omega)
        exact ⟨c, by rw [lookGo_none hs]; exact h1, h2, by omega⟩
theorem look_not {log ix key : List UInt8} {seed bits blk : Int} {live : List Sd} {t : List (Option Slt)} (h : TabHolds log seed bits blk live t) (hix : ∀ i (hi : i < t.length), slotL ix i = sltB t[i]) (hno : ∀ x ∈ live, x.key ≠ key) (want : Nat) :
    ∀ (m k : Nat), 1 ≤ m + k → ∃ c, lookGo log ix key want t.length blk m k = ⟨[], c, 2⟩ ∧ 1 ≤ c ∧ c ≤ k + m := by
  intro m
  induction m with
  | zero => intro k hk; exact ⟨k, rfl, by omega, by omega⟩
  | succ m ih =>
    intro k _
    have hi : (want + k) % t.length < t.length := Nat.mod_lt _ h.pos
    cases hz : t[(want + k) % t.length] with
    | none =>
      refine ⟨k + 1, lookGo_some ?_, by omega, by omega⟩
      rw [hix _ hi, hz]
      unfold slotStep
      rw [if_pos slt_none]
    | some z =>
      obtain ⟨y, hy, hyz, hs⟩ := h.slot (key := key) (p := (want + k) % t.length) (z := z) (by rw [List.getElem?_eq_getElem hi, hz]) want k
      rw [if_neg (fun hc => hno y hy hc.2)] at hs
      obtain ⟨c, h1, h2, h3⟩ := ih (k + 1) (by omega)
      exact ⟨c, by rw [lookGo_none (by rw [hix _ hi, hz]; exact hs)]; exact h1, h2, by omega⟩

theorem low_cut (pre mid post : List UInt8) (k n : Nat) (hk : pre.length = k) (hm : mid.length = n) : ((pre ++ (mid ++ post)).drop k).take n = mid := by
  rw [List.drop_append_of_le_length (by omega), List.drop_of_length_le (by omega), List.nil_append, List.take_append_of_le_length (by omega), List.take_of_length_le (by omega)]
theorem sealL_sealed (l : List UInt8) : sealedB (sealL l) = true := by
  unfold sealedB
  rw [sealL_length, show l.length + 4 - 4 = l.length by omega]
  have : (sealL l).take l.length = l := by unfold sealL; rw [List.take_append_of_le_length (by omega), List.take_of_length_le (by omega)]
  rw [this]
  simp
theorem sumI_lt (l : List UInt8) : 0 ≤ sumI l ∧ sumI l < 4294967296 := by unfold sumI; omega

/-- The first bytes of an index, read back. -/
theorem front_back {a b c d e : Nat} (post : List UInt8) (hb : b < 65536) (hc : c < 65536) (hd : d < 4294967296) (he : e < 4294967296) :
    ixN (sealL (frontB a b c d e) ++ post) = b ∧ ixFar (sealL (frontB a b c d e) ++ post) = c ∧ ixSize (sealL (frontB a b c d e) ++ post) = d ∧ ixSum (sealL (frontB a b c d e) ++ post) = e ∧
    (sealL (frontB a b c d e) ++ post).take 20 = sealL (frontB a b c d e) ∧ (sealL (frontB a b c d e) ++ post).take 2 = [73, 88] := by
  have la := lowL_len a 2
  have lb := lowL_len b 2
  have lc := lowL_len c 2
  have ld := lowL_len d 4
  have le := lowL_len e 4
  have f1 := low_cut ([73, 88] ++ lowL a 2) (lowL b 2) (lowL c 2 ++ (lowL d 4 ++ (lowL e 4 ++ (lowL (crcN (frontB a b c d e)) 4 ++ post)))) 4 2 (by simp [la]) lb
  have f2 := low_cut ([73, 88] ++ lowL a 2 ++ lowL b 2) (lowL c 2) (lowL d 4 ++ (lowL e 4 ++ (lowL (crcN (frontB a b c d e)) 4 ++ post))) 6 2 (by simp [la, lb]) lc
  have f3 := low_cut ([73, 88] ++ lowL a 2 ++ lowL b 2 ++ lowL c 2) (lowL d 4) (lowL e 4 ++ (lowL (crcN (frontB a b c d e)) 4 ++ post)) 8 4 (by simp [la, lb, lc]) ld
  have f4 := low_cut ([73, 88] ++ lowL a 2 ++ lowL b 2 ++ lowL c 2 ++ lowL d 4) (lowL e 4) (lowL (crcN (frontB a b c d e)) 4 ++ post) 12 4 (by simp [la, lb, lc, ld]) le
  have e1 : sealL (frontB a b c d e) ++ post = [73, 88] ++ lowL a 2 ++ (lowL b 2 ++ (lowL c 2 ++ (lowL d 4 ++ (lowL e 4 ++ (lowL (crcN (frontB a b c d e)) 4 ++ post))))) := by simp [sealL, frontB]
  refine ⟨?_, ?_, ?_, ?_, ?_, ?_⟩
  · unfold ixN; rw [e1, f1, highL_lowL _ _ (by omega)]
  · unfold ixFar; rw [e1, show ([73, 88] ++ lowL a 2 ++ (lowL b 2 ++ (lowL c 2 ++ (lowL d 4 ++ (lowL e 4 ++ (lowL (crcN (frontB a b c d e)) 4 ++ post)))))) = ([73, 88] ++ lowL a 2 ++ lowL b 2 ++ (lowL c 2 ++ (lowL d 4 ++ (lowL e 4 ++ (lowL (crcN (frontB a b c d e)) 4 ++ post))))) by simp, f2, highL_lowL _ _ (by omega)]
  · unfold ixSize; rw [e1, show ([73, 88] ++ lowL a 2 ++ (lowL b 2 ++ (lowL c 2 ++ (lowL d 4 ++ (lowL e 4 ++ (lowL (crcN (frontB a b c d e)) 4 ++ post)))))) = ([73, 88] ++ lowL a 2 ++ lowL b 2 ++ lowL c 2 ++ (lowL d 4 ++ (lowL e 4 ++ (lowL (crcN (frontB a b c d e)) 4 ++ post)))) by simp, f3, highL_lowL _ _ (by omega)]
  · unfold ixSum; rw [e1, show ([73, 88] ++ lowL a 2 ++ (lowL b 2 ++ (lowL c 2 ++ (lowL d 4 ++ (lowL e 4 ++ (lowL (crcN (frontB a b c d e)) 4 ++ post)))))) = ([73, 88] ++ lowL a 2 ++ lowL b 2 ++ lowL c 2 ++ lowL d 4 ++ (lowL e 4 ++ (lowL (crcN (frontB a b c d e)) 4 ++ post))) by simp, f4, highL_lowL _ _ (by omega)]
  · rw [List.take_append_of_le_length (by rw [sealL_length, frontB_length]; omega), List.take_of_length_le (by rw [sealL_length, frontB_length]; omega)]
  · rw [e1]; rfl

/-- By the index of its log: a key that lives, and one that does not. -/
theorem look_index {log ix : List UInt8} (h : indexS log = some ix) :
    20 ≤ ix.length ∧ 1 ≤ ixFar ix + 1 ∧ ixFar ix < 65536 ∧ (∀ x ∈ liveL (readL log (hdBlk log) 14).1, ∃ c, lookS log ix x.key = ⟨x.val, c, 0⟩ ∧ 1 ≤ c ∧ c ≤ ixFar ix + 1) ∧
    (∀ key, (∀ x ∈ liveL (readL log (hdBlk log) 14).1, x.key ≠ key) → ∃ c, lookS log ix key = ⟨[], c, 2⟩ ∧ 1 ≤ c ∧ c ≤ ixFar ix + 1) := by
  unfold indexS at h
  split at h
  · cases h
  rename_i hl
  split at h
  · cases h
  rename_i hh
  split at h
  · cases h
  rename_i he
  split at h
  · cases h
  rename_i h2
  have h := Option.some.inj h
  have hrise := readF_rise log (hdBlk log) (log.length - 14) 14
  have hplace := read_place log (hdBlk log) (log.length - 14) 14
  change _ ∧ (∀ x ∈ (readL log (hdBlk log) 14).1, _) ∧ _ at hrise
  change ∀ x ∈ (readL log (hdBlk log) 14).1, _ at hplace
  obtain ⟨_, hb, _⟩ := hrise
  generalize hL : liveL (readL log (hdBlk log) 14).1 = live at *
  have hmem : ∀ x ∈ live, PlaceIs log (hdBlk log) x ∧ x.put = true ∧ x.blk < 4294967296 ∧ x.no < 256 := by
    intro x hx
    rw [← hL] at hx
    have hm := liveL_mem hx
    have h1 := hb x hm.1
    exact ⟨hplace x hm.1, hm.2, by omega, by omega⟩
  have hkeys : live.Pairwise (fun x y => x.key ≠ y.key) := by rw [← hL]; exact liveL_keys _
  have hbits : (0 : Int) ≤ (hdBits log : Int) ∧ (hdBits log : Int) ≤ 32 := by
    have : headB log = true := by cases hq : headB log with | true => rfl | false => exact absurd hq hh
    unfold headB wellB at this
    simp at this
    omega
  have hsz := sizeL_bound (n := live.length) (by omega)
  have hbig := sizeL_big (n := live.length) (by omega)
  have hfr := fill_run (n := sizeL live.length) (live.map (sltOf (hdSeed log) (hdBits log))) (by simp; omega)
  have htl : (tableOf (hdSeed log) (hdBits log) live).length = sizeL live.length := fillL_length _ _
  have hfar := farP_lt (n := sizeL live.length) (by omega) (tableOf (hdSeed log) (hdBits log) live) (sizeL live.length)
  have hs := sumI_lt log
  have HH : TabHolds log (hdSeed log) (hdBits log) (hdBlk log) live (tableOf (hdSeed log) (hdBits log) live) := ⟨hfr.1, hfr.2, hkeys, hmem, hbits, by omega⟩
  unfold indexB at h
  obtain ⟨b1, b2, b3, b4, b5, b6⟩ := front_back (a := live.length) (b := sizeL live.length) (c := farP (sizeL live.length) (tableOf (hdSeed log) (hdBits log) live) (sizeL live.length)) (d := log.length) (e := (sumI log).toNat) (sealL (tabB (tableOf (hdSeed log) (hdBits log) live))) (by omega) (by omega) (by omega) (by omega)
  have hpl : (sealL (frontB live.length (sizeL live.length) (farP (sizeL live.length) (tableOf (hdSeed log) (hdBits log) live) (sizeL live.length)) log.length (sumI log).toNat)).length = 20 := by rw [sealL_length, frontB_length]
  rw [h] at b1 b2 b3 b4 b5 b6
  have hlen : ix.length = 20 + 10 * sizeL live.length + 4 := by
    rw [← h, List.length_append, hpl, sealL_length, tabB_length, htl]; omega
  have hbeg : beginsE log ix = 0 := by
    unfold beginsE
    rw [if_neg (by
      rintro (h1 | h1 | h1 | h1 | h1)
      · omega
      · rw [b5, sealL_sealed] at h1; cases h1
      · rw [b6] at h1; simp at h1
      · omega
      · exact h1 (by rw [b1]; exact hlen)), if_neg (by
      rintro (h1 | h1)
      · exact h1 b3
      · rw [b4] at h1; omega), if_neg hh]
  have hslot : ∀ i (hi : i < (tableOf (hdSeed log) (hdBits log) live).length), slotL ix i = sltB (tableOf (hdSeed log) (hdBits log) live)[i] := by
    intro i hi
    rw [← h]
    unfold sealL
    exact tab_slot _ _ _ hpl i hi
  refine ⟨by omega, by omega, by omega, fun x hx => ?_, fun key hk => ?_⟩
  · have hst : Stored (tableOf (hdSeed log) (hdBits log) live) (sltOf (hdSeed log) (hdBits log) x) := (HH.all _).2 (List.mem_map.2 ⟨x, hx, rfl⟩)
    obtain ⟨p, hp⟩ := hst
    have hpl2 := (List.getElem?_eq_some_iff.1 hp).1
    have hfg := far_ge (n := sizeL live.length) (m := sizeL live.length) hp (by omega)
    obtain ⟨c, h1, h2, h3⟩ := look_there HH hslot hx hp (ixFar ix + 1) 0 (Nat.zero_le _) (by rw [htl, b2]; omega)
    refine ⟨c, ?_, h2, by omega⟩
    unfold lookS
    rw [if_pos hbeg, b1, ← htl]
    exact h1
  · obtain ⟨c, h1, h2, h3⟩ := look_not HH hslot hk (numberI (hdSeed log) (hdBits log) key).toNat (ixFar ix + 1) 0 (by omega)
    refine ⟨c, ?_, h2, by omega⟩
    unfold lookS
    rw [if_pos hbeg, b1, ← htl]
    exact h1
end Go.Proofs.YtdhgebdbiehchaaGreatDoor
namespace Go.Proofs.YtdhgebdbiehchaaGreatDoor
open Go.RowKit
set_option linter.unusedSimpArgs false
set_option linter.unusedVariables false

theorem conv_own {w : World} {base n : Nat} {v : Value} {l : List UInt8} (h : w.ownsRow base 5 1 v n (cellsB l)) : (convert 43 9 v).run Tryz.prog w = .ok (.string (S l)) w := by
  have hn : l.length = n := by have := h.1; rw [cellsB_length] at this; omega
  subst hn
  rcases h.2 with ⟨rfl, h0⟩ | ⟨g, cap, cur, rfl, hb, hg, h1, h2, h3, h4⟩
  · have : l = [] := List.length_eq_zero_iff.1 h0
    subst this
    rw [run_convert_bytes_nil w 43 5 Tryz.underlying43 Tryz.underlying5 0 0 9 Tryz.underlying9]
    rfl
  · have hstr : strOfNums (l.map fun b => (b.toNat : Int)) = S l := by unfold strOfNums S; rw [bytes_back]
    rw [← hstr]
    refine run_convert_bytes_arg (P := Tryz.prog) w 43 5 Tryz.underlying43 Tryz.underlying5 g 0 l.length cap (l.map fun b => (b.toNat : Int)) (by simp) (fun i hi => ?_) 9 Tryz.underlying9
    rw [Nat.zero_add, World.ownsRow.cellAt (w := w) ⟨h.1, .inr ⟨g, cap, cur, rfl, hb, hg, h1, h2, h3, h4⟩⟩ i (by omega)]
    simp [cellsB, hi]
end Go.Proofs.YtdhgebdbiehchaaGreatDoor
namespace Go.Proofs.YtdhgebdbiehchaaGreatDoor
open Go.RowKit Go.Maps
set_option linter.unusedSimpArgs false
set_option linter.unusedVariables false

theorem info_pslot : ∃ i, Tryz.prog.info? 175 = some i ∧ i.zero = some (.agg #[.int .u8 0, .int .i64 0, .int .i64 0, .int .i64 0]) ∧ i.size = 4 ∧ i.bytes = 32 := by
  have h : ((Tryz.prog.info? 175).bind fun i => if i.size = 4 ∧ i.bytes = 32 then i.zero else none) = some (.agg #[.int .u8 0, .int .i64 0, .int .i64 0, .int .i64 0]) := by kernel_rfl
  cases hi : Tryz.prog.info? 175 with
  | none => rw [hi] at h; cases h
  | some i =>
    rw [hi] at h
    simp only [Option.bind_some] at h
    split at h
    · rename_i hc; exact ⟨i, rfl, h, hc.1, hc.2⟩
    · cases h
theorem Maps2.below {W W' : World} {bi bp n k : Nat} {L : List Sd} (h : Maps2 W bi bp n L) (hb : Below k W W') (h1 : bi < k) (h2 : bp < k) : Maps2 W' bi bp n L := by
  obtain ⟨DI, DP, ⟨⟨es, ck, hb1, r1⟩, h4, h5⟩, ⟨es', ck', hb2, r2⟩, h7⟩ := h
  exact ⟨DI, DP, ⟨⟨es, ck, (hb.block bi h1).trans hb1, r1⟩, h4, h5⟩, ⟨es', ck', (hb.block bp h2).trans hb2, r2⟩, h7⟩
theorem Maps2.drew {W : World} {bi bp n : Nat} {L : List Sd} (h : Maps2 W bi bp n L) : Maps2 W.drew bi bp n L := h
theorem own_belowK {W W' : World} {base e size n k : Nat} {v : Value} {xs : List Value} (h : W.ownsRow base e size v n xs) (hb : Below k W W') (hk : W.heap.size ≤ k) : W'.ownsRow base e size v n xs := by
  refine ⟨h.1, ?_⟩
  rcases h.2 with h0 | ⟨g, cap, cur, e1, h1, h2, r⟩
  · exact .inl h0
  · exact .inr ⟨g, cap, cur, e1, h1, (hb.block g (Nat.lt_of_lt_of_le (Array.getElem?_eq_some_iff.1 h2).1 hk)).trans h2, r⟩
theorem own_low {W W' : World} {base e size n k : Nat} {v : Value} {xs : List Value} (h : W.ownsRow base e size v n xs) (hb : Below k W W') (hk : ∀ g, v.ownBlock = some g → g < k) : W'.ownsRow base e size v n xs := by
  refine ⟨h.1, ?_⟩
  rcases h.2 with h0 | ⟨g, cap, cur, e1, h1, h2, r⟩
  · exact .inl h0
  · exact .inr ⟨g, cap, cur, e1, h1, (hb.block g (hk g (by rw [e1]; rfl))).trans h2, r⟩
theorem own_lt {W : World} {base e size n : Nat} {v : Value} {xs : List Value} (h : W.ownsRow base e size v n xs) : ∀ g, v.ownBlock = some g → g < W.heap.size := fun g hg => by
  rcases h.2 with ⟨rfl, _⟩ | ⟨g', cap, cur, rfl, _, h2, _⟩
  · simp [Value.ownBlock] at hg
  · have : g' = g := by simpa [Value.ownBlock] using hg
    subst this; exact (Array.getElem?_eq_some_iff.1 h2).1
theorem num_lt (seed bits : Int) (key : List UInt8) (h0 : 0 ≤ bits) (h1 : bits ≤ 32) : (numberI seed bits key).toNat < 4294967296 := by
  have := numberI_range seed bits key h0 h1; omega

theorem cellsQ_get {L : List Sd} {k : Nat} (h : k < L.length) : (cellsQ L)[k * 2]? = some (.int .i64 L[k].blk) ∧ (cellsQ L)[k * 2 + 1]? = some (.int .i64 L[k].no) := by
  have h0 := cellsQ_at L (k * 2) (by omega)
  have h1 := cellsQ_at L (k * 2 + 1) (by omega)
  have e0 : k * 2 / 2 = k := by omega
  have e1 : (k * 2 + 1) / 2 = k := by omega
  have e2 : k * 2 % 2 = 0 := by omega
  have e3 : (k * 2 + 1) % 2 = 1 := by omega
  simp only [e0, e2] at h0
  simp only [e1, e3] at h1
  exact ⟨h0, h1⟩
theorem fieldIt (a b : ByteArray) (w : World) : (Instr.field 54 (.agg #[.string a, .string b]) 0).run Tryz.prog w = .ok (.string a) w := by kernel_rfl
/-- What the region of a round leans on. -/
def MkS (W1 : World) (b r : Nat) (blk seed bits bi bp pb pn : Nat) (w' : World) : Prop :=
  (w'.cell? ⟨b, 0, none⟩ = some (.int .i64 blk) ∧ w'.cell? ⟨b, 1, none⟩ = some (.int .i64 seed) ∧ w'.cell? ⟨b, 2, none⟩ = some (.int .i64 bits) ∧ w'.cell? ⟨b, 3, none⟩ = some (.map (some bi)) ∧ w'.cell? ⟨b, 4, none⟩ = some (.map (some bp))) ∧
  (w'.cell? ⟨r, 0, none⟩ = some (.int .i64 pb) ∧ w'.cell? ⟨r, 1, none⟩ = some (.int .i64 pn)) ∧ Below W1.heap.size W1 w' ∧ r < w'.heap.size
theorem MkS.below {W1 wx w' : World} {b r blk seed bits bi bp pb pn : Nat} (h : MkS W1 b r blk seed bits bi bp pb pn wx) (hb : Below wx.heap.size wx w') (h1 : b < W1.heap.size) : MkS W1 b r blk seed bits bi bp pb pn w' := by
  obtain ⟨⟨c0, c1, c2, c3, c4⟩, ⟨p0, p1⟩, hB, hr⟩ := h
  have hbx : b < wx.heap.size := Nat.lt_of_lt_of_le h1 hB.size
  exact ⟨⟨(hb.cell (p := ⟨b, 0, none⟩) hbx).trans c0, (hb.cell (p := ⟨b, 1, none⟩) hbx).trans c1, (hb.cell (p := ⟨b, 2, none⟩) hbx).trans c2, (hb.cell (p := ⟨b, 3, none⟩) hbx).trans c3, (hb.cell (p := ⟨b, 4, none⟩) hbx).trans c4⟩,
    ⟨(hb.cell (p := ⟨r, 0, none⟩) hr).trans p0, (hb.cell (p := ⟨r, 1, none⟩) hr).trans p1⟩, hB.trans (hb.mono hB.size), Nat.lt_of_lt_of_le hr hb.size⟩
theorem MkS.turn {W1 wx w' : World} {b r blk seed bits bi bp pb pn : Nat} (h : MkS W1 b r blk seed bits bi bp pb pn wx) (hb : BelowG W1.heap.size W1.heap.size wx w') (h1 : b < W1.heap.size) (h2 : r ≠ W1.heap.size) : MkS W1 b r blk seed bits bi bp pb pn w' := by
  obtain ⟨⟨c0, c1, c2, c3, c4⟩, ⟨p0, p1⟩, hB, hr⟩ := h
  obtain ⟨hb, ht⟩ := hb
  exact ⟨⟨(hb.cell (p := ⟨b, 0, none⟩) h1).trans c0, (hb.cell (p := ⟨b, 1, none⟩) h1).trans c1, (hb.cell (p := ⟨b, 2, none⟩) h1).trans c2, (hb.cell (p := ⟨b, 3, none⟩) h1).trans c3, (hb.cell (p := ⟨b, 4, none⟩) h1).trans c4⟩,
    ⟨(ht.cell (p := ⟨r, 0, none⟩) hr h2 h2).trans p0, (ht.cell (p := ⟨r, 1, none⟩) hr h2 h2).trans p1⟩, hB.trans hb, Nat.lt_of_lt_of_le hr hb.size⟩

set_option maxRecDepth 100000 in
set_option maxHeartbeats 3200000 in
theorem make_any (log : ByteArray) (blk seed bits : Nat) (bi bp nn : Nat) (L : List Sd) (w : World) (hm : Maps2 w bi bp nn L) (hL : Lives L) (hlen : L.length ≤ 2000) (hx : ∀ x ∈ L, x.key.length ≤ 20 ∧ x.blk ≤ 100000 ∧ x.no ≤ 255) (hseed : seed ≤ 4294967295) (hbits : bits ≤ 32) (hlog : log.size ≤ 100000) (hH : HalvesAt w) :
    Calls Tryz.prog 52 #[.string log, .agg #[.int .i64 blk, .int .i64 seed, .int .i64 bits, .map (some bi), .map (some bp)]] w fun e w' => e = .returned (.string (S (indexB log.data.toList seed bits L))) ∧ Below w.heap.size w w' := by
  obtain ⟨i0, hi, hz0, hz1, hz2⟩ := info_pslot
  obtain ⟨hbi, hbp⟩ := hm.lt
  have hn1 := sizeL_bound hlen
  have hn2 : L.length < sizeL L.length := by have := sizeL_big hlen; omega
  have HM : Hid (Maps2 w bi bp nn L) := hm
  have HL : Hid (Lives L) := hL
  have HX : Hid (∀ x ∈ L, x.key.length ≤ 20 ∧ x.blk ≤ 100000 ∧ x.no ≤ 255) := hx
  have HH : Hid (HalvesAt w) := hH
  have HPL : Hid (∀ wx, Maps2 wx bi bp nn L → _) := fun wx h => places_any blk seed bits bi bp nn L wx h hL (by omega)
  have HSF : Hid (∀ wx, _) := fun wx => sizeFor_any L.length wx hlen
  have HIX : Hid (indexB log.data.toList seed bits L = sealL (frontB L.length (sizeL L.length) (farP (sizeL L.length) (fillL (sizeL L.length) (L.map (sltOf seed bits))) (sizeL L.length)) log.data.toList.length (sumI log.data.toList).toNat) ++ sealL (tabB (fillL (sizeL L.length) (L.map (sltOf seed bits))))) := rfl
  generalize sizeL L.length = n at *
  generalize indexB log.data.toList seed bits L = IX at *
  clear hm hL hx hH
  go_enter Tryz.func52, Tryz.ntmps52
  go_wp2_with fail
  refine Calls.mono (HPL.out _ (HM.out.alloc _)) ?_
  rintro e w1 ⟨a, cap, rfl, hr1, hb1⟩
  have HR1 : Hid _ := hr1
  clear hr1 HPL
  go_wp2_with fail
  refine Calls.mono (HSF.out _) ?_
  rintro e W1 ⟨rfl, rfl⟩
  clear HSF
  have hB1 : Below w.heap.size w W1 := ((Below.refl _ _).alloc (Nat.le_refl _) _).trans (hb1.mono (by simp))
  have z1 : w.heap.size < W1.heap.size := by have := hb1.size; simp at this; omega
  have q0 : W1.cell? ⟨w.heap.size, 0, none⟩ = some (.int .i64 blk) := by rw [hb1.cell (p := ⟨w.heap.size, 0, none⟩) (by simp)]; simp
  have q1 : W1.cell? ⟨w.heap.size, 1, none⟩ = some (.int .i64 seed) := by rw [hb1.cell (p := ⟨w.heap.size, 1, none⟩) (by simp)]; simp
  have q2 : W1.cell? ⟨w.heap.size, 2, none⟩ = some (.int .i64 bits) := by rw [hb1.cell (p := ⟨w.heap.size, 2, none⟩) (by simp)]; simp
  have q3 : W1.cell? ⟨w.heap.size, 3, none⟩ = some (.map (some bi)) := by rw [hb1.cell (p := ⟨w.heap.size, 3, none⟩) (by simp)]; simp
  have q4 : W1.cell? ⟨w.heap.size, 4, none⟩ = some (.map (some bp)) := by rw [hb1.cell (p := ⟨w.heap.size, 4, none⟩) (by simp)]; simp
  have HM1 : Hid (Maps2 W1 bi bp nn L) := HM.out.below hB1 hbi hbp
  go_wp2_with (at_make; refine wpList_make_full _ rfl (.tmp 14) (.tmp 14) 169 rfl W1.heap.size 175 i0 (.agg #[.int .u8 0, .int .i64 0, .int .i64 0, .int .i64 0]) 4 Tryz.underlying169 hi hz0 hz1 .i64 .i64 _ _ n rfl rfl rfl rfl ?_ ?_ ?_ ?_)
  · first | omega | (rw [hz2]; omega)
  · unfold maxLen; omega
  · exact Nat.le_refl _
  intro w3 hown3 hgr
  have hB3 : Below W1.heap.size W1 w3 := Below.grown (Below.refl _ _) hgr (Nat.le_refl _) (fun k e => by cases e)
  have hown4 : w3.ownsRow W1.heap.size 175 4 (.slice (some ⟨W1.heap.size, 0, none⟩) n n) n (cellsP (fillL n (([] : List Sd).map (sltOf seed bits)))) := by
    rw [made4 n] at hown3
    simpa [fillL] using hown3
  have HO4 : Hid _ := hown4
  clear hown3 hown4 hgr
  go_wp2
  go_loopw [18] (fun i wr => ∃ k : Nat, k ≤ L.length ∧ i = .int .i64 k ∧ Hid (wr.ownsRow W1.heap.size 175 4 (.slice (some ⟨W1.heap.size, 0, none⟩) n n) n (cellsP (fillL n ((L.take k).map (sltOf seed bits))))) ∧ Below W1.heap.size W1 wr) (fun i _ => L.length - (intOf i).toNat)
  case atStart => exact ⟨0, Nat.zero_le _, rfl, by show World.ownsRow _ _ _ _ _ _ _; rw [List.take_zero]; exact HO4.out, hB3⟩
  case round =>
    obtain ⟨k, hk, rfl, HO, hB⟩ := hrel
    have zr := hB.size
    by_cases hlt : k < L.length
    · obtain ⟨g, c', he, hg0, hg1, hgc⟩ := own_cellsN HR1.out (by omega)
      simp only [Value.slice.injEq] at he
      obtain ⟨rfl, _, rfl⟩ := he
      have hq := cellsQ_get hlt
      have y0 := (hB.cell (p := ⟨g, k * 2, none⟩) hg1).trans ((hgc (k * 2) (by omega)).trans hq.1)
      have y1 := (hB.cell (p := ⟨g, k * 2 + 1, none⟩) hg1).trans ((hgc (k * 2 + 1) (by omega)).trans hq.2)
      have hrow := HO.out
      have hgr := own_lt hrow W1.heap.size rfl
      have hmem : L[k] ∈ L := List.getElem_mem _
      have hxx := HX.out _ hmem
      obtain ⟨e, hef, hfree⟩ := fillL_free (n := n) (xs := (L.take k).map (sltOf seed bits)) (by simp; omega)
      have HT : Hid (fillL n ((L.take (k + 1)).map (sltOf seed bits)) = putL (fillL n ((L.take k).map (sltOf seed bits))) (sltOf seed bits L[k])) := by
        show _ = _
        rw [List.take_succ_eq_append_getElem hlt, List.map_append, List.map_cons, List.map_nil, fillL_snoc]
      have hnum : ∀ y : Slt, some y ∈ fillL n ((L.take k).map (sltOf seed bits)) → y.num < 4294967296 := by
        intro y hy
        obtain ⟨p, hp⟩ := List.mem_iff_getElem?.1 hy
        have := ((fill_run (n := n) ((L.take k).map (sltOf seed bits)) (by simp; omega)).2 y).1 ⟨p, hp⟩
        obtain ⟨z, _, rfl⟩ := List.mem_map.1 this
        exact num_lt _ _ _ (by omega) (by omega)
      have HAT : Hid (∀ wx, Maps2 wx bi bp nn L → _) := fun wx h => at_any blk seed bits bi bp nn L L[k] wx h HL.out hmem
      have HNU : Hid (∀ wx, Calls Tryz.prog 93 #[.agg #[.int .i64 blk, .int .i64 seed, .int .i64 bits], .string (S L[k].key)] wx fun e w' => e = .returned (.int .i64 ((sltOf seed bits L[k]).num : Nat)) ∧ Below wx.heap.size wx w') := by
        intro wx
        refine (recNumber_any blk seed bits (S L[k].key) wx (by omega) (by omega) (by omega) (by omega) (by rw [S_size]; omega)).mono ?_
        rintro e w' ⟨rfl, hb⟩
        refine ⟨?_, hb⟩
        have := numberI_range seed bits L[k].key (by omega) (by omega)
        rw [S_data]
        refine ret_int ?_
        show _ = (((numberI seed bits L[k].key).toNat : Nat) : Int)
        omega
      have HPU : Hid (∀ wx : World, wx.ownsRow W1.heap.size 175 4 (.slice (some ⟨W1.heap.size, 0, none⟩) n n) n (cellsP (fillL n ((L.take k).map (sltOf seed bits)))) → W1.heap.size < wx.heap.size → _) := fun wx h1 h2 => put_any W1.heap.size n n W1.heap.size e _ (sltOf seed bits L[k]) wx h1 (Nat.le_refl _) h2 (fillL_length _ _) (by omega) hef hfree hnum (num_lt _ _ _ (by omega) (by omega))
      have eb : (sltOf seed bits L[k]).blk = L[k].blk := rfl
      have en : (sltOf seed bits L[k]).no = L[k].no := rfl
      rw [eb, en] at HPU
      clear hq hgc hmem hxx hfree hnum eb en hrow
      generalize L[k] = x at *
      obtain ⟨put, ky, vl, xb, xn⟩ := x
      dsimp only at *
      generalize (sltOf seed bits ⟨put, ky, vl, xb, xn⟩).num = sn at *
      have HBr : Hid (Below W1.heap.size W1 wr) := hB
      replace q0 := (hB.cell (p := ⟨w.heap.size, 0, none⟩) z1).trans q0
      replace q1 := (hB.cell (p := ⟨w.heap.size, 1, none⟩) z1).trans q1
      replace q2 := (hB.cell (p := ⟨w.heap.size, 2, none⟩) z1).trans q2
      replace q3 := (hB.cell (p := ⟨w.heap.size, 3, none⟩) z1).trans q3
      replace q4 := (hB.cell (p := ⟨w.heap.size, 4, none⟩) z1).trans q4
      have hne1 : w.heap.size ≠ wr.heap.size := by omega
      have hlt1 : w.heap.size < wr.heap.size := by omega
      have HMr : Hid (Maps2 wr bi bp nn L) := HM1.out.below hB (by omega) (by omega)
      have hrne : wr.heap.size ≠ W1.heap.size := by omega
      have hfd := fieldIt (S ky) (S vl)
      have HIN : Hid (∀ o : Obj, o = .cells #[.int .i64 (xb : Int), .int .i64 (xn : Int)] 165 → MkS W1 w.heap.size wr.heap.size blk seed bits bi bp xb xn (wr.alloc o).drew) := by
        rintro o rfl
        exact ⟨⟨(past_drew _ _ hlt1).trans q0, (past_drew _ _ hlt1).trans q1, (past_drew _ _ hlt1).trans q2, (past_drew _ _ hlt1).trans q3, (past_drew _ _ hlt1).trans q4⟩, ⟨by simp, by simp⟩, (hB.alloc zr _).drew, by simp⟩
      go_wp2_with fail
      go_region_held3 (fun w' => (w'.cell? ⟨w.heap.size, 0, none⟩ = some (.int .i64 (blk : Int)) ∧ w'.cell? ⟨w.heap.size, 1, none⟩ = some (.int .i64 (seed : Int)) ∧ w'.cell? ⟨w.heap.size, 2, none⟩ = some (.int .i64 (bits : Int)) ∧ w'.cell? ⟨w.heap.size, 3, none⟩ = some (.map (some bi)) ∧ w'.cell? ⟨w.heap.size, 4, none⟩ = some (.map (some bp))) ∧ (w'.cell? ⟨wr.heap.size, 0, none⟩ = some (.int .i64 (xb : Int)) ∧ w'.cell? ⟨wr.heap.size, 1, none⟩ = some (.int .i64 (xn : Int))) ∧ Below W1.heap.size W1 w' ∧ wr.heap.size < w'.heap.size) (first | (exact HIN.out _ rfl) | (exact MkS.below (by assumption) (by assumption) z1) | (exact MkS.turn (by assumption) (by assumption) z1 hrne)) (first | (go_at_call 94; refine (HAT.out _ ?_).mono ?_; exact (HMr.out.alloc _).drew; rintro e wA ⟨rfl, hbA⟩) | (go_at_call 93; refine (HNU.out _).mono ?_; rintro e wB ⟨rfl, hbB⟩) | (go_at_call 92; refine (HPU.out _ ?_ ?_).mono ?_; exact own_belowK (own_belowK (HO.out.alloc _).drew hbA (Nat.le_refl _)) hbB (Nat.le_refl _); have := hbA.size; have := hbB.size; simp at *; omega; rintro e wC ⟨rfl, hrC, hbC⟩))
      all_goals
        have HRC : Hid _ := hrC
        have hBC : Below W1.heap.size W1 wC := by
          have h1 := (hB.alloc zr (.cells #[.int .i64 (xb : Int), .int .i64 (xn : Int)] 165)).drew
          have h2 := h1.trans (hbA.mono h1.size)
          have h3 := h2.trans (hbB.mono h2.size)
          exact h3.trans hbC.1
        clear q0 q1 q2 q3 q4 y0 y1 hrC hbC hbA hbB HAT HNU HPU HO HIN HMr HBr
        go_wp2
        go_roundw
        case rel => exact ⟨k + 1, by omega, by go_num, by rw [HT.out]; exact HRC.out, hBC⟩
        case measure => simp [intOf]; omega
    · have hkk : k = L.length := by omega
      subst hkk
      have HOE : Hid (wr.ownsRow W1.heap.size 175 4 (.slice (some ⟨W1.heap.size, 0, none⟩) n n) n (cellsP (fillL n (L.map (sltOf seed bits))))) := by
        have := HO.out
        rwa [List.take_length] at this
      have HTN : Hid (∀ y : Slt, some y ∈ fillL n (L.map (sltOf seed bits)) → y.num < 4294967296 ∧ y.blk ≤ 100000 ∧ y.no ≤ 255) := by
        intro y hy
        obtain ⟨p, hp⟩ := List.mem_iff_getElem?.1 hy
        have := ((fill_run (n := n) (L.map (sltOf seed bits)) (by simp; omega)).2 y).1 ⟨p, hp⟩
        obtain ⟨z, hz, rfl⟩ := List.mem_map.1 this
        have := HX.out z hz
        exact ⟨num_lt _ _ _ (by omega) (by omega), this.2.1, this.2.2⟩
      have HTL : Hid ((fillL n (L.map (sltOf seed bits))).length = n) := fillL_length _ _
      clear HO HM HM1 HL HX HR1 hbi hbp
      generalize fillL n (L.map (sltOf seed bits)) = T at *
      have HFA : Hid _ := farthest_any W1.heap.size n n W1.heap.size T wr HOE.out HTL.out (by omega) (by omega) (fun y hy => (HTN.out y hy).1)
      go_wp2_with fail
      refine Calls.mono HFA.out ?_
      rintro e w4 ⟨rfl, hb4⟩
      have hfar := farP_lt (n := n) (by omega) T n
      have hsum := sumI_lt log.data.toList
      have HSU : Hid (∀ wx, Calls Tryz.prog 96 #[.string log] wx fun e w' => e = .returned (.int .i64 ((sumI log.data.toList).toNat : Nat)) ∧ Below wx.heap.size wx w') := fun wx => (sumOf_any log wx (by omega)).mono fun e w' h => ⟨h.1.trans (ret_int (by omega)), h.2⟩
      have hsum2 : (sumI log.data.toList).toNat < 4294967296 := by omega
      have HLL : Hid (log.data.toList.length = log.size) := by show _ = _; simp
      rw [HLL.out] at HIX
      clear hsum
      generalize (sumI log.data.toList).toNat = sm at *
      generalize farP n T n = fr at *
      go_wp2_with fail
      refine Calls.mono (HSU.out _) ?_
      rintro e w5 ⟨rfl, hb5⟩
      have hB5 : Below W1.heap.size W1 w5 := (hB.trans (hb4.mono zr)).trans (hb5.mono (by have := hb4.size; omega))
      have HB5 : Hid (Below w.heap.size w w5) := hB1.trans (hB5.mono (by omega))
      have HO5 : Hid (w5.ownsRow W1.heap.size 175 4 (.slice (some ⟨W1.heap.size, 0, none⟩) n n) n (cellsP T)) := own_belowK (own_belowK HOE.out hb4 (Nat.le_refl _)) hb5 (Nat.le_refl _)
      have HH5 : Hid (HalvesAt w5) := HH.out.below HB5.out HH.out.1
      have HF : Hid (∀ wx, HalvesAt wx → _) := fun wx hx => frontBytes_any L.length n fr log.size sm wx (by omega) (by omega) (by omega) (by omega) hsum2 hx
      have z5 := HB5.out.size
      clear HFA HSU hb4 hb5 hB5 HOE q0 q1 q2 q3 q4 hB zr
      go_wp2_with fail
      refine Calls.mono (HF.out _ (HH5.out.below ((Below.refl _ _).alloc (Nat.le_refl _) _) HH5.out.1)) ?_
      rintro e w6 ⟨v6, rfl, hr6, hb6⟩
      obtain ⟨W5, hW5⟩ : ∃ W5, W5 = w5.alloc (.cells #[.int .i64 (L.length : Int), .int .i64 (n : Int), .int .i64 (fr : Int), .int .i64 (log.size : Int), .int .i64 (sm : Int)] 139) := ⟨_, rfl⟩
      rw [← hW5] at hr6 hb6
      have hzW5 : W5.heap.size = w5.heap.size + 1 := by rw [hW5]; simp
      have z56 := hb6.size
      have hBW5 : Below w5.heap.size w5 W5 := by rw [hW5]; exact (Below.refl _ _).alloc (Nat.le_refl _) _
      have hB6 : Below w5.heap.size w5 w6 := hBW5.trans (hb6.mono (by omega))
      have HB6 : Hid (Below w.heap.size w w6) := HB5.out.trans (hB6.mono z5)
      have HO6 : Hid _ := own_belowK HO5.out hB6 (Nat.le_refl _)
      have HTB : Hid _ := tableBytes_any W1.heap.size n n W1.heap.size T w6 HO6.out HTL.out (by omega) (by omega) HTN.out (HH.out.below HB6.out HH.out.1)
      have HR6 : Hid (w6.ownsRow W5.heap.size 5 1 v6 (sealL (frontB L.length n fr log.size sm)).length (cellsB (sealL (frontB L.length n fr log.size sm)))) := hr6
      have z6 := HB6.out.size
      clear hr6 hW5 HF HO5 HH5
      go_wp2_with fail
      refine Calls.mono HTB.out ?_
      rintro e w7 ⟨v7, rfl, hr7, hb7⟩
      have HB7 : Hid (Below w.heap.size w w7) := HB6.out.trans (hb7.mono z6)
      have hr6' := own_belowK HR6.out hb7 (Nat.le_refl _)
      have hlf : (sealL (frontB L.length n fr log.size sm)).length ≤ 20 := by rw [sealL_length, frontB_length]; omega
      have hlt2 : (sealL (tabB T)).length ≤ 10 * n + 4 ∧ 1 ≤ (sealL (tabB T)).length := by rw [sealL_length, tabB_length, HTL.out]; omega
      obtain ⟨i1, hj, hy0, hy1, hy2⟩ := info_parts info_u8
      obtain ⟨g7, c7, rfl, hg70, hg71, hg7c⟩ := own_cellsN hr7 (by omega)
      have HG7 : Hid (∀ j u, (cellsB (sealL (tabB T)))[j]? = some u → w7.cell? ((⟨g7, 0, none⟩ : Addr).add j) = some u) := by
        intro j u hu
        rw [Addr.add_lit, Nat.zero_add, hg7c j (by have := (List.getElem?_eq_some_iff.1 hu).1; rw [cellsB_length] at this; omega)]
        exact hu
      have HR7 : Hid _ := hr6'
      have z7 := HB7.out.size
      have h67 := hb7.size
      clear HTB hr7 hr6' hg7c HR6 HO6 hb7 hB6 hBW5 hb6
      go_wp2_with (at_builtin; refine wpList_append_own _ rfl (.tmp 46) (.tmp 48) 43 rfl W5.heap.size 5 i1 (.int .u8 0) 1 1 Tryz.underlying43 hj hy0 hy1 hy2 rfl (by decide) _ _ _ rfl HR7.out ⟨g7, 0, none⟩ (sealL (tabB T)).length c7 (cellsB (sealL (tabB T))) rfl (by rw [cellsB_length, Nat.mul_one]) HG7.out ?c2 ?c3 ?c4 ?c5 ?_)
      case c2 => intro u hu; obtain ⟨y, _, rfl⟩ := List.mem_map.1 hu; rfl
      case c3 => unfold maxLen; omega
      case c4 => omega
      case c5 => omega
      intro v8 w8 hr8 hg8 _
      rw [← cellsB_append] at hr8
      have hcv := conv_own hr8
      rw [← HIX.out] at hcv
      have HB8 : Hid (Below w.heap.size w w8) := HB7.out.grown hg8 z7 (fun k e => by have := own_ge HR7.out k e; omega)
      clear hr8 hg8
      go_wp2
      go_ret
      exact ⟨rfl, HB8.out⟩
end Go.Proofs.YtdhgebdbiehchaaGreatDoor
namespace Go.Proofs.YtdhgebdbiehchaaGreatDoor
open Go.RowKit Go.Shelf Go.Maps
set_option linter.unusedSimpArgs false
set_option linter.unusedVariables false
attribute [local go_sem] Oper.semAt_some

/-- What lives in a log, and where. -/
theorem said_facts {log : List UInt8} {L : List Sd} (h : saidS log = some L) : Lives L ∧ L.length ≤ 2000 ∧ (∀ x ∈ L, x.key.length ≤ 20 ∧ x.blk ≤ 100000 ∧ x.no ≤ 255) ∧ hdSeed log ≤ 4294967295 ∧ hdBits log ≤ 32 ∧ log.length ≤ 100000 ∧ headB log = true := by
  unfold saidS at h
  split at h
  · cases h
  rename_i h1
  split at h
  · cases h
  rename_i h2
  split at h
  · cases h
  rename_i h3
  split at h
  · cases h
  rename_i h4
  have h := Option.some.inj h
  subst h
  have hh : headB log = true := by cases hq : headB log with | true => rfl | false => exact absurd hq h2
  have hr : (readL log (hdBlk log) 14).1.Pairwise placeLt ∧ (∀ x ∈ (readL log (hdBlk log) 14).1, 14 ≤ x.blk ∧ x.blk < log.length ∧ x.no < 255) ∧ _ := readF_rise log (hdBlk log) (log.length - 14) 14
  have hk : ∀ x ∈ (readL log (hdBlk log) 14).1, x.key.length ≤ 20 := readF_keys log (hdBlk log) (log.length - 14) 14
  refine ⟨lives_of hr.1 (fun y hy => ?_), by omega, fun x hx => ?_, ?_, ?_, by omega, hh⟩
  · have := hr.2.1 y hy; omega
  · have hm := (liveL_mem hx).1
    have := hr.2.1 x hm
    have := hk x hm
    omega
  · have := highL4 ((log.drop 4).take 4) (by simp; omega)
    unfold hdSeed; omega
  · unfold headB wellB at hh
    simp at hh
    omega

set_option maxRecDepth 100000 in
set_option maxHeartbeats 1600000 in
theorem read_long (log : ByteArray) (h : 100000 < log.size) (hs : log.size ≤ 140737488351232) (w : World) :
    Calls Tryz.prog 51 #[.string log] w fun e w' => e = .returned (.tuple #[.agg #[.int .i64 0, .int .i64 0, .int .i64 0, .map none, .map none], .bool false]) ∧ Below w.heap.size w w' := by
  go_enter Tryz.func51, Tryz.ntmps51
  go_wp2
  refine bodyPost_ret (v := .tuple #[.agg #[.int .i64 0, .int .i64 0, .int .i64 0, .map none, .map none], .bool false]) ?_ rfl ⟨rfl, ?_⟩
  · simp [results, Tryz.results51, go_sem]
  · first | exact (Below.refl _ _).alloc (Nat.le_refl _) _ | exact (((((((Below.refl _ _).alloc (Nat.le_refl _) _).setCell (Nat.le_refl _) _).setCell (Nat.le_refl _) _).setCell (Nat.le_refl _) _).setCell (Nat.le_refl _) _).setCell (Nat.le_refl _) _)
set_option maxRecDepth 100000 in
set_option maxHeartbeats 1600000 in
theorem read_none (log : ByteArray) (h : log.size ≤ 100000) (w : World) (hH : HalvesAt w) (hh : headB log.data.toList = false) :
    Calls Tryz.prog 51 #[.string log] w fun e w' => e = .returned (.tuple #[.agg #[.int .i64 0, .int .i64 0, .int .i64 0, .map none, .map none], .bool false]) ∧ Below w.heap.size w w' := by
  have HR : Hid _ := readHead_any log (w.alloc (.cells #[.int .i64 0, .int .i64 0, .int .i64 0, .map none, .map none] 100)) (by omega) (hH.below ((Below.refl _ _).alloc (Nat.le_refl _) _) hH.1)
  rw [hh, show headV log.data.toList = .agg #[.int .i64 0, .int .i64 0, .int .i64 0] by rw [headV, if_neg (by rw [hh]; simp)]] at HR
  clear hH hh
  go_enter Tryz.func51, Tryz.ntmps51
  go_wp2_with fail
  refine Calls.mono HR.out ?_
  rintro e w1 ⟨rfl, hb⟩
  have hz : w.heap.size < w1.heap.size := by have := hb.size; simp at this; omega
  have c0 : w1.cell? ⟨w.heap.size, 0, none⟩ = some (.int .i64 0) := by rw [hb.cell (p := ⟨w.heap.size, 0, none⟩) (by simp)]; simp
  have c1 : w1.cell? ⟨w.heap.size, 1, none⟩ = some (.int .i64 0) := by rw [hb.cell (p := ⟨w.heap.size, 1, none⟩) (by simp)]; simp
  have c2 : w1.cell? ⟨w.heap.size, 2, none⟩ = some (.int .i64 0) := by rw [hb.cell (p := ⟨w.heap.size, 2, none⟩) (by simp)]; simp
  have c3 : w1.cell? ⟨w.heap.size, 3, none⟩ = some (.map none) := by rw [hb.cell (p := ⟨w.heap.size, 3, none⟩) (by simp)]; simp
  have c4 : w1.cell? ⟨w.heap.size, 4, none⟩ = some (.map none) := by rw [hb.cell (p := ⟨w.heap.size, 4, none⟩) (by simp)]; simp
  have f0 : w1.frozen? ⟨w.heap.size, 0, none⟩ = false := by rw [hb.frozen (p := ⟨w.heap.size, 0, none⟩) (by simp)]; simp
  have f1 : w1.frozen? ⟨w.heap.size, 1, none⟩ = false := by rw [hb.frozen (p := ⟨w.heap.size, 1, none⟩) (by simp)]; simp
  have f2 : w1.frozen? ⟨w.heap.size, 2, none⟩ = false := by rw [hb.frozen (p := ⟨w.heap.size, 2, none⟩) (by simp)]; simp
  have f3 : w1.frozen? ⟨w.heap.size, 3, none⟩ = false := by rw [hb.frozen (p := ⟨w.heap.size, 3, none⟩) (by simp)]; simp
  have f4 : w1.frozen? ⟨w.heap.size, 4, none⟩ = false := by rw [hb.frozen (p := ⟨w.heap.size, 4, none⟩) (by simp)]; simp
  have hB : Below w.heap.size w w1 := ((Below.refl _ _).alloc (Nat.le_refl _) _).trans (hb.mono (by simp))
  have hne : w.heap.size ≠ w1.heap.size := by omega
  clear HR hb
  go_wp2
  refine bodyPost_ret (v := .tuple #[.agg #[.int .i64 0, .int .i64 0, .int .i64 0, .map none, .map none], .bool false]) ?_ rfl ⟨rfl, ?_⟩
  · simp [results, Tryz.results51, go_sem, c0, c1, c2, c3, c4, hz, hne]
  · exact (((((hB.setCell (p := ⟨w.heap.size, 0, none⟩) (Nat.le_refl _) _).setCell (p := ⟨w.heap.size, 1, none⟩) (Nat.le_refl _) _).setCell (p := ⟨w.heap.size, 2, none⟩) (Nat.le_refl _) _).setCell (p := ⟨w.heap.size, 3, none⟩) (Nat.le_refl _) _).setCell (p := ⟨w.heap.size, 4, none⟩) (Nat.le_refl _) _).alloc (by simp; omega) _

theorem said_no {w w' : World} {log : List UInt8} (h : saidS log = none) : SaidIs w w' log (.tuple #[.agg #[.int .i64 0, .int .i64 0, .int .i64 0, .map none, .map none], .bool false]) := by
  unfold SaidIs; rw [h]
theorem read_any (log : ByteArray) (w : World) (hs : log.size ≤ 140737488351232) (hH : HalvesAt w) :
    Calls Tryz.prog 51 #[.string log] w fun e w' => ∃ v, e = .returned v ∧ SaidIs w w' log.data.toList v ∧ Below w.heap.size w w' := by
  have hlen : log.data.toList.length = log.size := by simp
  by_cases h1 : 100000 < log.size
  · refine (read_long log h1 hs w).mono fun e w' h => ⟨_, h.1, said_no ?_, h.2⟩
    unfold saidS; rw [if_pos (by omega)]
  · cases hh : headB log.data.toList with
    | true => exact callsIn_wide.1 (read_in 6 (by omega) log (by omega) w hH hh)
    | false =>
      refine (read_none log (by omega) w hH hh).mono fun e w' h => ⟨_, h.1, said_no ?_, h.2⟩
      unfold saidS; rw [if_neg (by omega), if_pos hh]

set_option maxRecDepth 100000 in
set_option maxHeartbeats 1600000 in
theorem progIndex_any (log : ByteArray) (w : World) (hs : log.size ≤ 140737488351232) (hH : HalvesAt w) :
    Calls Tryz.prog 20 #[.string log] w fun e w' => e = .returned (indexV (indexS log.data.toList)) ∧ Below w.heap.size w w' := by
  have HR : Hid _ := read_any log w hs hH
  have HH : Hid (HalvesAt w) := hH
  have HI : Hid (indexS log.data.toList = (saidS log.data.toList).map (indexB log.data.toList (hdSeed log.data.toList) (hdBits log.data.toList))) := indexS_said _
  clear hH
  go_enter Tryz.func20, Tryz.ntmps20
  go_wp2_with fail
  refine Calls.mono HR.out ?_
  rintro e w1 ⟨v, rfl, hS, hb⟩
  clear HR
  cases hq : saidS log.data.toList with
  | none =>
    unfold SaidIs at hS
    rw [hq] at hS HI
    simp only at hS
    subst hS
    have HE : Hid (indexS log.data.toList = none) := HI.out
    clear hq HI
    go_wp2
    go_ret2
    exact ⟨by rw [HE.out]; rfl, hb.alloc hb.size _⟩
  | some L =>
    unfold SaidIs at hS
    rw [hq] at hS HI
    obtain ⟨bi, bp, n, hv, hM, hbi⟩ := hS
    subst hv
    obtain ⟨f1, f2, f3, f4, f5, f6, f7⟩ := said_facts hq
    have hlen : log.data.toList.length = log.size := by simp
    have HE : Hid (indexS log.data.toList = some (indexB log.data.toList (hdSeed log.data.toList) (hdBits log.data.toList) L)) := HI.out
    have HM : Hid (∀ wx, Maps2 wx bi bp n L → HalvesAt wx → _) := fun wx h1 h2 => make_any log (hdBlk log.data.toList) (hdSeed log.data.toList) (hdBits log.data.toList) bi bp n L wx h1 f1 f2 f3 f4 f5 (by omega) h2
    have HM1 : Hid (Maps2 w1 bi bp n L) := hM
    have HH1 : Hid (HalvesAt w1) := HH.out.below hb HH.out.1
    clear hq HI hM f1 f2 f3 f4 f5 f6 f7 hlen
    generalize indexB log.data.toList (hdSeed log.data.toList) (hdBits log.data.toList) L = I at *
    generalize hdBlk log.data.toList = blk at *
    generalize hdSeed log.data.toList = seed at *
    generalize hdBits log.data.toList = bits at *
    go_wp2_with fail
    refine Calls.mono (HM.out _ (HM1.out.alloc _) (HH1.out.below ((Below.refl _ _).alloc (Nat.le_refl _) _) HH1.out.1)) ?_
    rintro e w2 ⟨rfl, hb2⟩
    go_wp2
    go_ret2
    exact ⟨by rw [HE.out]; rfl, (hb.alloc hb.size _).trans (hb2.mono (by have := hb.size; simp; omega))⟩
end Go.Proofs.YtdhgebdbiehchaaGreatDoor
