/- Plain facts on bytes and numbers, of which the walks over Number make use: the lowest bytes of a number, the FNV-1a as a fold, the lowest bits of a number. Nothing of the program is named here. The contracts of the small functions on the road of Number: each returns what the plain function of the text Math says, and nothing that was there is turned. The contracts of sums.AppendLow and sums.Hash: the lowest bytes are appended to a slice that the call's own; the hash is the fold over all parts. The contracts of both Numbers: the program's and the document's answer tell the same number, or refuse the same. The check: the CRC-32 reckoned bit by bit, as a function on bytes; the contracts of the document's crc and Sealed. The contracts of the document's Sealed, Head, Entry.Bytes and Block: the bytes of a head and of a block. -/
import Derived.WalkKit
import Derived.Test.YtdhgebdbiehchaaGreatDoorProg
import Derived.WalkSpells
import Derived.WalkLawsBesides
import Derived.Laws.BytesArg
import Derived.Deep.RegionWith
import Derived.Deep.RegionHeld3
import Derived.Deep.QuietTactic
import Derived.BigQuiet
import Derived.Laws.BitsAllLaws
namespace Go.Proofs.YtdhgebdbiehchaaGreatDoor
open Go.RowKit

/-- A string of these bytes. -/
def S (l : List UInt8) : ByteArray := ⟨l.toArray⟩
theorem S_data (l : List UInt8) : (S l).data.toList = l := by simp [S]
theorem S_size (l : List UInt8) : (S l).size = l.length := by simp [S, ByteArray.size]
theorem S_of (s : ByteArray) : S s.data.toList = s := by cases s; simp [S]
theorem S_append (l m : List UInt8) : S l ++ S m = S (l ++ m) := by
  apply ByteArray.ext; simp [S]
theorem append_S (l : List UInt8) (s : ByteArray) : S l ++ s = S (l ++ s.data.toList) := by
  rw [← S_append, S_of]

theorem append_S_data (l : List UInt8) (s : ByteArray) : (S l ++ s).data.toList = l ++ s.data.toList := by rw [append_S, S_data]
theorem append_S_size (l : List UInt8) (s : ByteArray) : (S l ++ s).size = l.length + s.size := by rw [append_S, S_size]; simp

/-- The lowest k bytes of a number, the lowest first. -/
def lowL (n : Nat) : Nat → List UInt8
  | 0 => []
  | k + 1 => UInt8.ofNat (n % 256) :: lowL (n / 256) k
theorem lowL_length (n k : Nat) : (lowL n k).length = k := by
  induction k generalizing n with
  | zero => rfl
  | succ k ih => simp [lowL, ih]
theorem lowL_snoc (n k : Nat) : lowL n (k + 1) = lowL n k ++ [UInt8.ofNat (n / 256 ^ k % 256)] := by
  induction k generalizing n with
  | zero => simp [lowL]
  | succ k ih =>
    show UInt8.ofNat (n % 256) :: lowL (n / 256) (k + 1) = _
    rw [ih (n / 256)]
    show _ = (UInt8.ofNat (n % 256) :: lowL (n / 256) k) ++ _
    rw [List.cons_append, Nat.div_div_eq_div_mul, Nat.pow_succ, Nat.mul_comm]

/-- Bytes as the cells of a row. -/
def cellsB (l : List UInt8) : List Value := l.map fun b => Value.int .u8 (b.toNat : Int)
theorem cellsB_length (l : List UInt8) : (cellsB l).length = l.length := by simp [cellsB]
theorem cellsB_append (l m : List UInt8) : cellsB (l ++ m) = cellsB l ++ cellsB m := by simp [cellsB]
theorem cellsB_get {l : List UInt8} {j : Nat} (h : j < l.length) : (cellsB l)[j]? = some (Value.int .u8 (l[j].toNat : Int)) := by
  simp [cellsB, h]

theorem cells_set {N j k : Nat} {x : Int} (hx : 0 ≤ x) (hxn : x.toNat = N / 256 ^ j) (hj : j < k) (z : Value) :
    (cellsB (lowL N j) ++ List.replicate (k - j) z).set j (.int .u8 (x % 256)) = cellsB (lowL N (j + 1)) ++ List.replicate (k - (j + 1)) z := by
  rw [lowL_snoc, cellsB_append, List.set_append, if_neg (by simp [cellsB_length, lowL_length]), cellsB_length, lowL_length, Nat.sub_self, show k - j = (k - (j + 1)) + 1 by omega, List.replicate_succ, List.set_cons_zero, List.append_assoc]
  congr 2
  simp only [Value.int.injEq, true_and]
  rw [← hxn, UInt8.toNat_ofNat']
  omega
theorem bytes_back (l : List UInt8) : (l.map fun b => (b.toNat : Int)).map (fun n => UInt8.ofNat n.toNat) = l := by
  rw [List.map_map]
  conv => rhs; rw [← List.map_id l]
  apply List.map_congr_left
  intro b _
  simp

theorem cells_snoc {n : Int} (hn : 0 ≤ n) (l : List UInt8) (j : Nat) :
    cellsB (l ++ lowL n.toNat j) ++ [Value.int .u8 (IntKind.u8.wrap (n / 2 ^ (8 * (j : Int)).toNat))] = cellsB (l ++ lowL n.toNat (j + 1)) := by
  rw [lowL_snoc, ← List.append_assoc, cellsB_append _ [_]]
  congr 1
  have e1 : (8 * (j : Int)).toNat = 8 * j := by omega
  have e2 : (2 : Int) ^ (8 * j) = ((256 ^ j : Nat) : Int) := by
    rw [Int.pow_mul]; simp
  have e3 : n / ((256 ^ j : Nat) : Int) = ((n.toNat / 256 ^ j : Nat) : Int) := by
    conv => lhs; rw [← Int.toNat_of_nonneg hn]
    rw [Int.natCast_ediv]
  have e4 : IntKind.u8.wrap (n / 2 ^ (8 * (j : Int)).toNat) = (((n.toNat / 256 ^ j) % 256 : Nat) : Int) := by
    rw [e1, e2, e3]
    simp [IntKind.wrap, IntKind.signed, IntKind.bits]
  simp only [cellsB, List.map_cons, List.map_nil, e4, UInt8.toNat_ofNat']
  congr 3
  omega
theorem own_ge {w : World} {base e size n : Nat} {v : Value} {xs : List Value} (h : w.ownsRow base e size v n xs) : ∀ k, v.ownBlock = some k → base ≤ k := by
  intro k hk
  rcases h.2 with ⟨rfl, _⟩ | ⟨g, cap, cur, rfl, hb, _⟩
  · simp [Value.ownBlock] at hk
  · simp [Value.ownBlock] at hk; omega

/-- What an owned row of bytes, not empty, looks like. -/
theorem own_shape {w : World} {base e n : Nat} {v : Value} {xs : List Value} (h : w.ownsRow base e 1 v n xs) (hn : 0 < n) : ∃ g cap, v = .slice (some ⟨g, 0, none⟩) n cap ∧ base ≤ g ∧ g < w.heap.size ∧ ∀ j, j < n → w.cell? ⟨g, j, none⟩ = xs[j]? := by
  obtain ⟨h1, h2⟩ := h
  rcases h2 with ⟨_, h0⟩ | ⟨g, cap, cur, rfl, hb, hg, hc, hm, hsz, ht⟩
  · omega
  · refine ⟨g, cap, rfl, hb, ?_, fun j hj => World.ownsRow.cellAt (w := w) ⟨h1, .inr ⟨g, cap, cur, rfl, hb, hg, hc, hm, hsz, ht⟩⟩ j (by omega)⟩
    rcases Nat.lt_or_ge g w.heap.size with h | h
    · exact h
    · rw [Array.getElem?_eq_none h] at hg; cases hg

theorem past_drew (w : World) (o : Obj) {n i : Nat} (h : n < w.heap.size) : ((w.alloc o).drew).cell? ⟨n, i, none⟩ = w.cell? ⟨n, i, none⟩ := by
  show (w.alloc o).cell? ⟨n, i, none⟩ = _
  simp [World.cell?_alloc_past, h]

/-- One step of the FNV-1a, as the model reckons it. -/
def fnvStep (h : Int) (c : UInt8) : Int := IntKind.u64.wrap (bits BinOp.xor IntKind.u64 h (IntKind.u64.wrap (c.toNat : Int)) * 1099511628211)
def fnv (h : Int) (l : List UInt8) : Int := l.foldl fnvStep h
/-- What the FNV-1a is begun with. -/
def F0 : Int := 14695981039346656037
theorem F0_range (l : List UInt8) : 0 ≤ fnv F0 l ∧ fnv F0 l ≤ 18446744073709551615 := by
  rcases List.eq_nil_or_concat l with rfl | ⟨l', c, rfl⟩
  · exact ⟨by decide, by decide⟩
  · rw [List.concat_eq_append]
    have : fnv F0 (l' ++ [c]) = fnvStep (fnv F0 l') c := by simp [fnv]
    rw [this]; unfold fnvStep
    generalize bits BinOp.xor IntKind.u64 (fnv F0 l') (IntKind.u64.wrap (c.toNat : Int)) * 1099511628211 = x
    have : IntKind.u64.wrap x = x % 18446744073709551616 := by simp [IntKind.wrap, IntKind.signed, IntKind.bits]
    rw [this]; omega
theorem fnv_append (h : Int) (l m : List UInt8) : fnv h (l ++ m) = fnv (fnv h l) m := by simp [fnv]
theorem fnv_snoc (h : Int) (l : List UInt8) (c : UInt8) : fnv h (l ++ [c]) = fnvStep (fnv h l) c := by simp [fnv]
theorem fnvStep_range (h : Int) (c : UInt8) : 0 ≤ fnvStep h c ∧ fnvStep h c ≤ 18446744073709551615 := by
  unfold fnvStep
  generalize bits BinOp.xor IntKind.u64 h (IntKind.u64.wrap (c.toNat : Int)) * 1099511628211 = x
  have : IntKind.u64.wrap x = x % 18446744073709551616 := by simp [IntKind.wrap, IntKind.signed, IntKind.bits]
  rw [this]; omega
theorem fnv_range {h : Int} (h0 : 0 ≤ h) (h1 : h ≤ 18446744073709551615) (l : List UInt8) : 0 ≤ fnv h l ∧ fnv h l ≤ 18446744073709551615 := by
  rcases List.eq_nil_or_concat l with rfl | ⟨l', c, rfl⟩
  · exact ⟨h0, h1⟩
  · rw [List.concat_eq_append, fnv_snoc]; exact fnvStep_range _ _

theorem take_snoc {l : List UInt8} {k : Nat} (h : k < l.length) : l.take (k + 1) = l.take k ++ [l[k]] := by
  rw [List.take_succ_eq_append_getElem h]
theorem take_snocS (s : ByteArray) (k : Nat) (h : k < s.size) : s.data.toList.take (k + 1) = s.data.toList.take k ++ [s[k]] := by
  rw [List.take_succ_eq_append_getElem (by simpa using h)]; rfl
theorem fnv_snocS (h : Int) (s : ByteArray) (k : Nat) (hk : k < s.size) : fnv h (s.data.toList.take (k + 1)) = fnvStep (fnv h (s.data.toList.take k)) s[k] := by
  rw [take_snocS s k hk, fnv_snoc]

/-- The number of any bytes under a seed: the lowest bits of the FNV-1a. -/
def numberI (seed bits : Int) (key : List UInt8) : Int := fnv F0 (lowL seed.toNat 4 ++ key) % 2 ^ bits.toNat

theorem mod_top_p {H p : Int} (hp : 0 < p) (h : p ≤ H % (2 * p)) : H % (2 * p) - p = H % p := by
  have h2 := Int.emod_lt_of_pos H (show 0 < 2 * p by omega)
  have h3 : H % (2 * p) % p = H % p := Int.emod_emod_of_dvd H ⟨2, by rw [Int.mul_comm]⟩
  generalize H % (2 * p) = r at *
  rw [← h3]
  have e : r = (r - p) + p * 1 := by omega
  conv => rhs; rw [e]
  rw [Int.add_mul_emod_self_left, Int.emod_eq_of_lt (by omega) (by omega)]
theorem mod_low_p {H p : Int} (hp : 0 < p) (h : ¬ p ≤ H % (2 * p)) : H % (2 * p) = H % p := by
  have h1 := Int.emod_nonneg H (show 2 * p ≠ 0 by omega)
  have h3 : H % (2 * p) % p = H % p := Int.emod_emod_of_dvd H ⟨2, by rw [Int.mul_comm]⟩
  generalize H % (2 * p) = r at *
  rw [← h3, Int.emod_eq_of_lt (by omega) (by omega)]
theorem pow_pred {i : Nat} (hi : 1 ≤ i) : (2 : Int) ^ i = 2 * 2 ^ (i - 1) := by
  obtain ⟨j, rfl⟩ : ∃ j, i = j + 1 := ⟨i - 1, by omega⟩
  rw [Nat.add_sub_cancel, Int.pow_succ]; omega
theorem mod_top {H : Int} {i : Nat} (hi : 1 ≤ i) (h : 2 ^ (i - 1) ≤ H % 2 ^ i) : H % 2 ^ i - 2 ^ (i - 1) = H % 2 ^ (i - 1) := by
  rw [pow_pred hi] at h ⊢
  exact mod_top_p (Int.pow_pos (by omega)) h
theorem mod_low {H : Int} {i : Nat} (hi : 1 ≤ i) (h : ¬ 2 ^ (i - 1) ≤ H % 2 ^ i) : H % 2 ^ i = H % 2 ^ (i - 1) := by
  rw [pow_pred hi] at h ⊢
  exact mod_low_p (Int.pow_pos (by omega)) h
theorem pow_le_31 {i : Nat} (h : i ≤ 31) : (1 : Int) ≤ 2 ^ i ∧ (2 : Int) ^ i ≤ 2147483648 := by
  have h1 : (1 : Nat) ≤ 2 ^ i := Nat.one_le_two_pow
  have h2 : (2 : Nat) ^ i ≤ 2 ^ 31 := Nat.pow_le_pow_right (by omega) h
  have h3 : ((2 ^ i : Nat) : Int) = 2 ^ i := by simp
  omega

theorem number_mask {H : Int} {bt : Nat} (h0 : 0 ≤ H) (h1 : H ≤ 18446744073709551615) (hb : bt ≤ 32) :
    IntKind.i64.wrap (bits BinOp.and IntKind.u64 H (IntKind.u64.wrap (IntKind.u64.wrap (2 ^ bt) - 1))) = H % 2 ^ bt := by
  have hp : (1 : Int) ≤ 2 ^ bt ∧ (2 : Int) ^ bt ≤ 4294967296 := by
    have h1 : (1 : Nat) ≤ 2 ^ bt := Nat.one_le_two_pow
    have h2 : (2 : Nat) ^ bt ≤ 2 ^ 32 := Nat.pow_le_pow_right (by omega) hb
    have h3 : ((2 ^ bt : Nat) : Int) = 2 ^ bt := by simp
    omega
  have w1 : ∀ x : Int, 0 ≤ x → x < 2 ^ 64 → IntKind.u64.wrap x = x := by
    intro x h0 h1
    rw [IntKind.wrap_u64]; omega
  rw [w1 (2 ^ bt) (by omega) (by omega), w1 (2 ^ bt - 1) (by omega) (by omega), bits_mask .u64 64 (by decide) w1 bt (by omega) H h0 (by omega)]
  have h2 := Int.emod_nonneg H (show (2 : Int) ^ bt ≠ 0 by omega)
  have h3 := Int.emod_lt_of_pos H (show (0 : Int) < 2 ^ bt by omega)
  rw [IntKind.wrap_i64]; omega

end Go.Proofs.YtdhgebdbiehchaaGreatDoor
namespace Go.Proofs.YtdhgebdbiehchaaGreatDoor
open Go.RowKit

theorem info_u8 : (Tryz.prog.info? 5).map (fun i => (i.zero, i.size, i.bytes)) = some (some (.int .u8 0), 1, 1) := by kernel_rfl

def seedB (a : Int) : Bool := decide (0 ≤ a) && decide (a ≤ 4294967295)
def bitsB (a : Int) : Bool := decide (0 ≤ a) && decide (a ≤ 32)
def keyB (s : ByteArray) : Bool := decide (1 ≤ s.size) && decide (s.size ≤ 20)

theorem ret_bool {a b : Bool} (h : a = b) : Ending.returned (.bool a) = .returned (.bool b) := by rw [h]
theorem ret_int {k : IntKind} {a b : Int} (h : a = b) : Ending.returned (.int k a) = .returned (.int k b) := by rw [h]
theorem ret_str {a b : ByteArray} (h : a = b) : Ending.returned (.string a) = .returned (.string b) := by rw [h]

set_option maxHeartbeats 400000 in
theorem isSeed_any (a : Int) (w : World) :
    Calls Tryz.prog 126 #[.int .i64 a] w fun e w' => e = .returned (.bool (seedB a)) ∧ w' = w := by
  go_enter Tryz.func126, Tryz.ntmps126
  go_wp2
  all_goals
    go_ret
    exact ⟨ret_bool (by unfold seedB; simp; omega), rfl⟩

set_option maxHeartbeats 400000 in
theorem isBits_any (a : Int) (w : World) :
    Calls Tryz.prog 127 #[.int .i64 a] w fun e w' => e = .returned (.bool (bitsB a)) ∧ w' = w := by
  go_enter Tryz.func127, Tryz.ntmps127
  go_wp2
  all_goals
    go_ret
    exact ⟨ret_bool (by unfold bitsB; simp; omega), rfl⟩

set_option maxHeartbeats 400000 in
theorem isKey_any (s : ByteArray) (w : World) :
    Calls Tryz.prog 153 #[.string s] w fun e w' => e = .returned (.bool (keyB s)) ∧ w' = w := by
  go_enter Tryz.func153, Tryz.ntmps153
  go_wp2
  all_goals
    go_ret
    refine ⟨ret_bool ?_, rfl⟩
    rw [Bool.eq_iff_iff]; unfold keyB; simp; omega

set_option maxHeartbeats 400000 in
theorem key_any (s : ByteArray) (w : World) :
    Calls Tryz.prog 161 #[.string s] w fun e w' => e = .returned (.bool (keyB s)) ∧ w' = w := by
  go_enter Tryz.func161, Tryz.ntmps161
  go_wp2
  all_goals
    go_ret
    refine ⟨ret_bool ?_, rfl⟩
    rw [Bool.eq_iff_iff]; unfold keyB; simp; omega

set_option maxHeartbeats 400000 in
theorem num_any (a : Int) (w : World) :
    Calls Tryz.prog 114 #[.int .i64 a] w fun e w' => e = .returned (.int .i64 a) ∧ w' = w := by
  go_enter Tryz.func114, Tryz.ntmps114
  go_wp2
  go_ret
  exact ⟨rfl, rfl⟩

set_option maxHeartbeats 400000 in
theorem sum_any (s : ByteArray) (w : World) (hs : s.size ≤ 9223372036854775807) :
    Calls Tryz.prog 167 #[.string s] w fun e w' => e = .returned (.int .i64 (fnv F0 s.data.toList % 4294967296)) ∧ w' = w := by
  go_enter Tryz.func167, Tryz.ntmps167
  go_wp2
  go_loop [3, 4] (fun h i => ∃ (k : Nat), k ≤ s.size ∧ i = .int .i64 k ∧ h = .int .u64 (fnv F0 (s.data.toList.take k))) (fun _ i => s.size - (intOf i).toNat)
  case atStart => exact ⟨0, Nat.zero_le _, rfl, rfl⟩
  case round =>
    obtain ⟨k, hk, rfl, rfl⟩ := hrel
    have hr := F0_range (s.data.toList.take k)
    obtain ⟨hr0, hr1⟩ := hr
    by_cases hlt : k < s.size
    · have HS : Hid (fnv F0 (s.data.toList.take (k + 1)) = fnvStep (fnv F0 (s.data.toList.take k)) s[k]) := fnv_snocS _ s k hlt
      generalize fnv F0 (s.data.toList.take k) = x at *
      go_wp2
      go_round
      case rel => exact ⟨k + 1, by omega, by go_num, by rw [HS.out]; rfl⟩
      case measure => simp [intOf]; omega
    · have HS : Hid (fnv F0 (s.data.toList.take k) = fnv F0 s.data.toList) := by
        show _ = _
        rw [List.take_of_length_le (by simp; omega)]
      generalize fnv F0 (s.data.toList.take k) = x at *
      go_wp2
      go_ret
      exact ⟨ret_int (by rw [← HS.out]), rfl⟩
set_option maxHeartbeats 400000 in
theorem low_any (n : Int) (k : Nat) (w : World) (hn : 0 ≤ n) (hn' : n ≤ 9223372036854775807) (hk : k ≤ 100) :
    Calls Tryz.prog 110 #[.int .i64 n, .int .i64 k] w fun e w' => e = .returned (.string (S (lowL n.toNat k))) ∧ Below w.heap.size w w' := by
  obtain ⟨i0, hi, hz0, hz1, hz2⟩ := info_parts info_u8
  go_enter Tryz.func110, Tryz.ntmps110
  go_wp2_with (at_make; refine wpList_make_full _ rfl (.tmp 7) (.tmp 7) 43 rfl w.heap.size 5 i0 (.int .u8 0) 1 Tryz.underlying43 hi hz0 hz1 .i64 .i64 _ _ k rfl rfl rfl rfl ?_ ?_ ?_ ?_)
  · rw [hz2]; omega
  · unfold maxLen; omega
  · omega
  · intro w1 hown hgr
    have hown1 : w1.ownsRow w.heap.size 5 1 (.slice (some ⟨w.heap.size, 0, none⟩) k k) k (cellsB (lowL n.toNat 0) ++ List.replicate (k - 0) (.int .u8 0)) := by
      simpa [toList_madeCells_one, Value.cells, lowL, cellsB] using hown
    have hb1 : Below w.heap.size w w1 := (Below.refl _ _).grown hgr (Nat.le_refl _) (fun _ h => by cases h)
    clear hown hgr
    go_wp2
    go_loopw [0, 6] (fun m i wr => ∃ (j : Nat) (x : Int), j ≤ k ∧ i = .int .i64 j ∧ 0 ≤ x ∧ x ≤ 9223372036854775807 ∧ m = .int .i64 x ∧ Hid (x.toNat = n.toNat / 256 ^ j) ∧ wr.ownsRow w.heap.size 5 1 (.slice (some ⟨w.heap.size, 0, none⟩) k k) k (cellsB (lowL n.toNat j) ++ List.replicate (k - j) (.int .u8 0)) ∧ Below w.heap.size w wr) (fun _ i _ => k - (intOf i).toNat)
    case atStart => exact ⟨0, n, Nat.zero_le _, rfl, hn, hn', rfl, by simp [Hid], hown1, hb1⟩
    case round =>
      obtain ⟨j, x, hj, rfl, hx, hx', rfl, hxn, ho, hb⟩ := hrel
      by_cases hlt : j < k
      · have hc : ∃ y, wr.cell? ⟨w.heap.size, j, none⟩ = some y := by
          have := ho.cellAt j (by omega)
          rw [List.getElem?_eq_getElem (by simp [cellsB_length, lowL_length]; omega)] at this
          exact ⟨_, this⟩
        obtain ⟨y, hc⟩ := hc
        have hf := ho.frozenAt j
        go_wp2
        go_roundw
        case rel =>
          refine ⟨j + 1, x / 256, by omega, by go_num, by omega, by omega, rfl, ?_, ?_, hb.setCell (Nat.le_refl _) _⟩
          · show _ = _
            rw [Nat.pow_succ, ← Nat.div_div_eq_div_mul, ← hxn.out]; omega
          · have h2 := (ho.stored j (.int .u8 (x % 256))).1
            rw [cells_set hx hxn.out hlt] at h2
            exact h2
        case measure => simp [intOf]; omega
      · have hjk : j = k := by omega
        subst hjk
        have hcv := run_convert_bytes_arg (P := Tryz.prog) wr 43 5 Tryz.underlying43 Tryz.underlying5 w.heap.size 0 j j ((lowL n.toNat j).map fun b => (b.toNat : Int)) (by simp [lowL_length]) (fun i hi => by
          rw [Nat.zero_add, ho.cellAt i (by omega)]
          simp [cellsB, lowL_length, hi]) 9 Tryz.underlying9
        go_wp2
        go_ret
        refine ⟨ret_str ?_, hb⟩
        unfold strOfNums S
        rw [bytes_back]
end Go.Proofs.YtdhgebdbiehchaaGreatDoor
namespace Go.Proofs.YtdhgebdbiehchaaGreatDoor
open Go.RowKit
set_option linter.unusedSimpArgs false
set_option linter.unusedVariables false

set_option maxHeartbeats 400000 in
theorem appendLow_any (v : Value) (l : List UInt8) (n : Int) (k : Nat) (w : World) (base : Nat) (hn : 0 ≤ n) (hn' : n ≤ 9223372036854775807) (hk : k ≤ 8)
    (hown : w.ownsRow base 5 1 v l.length (cellsB l)) (hbase : base ≤ w.heap.size) (hl : l.length ≤ 1000000000) :
    Calls Tryz.prog 129 #[v, .int .i64 n, .int .i64 k] w fun e w' => ∃ v', e = .returned v' ∧ w'.ownsRow base 5 1 v' (l.length + k) (cellsB (l ++ lowL n.toNat k)) ∧ Below base w w' := by
  obtain ⟨i0, hi, hz0, hz1, hz2⟩ := info_parts info_u8
  go_enter Tryz.func129, Tryz.ntmps129
  go_wp2
  go_loopw [0, 9] (fun m i wr => ∃ (j : Nat), j ≤ k ∧ i = .int .i64 j ∧ wr.ownsRow base 5 1 m (l.length + j) (cellsB (l ++ lowL n.toNat j)) ∧ Below base w wr) (fun _ i _ => k - (intOf i).toNat)
  case atStart => exact ⟨0, Nat.zero_le _, rfl, by simpa [lowL] using hown, Below.refl _ _⟩
  case round =>
    obtain ⟨j, hj, rfl, ho, hb⟩ := hrel
    by_cases hlt : j < k
    · have h8 : (0 : Int) ≤ 8 * (j : Int) := by omega
      have h9 : 8 * (j : Int) ≤ 64 := by omega
      go_wp2_with (at_builtin; refine wpList_append_own _ rfl (.tmp 12) (.tmp 18) 43 rfl base 5 i0 (.int .u8 0) 1 1 Tryz.underlying43 hi hz0 hz1 hz2 rfl (by decide) _ _ _ rfl (ho.alloc _) ⟨wr.heap.size, 0, none⟩ 1 1 [.int .u8 (IntKind.u8.wrap (n / 2 ^ (8 * (j : Int)).toNat))] rfl rfl ?c1 ?c2 ?c3 ?c4 ?c5 ?_)
      case c1 => exact cell_one_new _ _ _
      case c2 => intro u hu; simp at hu; subst hu; rfl
      case c3 => unfold maxLen; omega
      case c4 => omega
      case c5 => have := hb.size; simp; omega
      intro v' w1 hown' hgrow _
      clear h8 h9
      go_wp2
      go_roundw
      case rel =>
        refine ⟨j + 1, by omega, by go_num, ?_, ?_⟩
        · rw [← cells_snoc hn]; exact hown'
        · exact (hb.alloc (by have := hb.size; omega) _).grown hgrow (by have := hb.size; simp; omega) (own_ge ho)
      case measure => simp [intOf]; omega
    · have hjk : j = k := by omega
      subst hjk
      go_wp2
      go_ret
      exact ⟨_, rfl, ho, hb⟩

set_option maxHeartbeats 800000 in
theorem hash_any (b cap : Nat) (ps : List ByteArray) (w : World) (hc : ∀ (i : Nat) (h : i < ps.length), w.cell? ⟨b, i, none⟩ = some (.string ps[i])) (hl : ps.length ≤ 100) (hs : ∀ p ∈ ps, p.size ≤ 9223372036854775807) :
    Calls Tryz.prog 152 #[.slice (some ⟨b, 0, none⟩) ps.length cap] w fun e w' => e = .returned (.int .u64 (fnv F0 (ps.map fun p => p.data.toList).flatten)) ∧ w' = w := by
  go_enter Tryz.func152, Tryz.ntmps152
  go_wp2
  go_loop [3, 9] (fun h i => ∃ (k : Nat), k ≤ ps.length ∧ i = .int .i64 k ∧ h = .int .u64 (fnv F0 ((ps.take k).map fun p => p.data.toList).flatten)) (fun _ i => ps.length - (intOf i).toNat)
  case atStart => exact ⟨0, Nat.zero_le _, rfl, rfl⟩
  case round =>
    obtain ⟨k, hk, rfl, rfl⟩ := hrel
    by_cases hlt : k < ps.length
    · have hck := hc k hlt
      have hsk := hs ps[k] (List.getElem_mem hlt)
      have HN : Hid (((ps.take (k + 1)).map fun p => p.data.toList).flatten = ((ps.take k).map fun p => p.data.toList).flatten ++ ps[k].data.toList) := by
        show _ = _
        rw [List.take_succ_eq_append_getElem hlt]; simp only [List.map_append, List.map_cons, List.map_nil, List.flatten_append, List.flatten_cons, List.flatten_nil, List.append_nil]
      generalize ps[k] = p at *
      generalize ((ps.take k).map fun p => p.data.toList).flatten = pre at *
      clear hc hs
      go_wp2
      go_loop [3, 15] (fun h i => ∃ (j : Nat), j ≤ p.size ∧ i = .int .i64 j ∧ h = .int .u64 (fnv F0 (pre ++ p.data.toList.take j))) (fun _ i => p.size - (intOf i).toNat)
      case atStart => exact ⟨0, Nat.zero_le _, rfl, by simp⟩
      case round =>
        obtain ⟨j, hj, rfl, rfl⟩ := hrel
        by_cases hjl : j < p.size
        · have HS : Hid (fnv F0 (pre ++ p.data.toList.take (j + 1)) = fnvStep (fnv F0 (pre ++ p.data.toList.take j)) p[j]) := by
            show _ = _
            rw [take_snocS p j hjl, ← List.append_assoc, fnv_snoc]
          generalize fnv F0 (pre ++ p.data.toList.take j) = x at *
          go_wp2
          go_round
          case rel => exact ⟨j + 1, by omega, by go_num, by rw [HS.out]; rfl⟩
          case measure => simp [intOf]; omega
        · have HS : Hid (fnv F0 (pre ++ p.data.toList.take j) = fnv F0 (pre ++ p.data.toList)) := by
            show _ = _
            rw [List.take_of_length_le (by simp; omega)]
          generalize fnv F0 (pre ++ p.data.toList.take j) = x at *
          go_wp2
          go_round
          case rel => exact ⟨k + 1, by omega, by go_num, by rw [HN.out, HS.out]⟩
          case measure => simp [intOf]; omega
    · have HS : Hid (fnv F0 ((ps.take k).map fun p => p.data.toList).flatten = fnv F0 (ps.map fun p => p.data.toList).flatten) := by
        show _ = _
        rw [List.take_of_length_le (by omega)]
      generalize fnv F0 ((ps.take k).map fun p => p.data.toList).flatten = x at *
      clear hc hs
      go_wp2
      go_ret
      exact ⟨ret_int HS.out, rfl⟩

theorem hash2_any (b cap : Nat) (p q : ByteArray) (w : World) (h0 : w.cell? ⟨b, 0, none⟩ = some (.string p)) (h1 : w.cell? ⟨b, 1, none⟩ = some (.string q)) (hp : p.size ≤ 9223372036854775807) (hq : q.size ≤ 9223372036854775807) :
    Calls Tryz.prog 152 #[.slice (some ⟨b, 0, none⟩) 2 cap] w fun e w' => ∃ H, e = .returned (.int .u64 H) ∧ 0 ≤ H ∧ H ≤ 18446744073709551615 ∧ Hid (H = fnv F0 (p.data.toList ++ q.data.toList)) ∧ w' = w := by
  refine (hash_any b cap [p, q] w ?_ (by simp) ?_).mono ?_
  · intro i hi
    match i, hi with
    | 0, _ => exact h0
    | 1, _ => exact h1
  · intro x hx
    simp at hx
    rcases hx with rfl | rfl
    · exact hp
    · exact hq
  · rintro e w' ⟨rfl, rfl⟩
    have := F0_range (p.data.toList ++ q.data.toList)
    exact ⟨_, rfl, by simpa using this.1, by simpa using this.2, by simp [Hid], rfl⟩
theorem hash1_any (b cap : Nat) (p : ByteArray) (w : World) (h0 : w.cell? ⟨b, 0, none⟩ = some (.string p)) (hp : p.size ≤ 9223372036854775807) :
    Calls Tryz.prog 152 #[.slice (some ⟨b, 0, none⟩) 1 cap] w fun e w' => ∃ H, e = .returned (.int .u64 H) ∧ 0 ≤ H ∧ H ≤ 18446744073709551615 ∧ Hid (H = fnv F0 p.data.toList) ∧ w' = w := by
  refine (hash_any b cap [p] w ?_ (by simp) ?_).mono ?_
  · intro i hi
    match i, hi with
    | 0, _ => exact h0
  · intro x hx
    simp at hx
    subst hx
    exact hp
  · rintro e w' ⟨rfl, rfl⟩
    have := F0_range p.data.toList
    exact ⟨_, rfl, by simpa using this.1, by simpa using this.2, by simp [Hid], rfl⟩

end Go.Proofs.YtdhgebdbiehchaaGreatDoor
namespace Go.Proofs.YtdhgebdbiehchaaGreatDoor
open Go.RowKit
set_option linter.unusedSimpArgs false
set_option linter.unusedVariables false

set_option maxHeartbeats 800000 in
theorem refnumber_any (seed bits : Int) (key : ByteArray) (w : World) (h0 : 0 ≤ seed) (h1 : seed ≤ 4294967295) (hb0 : 0 ≤ bits) (hb1 : bits ≤ 32) (hs : key.size ≤ 140737488351232) :
    Calls Tryz.prog 162 #[.int .i64 seed, .int .i64 bits, .string key] w fun e w' => e = .returned (.int .i64 (numberI seed bits key.data.toList)) ∧ Below w.heap.size w w' := by
  go_enter Tryz.func162, Tryz.ntmps162
  go_wp2_with fail
  refine (low_any seed 4 _ h0 (by omega) (by omega)).mono ?_
  rintro e w1 ⟨rfl, hb⟩
  have hsz : (S (lowL seed.toNat 4)).size = 4 := by rw [S_size, lowL_length]
  go_wp2_with fail
  refine (sum_any _ _ (by rw [append_S_size, lowL_length]; omega)).mono ?_
  rintro e w2 ⟨rfl, rfl⟩
  rw [append_S_data]
  have HN : Hid (numberI seed bits key.data.toList = fnv F0 (lowL seed.toNat 4 ++ key.data.toList) % 2 ^ bits.toNat) := rfl
  generalize fnv F0 (lowL seed.toNat 4 ++ key.data.toList) = H at *
  obtain ⟨bt, rfl⟩ := Int.eq_ofNat_of_zero_le hb0
  go_wp2
  go_loop [7, 8] (fun m i => ∃ (j : Nat), bt ≤ j ∧ j ≤ 32 ∧ i = .int .i64 j ∧ m = .int .i64 (H % 2 ^ j)) (fun _ i => (intOf i).toNat - bt)
  case atStart => exact ⟨32, by omega, by omega, rfl, rfl⟩
  case round =>
    obtain ⟨j, hj1, hj2, rfl, rfl⟩ := hrel
    have hm0 : 0 ≤ H % 2 ^ j := Int.emod_nonneg H (Int.ne_of_gt (Int.pow_pos (by omega)))
    have hm1 : H % 2 ^ j < 4294967296 := by
      have := Int.emod_lt_of_pos H (show (0 : Int) < 2 ^ j from Int.pow_pos (by omega))
      by_cases e : j = 32
      · subst e; omega
      · have := pow_le_31 (show j ≤ 31 by omega); omega
    by_cases hlt : bt < j
    · have hp := pow_le_31 (show j - 1 ≤ 31 by omega)
      obtain ⟨hp0, hp1⟩ := hp
      have hy0 : (0 : Int) ≤ (j : Int) - 1 := by omega
      have hy1 : (j : Int) - 1 ≤ 64 := by omega
      have hyn : ((j : Int) - 1).toNat = j - 1 := by omega
      go_wp2
      · have hge : (2 : Int) ^ (j - 1) ≤ H % 2 ^ j := by assumption
        go_round
        case rel => exact ⟨j - 1, by omega, by omega, by congr 1; omega, by rw [mod_top (by omega) hge]⟩
        case measure => simp [intOf]; omega
      · have hge : H % 2 ^ j < (2 : Int) ^ (j - 1) := by assumption
        go_round
        case rel => exact ⟨j - 1, by omega, by omega, by congr 1; omega, by rw [← mod_low (by omega) (by omega)]⟩
        case measure => simp [intOf]; omega
    · have hjb : j = bt := by omega
      subst hjb
      go_wp2
      go_ret
      exact ⟨ret_int (by rw [HN.out]; simp), hb⟩

set_option maxRecDepth 100000 in
set_option maxHeartbeats 800000 in
theorem recNumber_any (blk seed bits : Int) (key : ByteArray) (w : World) (h0 : 0 ≤ seed) (h1 : seed ≤ 4294967295) (hb0 : 0 ≤ bits) (hb1 : bits ≤ 32) (hs : key.size ≤ 140737488351232) :
    Calls Tryz.prog 93 #[.agg #[.int .i64 blk, .int .i64 seed, .int .i64 bits], .string key] w fun e w' => e = .returned (.int .i64 (numberI seed bits key.data.toList)) ∧ Below w.heap.size w w' := by
  go_enter Tryz.func93, Tryz.ntmps93
  go_wp2_with fail
  refine (appendLow_any _ [] seed 4 _ (w.heap.size + 1) h0 (by omega) (by omega) (World.ownsRow_nil _ _ _ _) (by simp) (by simp)).mono ?_
  rintro e w1 ⟨v, rfl, hown, hb⟩
  obtain ⟨g, cap, hv, hg0, hg1, hgc⟩ := own_shape hown (by simp)
  subst hv
  have hstr : strOfNums ((lowL seed.toNat 4).map fun b => (b.toNat : Int)) = S (lowL seed.toNat 4) := by unfold strOfNums S; rw [bytes_back]
  have hcv : ∀ (wx : World) (hx : ∀ j, wx.cell? ⟨g, j, none⟩ = w1.cell? ⟨g, j, none⟩), (convert 43 9 (.slice (some ⟨g, 0, none⟩) 4 cap)).run Tryz.prog wx = .ok (.string (S (lowL seed.toNat 4))) wx := fun wx hx => hstr ▸ run_convert_bytes_arg (P := Tryz.prog) wx 43 5 Tryz.underlying43 Tryz.underlying5 g 0 4 cap ((lowL seed.toNat 4).map fun b => (b.toNat : Int)) (by simp [lowL_length]) (fun i hi => by
    rw [Nat.zero_add, hx, hgc i (by simpa using hi)]
    simp [cellsB, lowL_length, hi]) 9 Tryz.underlying9
  have hcv1 := hcv w1.drew (fun _ => rfl)
  clear hstr
  have hc0 : w1.cell? ⟨w.heap.size, 2, none⟩ = some (.int .i64 bits) := by
    rw [hb.cell (p := ⟨w.heap.size, 2, none⟩) (by simp)]
    simp
  have hz : w.heap.size + 1 ≤ w1.heap.size := by have := hb.size; simpa using this
  go_wp2_with fail
  have hz' : w.heap.size < w1.heap.size := by omega
  have hne : ¬ w.heap.size = w1.heap.size := by omega
  have hz4 : (S (lowL seed.toNat 4)).size = 4 := by rw [S_size, lowL_length]
  obtain ⟨bt, rfl⟩ := Int.eq_ofNat_of_zero_le hb0
  have hy1 : (bt : Int) ≤ 64 := by omega
  go_region_held3 (fun w' => w'.cell? ⟨w.heap.size, 2, none⟩ = some (.int .i64 (bt : Int)) ∧ (convert 43 9 (.slice (some ⟨g, 0, none⟩) 4 cap)).run Tryz.prog w' = .ok (.string (S (lowL seed.toNat 4))) w') (first | (exact ⟨by simpa using hc0, hcv1⟩) | (exact ⟨(past_drew _ _ hz').trans hc0, hcv _ (fun j => past_drew _ _ hg1)⟩)) (first | (go_at_call 152; refine (hash2_any _ _ (S (lowL seed.toNat 4)) key _ ?_ ?_ ?_ ?_).mono ?_; (simp); (simp); (omega); (omega); rintro e w' ⟨H, rfl, hH0, hH1, hH, rfl⟩))
  go_wp2
  go_ret
  refine ⟨ret_int ?_, ?_⟩
  · rw [number_mask hH0 hH1 (by omega), hH.out, S_data]; simp [numberI]
  · exact ((((Below.refl _ _).alloc (Nat.le_refl _) _).trans (hb.mono (by omega))).alloc (by have := hb.size; simp at this; omega) _).drew

/-- What Number answers: the number and OK, or 0 and ErrArg. -/
def goodB (seed bits : Int) (key : ByteArray) : Bool := seedB seed && bitsB bits && keyB key

set_option maxHeartbeats 800000 in
theorem number_yes (seed bits : Int) (key : ByteArray) (w : World) (hg : goodB seed bits key = true) :
    Calls Tryz.prog 112 #[.int .i64 seed, .int .i64 bits, .string key] w fun e w' => e = .returned (.tuple #[.int .i64 (numberI seed bits key.data.toList), .int .i64 0]) ∧ Below w.heap.size w w' := by
  simp only [goodB, Bool.and_eq_true] at hg
  obtain ⟨⟨h1, h2⟩, h3⟩ := hg
  have a1 : 0 ≤ seed ∧ seed ≤ 4294967295 := by simpa [seedB] using h1
  have a2 : 0 ≤ bits ∧ bits ≤ 32 := by simpa [bitsB] using h2
  have a3 : 1 ≤ key.size ∧ key.size ≤ 20 := by simpa [keyB] using h3
  go_enter Tryz.func112, Tryz.ntmps112
  go_wp2_with (first | (go_at_call 126; refine (isSeed_any _ _).mono ?_; rintro e w' ⟨rfl, rfl⟩) | (go_at_call 127; refine (isBits_any _ _).mono ?_; rintro e w' ⟨rfl, rfl⟩) | (go_at_call 153; refine (isKey_any _ _).mono ?_; rintro e w' ⟨rfl, rfl⟩) | (go_at_call 93; refine (recNumber_any _ _ _ _ _ a1.1 a1.2 a2.1 a2.2 (by omega)).mono ?_; rintro e w' ⟨rfl, hb⟩))
  go_ret2
  exact ⟨rfl, by assumption⟩

set_option maxHeartbeats 800000 in
theorem number_no (seed bits : Int) (key : ByteArray) (w : World) (hg : goodB seed bits key = false) :
    Calls Tryz.prog 112 #[.int .i64 seed, .int .i64 bits, .string key] w fun e w' => e = .returned (.tuple #[.int .i64 0, .int .i64 1]) ∧ Below w.heap.size w w' := by
  have hx : seedB seed = false ∨ (seedB seed = true ∧ bitsB bits = false) ∨ (seedB seed = true ∧ bitsB bits = true ∧ keyB key = false) := by
    unfold goodB at hg
    revert hg
    cases seedB seed <;> cases bitsB bits <;> cases keyB key <;> simp
  clear hg
  rcases hx with h1 | ⟨h1, h2⟩ | ⟨h1, h2, h3⟩
  all_goals
    go_enter Tryz.func112, Tryz.ntmps112
    go_wp2_with (first | (go_at_call 126; refine (isSeed_any _ _).mono ?_; rintro e w' ⟨rfl, rfl⟩) | (go_at_call 127; refine (isBits_any _ _).mono ?_; rintro e w' ⟨rfl, rfl⟩) | (go_at_call 153; refine (isKey_any _ _).mono ?_; rintro e w' ⟨rfl, rfl⟩))
    go_ret2
    exact ⟨rfl, Below.refl _ _⟩

set_option maxHeartbeats 800000 in
theorem refNumber_yes (seed bits : Int) (key : ByteArray) (w : World) (hg : goodB seed bits key = true) :
    Calls Tryz.prog 113 #[.int .i64 seed, .int .i64 bits, .string key] w fun e w' => e = .returned (.tuple #[.int .i64 (numberI seed bits key.data.toList), .int .i64 0]) ∧ Below w.heap.size w w' := by
  simp only [goodB, Bool.and_eq_true] at hg
  obtain ⟨⟨h1, h2⟩, h3⟩ := hg
  have a1 : 0 ≤ seed ∧ seed ≤ 4294967295 := by simpa [seedB] using h1
  have a2 : 0 ≤ bits ∧ bits ≤ 32 := by simpa [bitsB] using h2
  have a3 : 1 ≤ key.size ∧ key.size ≤ 20 := by simpa [keyB] using h3
  obtain ⟨a11, a12⟩ := a1
  obtain ⟨a21, a22⟩ := a2
  go_enter Tryz.func113, Tryz.ntmps113
  go_wp2_with (first | (go_at_call 161; refine (key_any _ _).mono ?_; rintro e w' ⟨rfl, rfl⟩) | (go_at_call 162; refine (refnumber_any _ _ _ _ a11 a12 a21 a22 (by omega)).mono ?_; rintro e w' ⟨rfl, hb⟩))
  go_ret2
  exact ⟨rfl, by assumption⟩

set_option maxHeartbeats 800000 in
theorem refNumber_no (seed bits : Int) (key : ByteArray) (w : World) (hg : goodB seed bits key = false) :
    Calls Tryz.prog 113 #[.int .i64 seed, .int .i64 bits, .string key] w fun e w' => e = .returned (.tuple #[.int .i64 0, .int .i64 1]) ∧ Below w.heap.size w w' := by
  have hx : seed < 0 ∨ (0 ≤ seed ∧ 4294967295 < seed) ∨ ((0 ≤ seed ∧ seed ≤ 4294967295) ∧ bits < 0) ∨ ((0 ≤ seed ∧ seed ≤ 4294967295) ∧ 0 ≤ bits ∧ 32 < bits) ∨ ((0 ≤ seed ∧ seed ≤ 4294967295) ∧ (0 ≤ bits ∧ bits ≤ 32) ∧ keyB key = false) := by
    cases hk : keyB key
    · simp only [and_true]; omega
    · have : ¬ ((0 ≤ seed ∧ seed ≤ 4294967295) ∧ (0 ≤ bits ∧ bits ≤ 32)) := by
        rintro ⟨h1, h2⟩
        simp [goodB, seedB, bitsB, hk, h1, h2] at hg
      omega
  clear hg
  rcases hx with h1 | ⟨h1, h2⟩ | ⟨⟨h1, h2⟩, h3⟩ | ⟨⟨h1, h2⟩, h3, h4⟩ | ⟨⟨h1, h2⟩, ⟨h3, h4⟩, h5⟩
  all_goals
    go_enter Tryz.func113, Tryz.ntmps113
    go_wp2_with (first | (go_at_call 161; refine (key_any _ _).mono ?_; rintro e w' ⟨rfl, rfl⟩))
    go_ret2
    exact ⟨rfl, Below.refl _ _⟩

def numR (seed bits : Int) (key : ByteArray) : Int := if goodB seed bits key = true then numberI seed bits key.data.toList else 0
def numE (seed bits : Int) (key : ByteArray) : Int := if goodB seed bits key = true then 0 else 1
theorem number_any (seed bits : Int) (key : ByteArray) (w : World) :
    Calls Tryz.prog 112 #[.int .i64 seed, .int .i64 bits, .string key] w fun e w' => e = .returned (.tuple #[.int .i64 (numR seed bits key), .int .i64 (numE seed bits key)]) ∧ Below w.heap.size w w' := by
  unfold numR numE
  cases hg : goodB seed bits key
  · exact number_no seed bits key w hg
  · exact number_yes seed bits key w hg
theorem refNumber_any (seed bits : Int) (key : ByteArray) (w : World) :
    Calls Tryz.prog 113 #[.int .i64 seed, .int .i64 bits, .string key] w fun e w' => e = .returned (.tuple #[.int .i64 (numR seed bits key), .int .i64 (numE seed bits key)]) ∧ Below w.heap.size w w' := by
  unfold numR numE
  cases hg : goodB seed bits key
  · exact refNumber_no seed bits key w hg
  · exact refNumber_yes seed bits key w hg

end Go.Proofs.YtdhgebdbiehchaaGreatDoor
namespace Go.Proofs.YtdhgebdbiehchaaGreatDoor
open Go.RowKit
set_option linter.unusedSimpArgs false
set_option linter.unusedVariables false

theorem ofInt_64 (a : Nat) (h : a < 9223372036854775808) : (BitVec.ofInt 64 (a : Int)).toNat = a := by
  rw [BitVec.toNat_ofInt]; omega
theorem i64_xor_nat (a b : Nat) (ha : a < 9223372036854775808) (hb : b < 9223372036854775808) : bits .xor .i64 (a : Int) (b : Int) = ((a ^^^ b : Nat) : Int) := by
  have hx : a ^^^ b < 2 ^ 63 := Nat.xor_lt_two_pow (by omega) (by omega)
  show IntKind.i64.wrap ((BitVec.ofInt 64 (a : Int) ^^^ BitVec.ofInt 64 (b : Int)).toNat : Int) = _
  rw [BitVec.toNat_xor, ofInt_64 a ha, ofInt_64 b hb, IntKind.wrap_i64]
  omega

theorem w64b (b : UInt8) : wrap64 (b.toNat : Int) = b.toNat := by
  have := b.toNat_lt
  simp only [wrap64]; omega

def crcBit (c : Nat) : Nat := if c % 2 = 1 then (c / 2) ^^^ 3988292384 else c / 2
def crcBits : Nat → Nat → Nat
  | 0, c => c
  | n + 1, c => crcBit (crcBits n c)
def crcByte (c : Nat) (b : UInt8) : Nat := crcBits 8 (c ^^^ b.toNat)
def crcRun (l : List UInt8) : Nat := l.foldl crcByte 4294967295
def crcN (l : List UInt8) : Nat := crcRun l ^^^ 4294967295

theorem crcBit_lt {c : Nat} (h : c < 4294967296) : crcBit c < 4294967296 := by
  unfold crcBit
  split
  · exact Nat.xor_lt_two_pow (n := 32) (by omega) (by omega)
  · omega
theorem crcBits_lt {n c : Nat} (h : c < 4294967296) : crcBits n c < 4294967296 := by
  induction n with
  | zero => exact h
  | succ n ih => exact crcBit_lt ih
theorem crcByte_lt {c : Nat} (b : UInt8) (h : c < 4294967296) : crcByte c b < 4294967296 := by
  have := b.toNat_lt
  exact crcBits_lt (Nat.xor_lt_two_pow (n := 32) (by omega) (by omega))
theorem crcRun_snoc (l : List UInt8) (c : UInt8) : crcRun (l ++ [c]) = crcByte (crcRun l) c := by simp [crcRun]
theorem foldl_crc_lt (l : List UInt8) (c : Nat) (h : c < 4294967296) : l.foldl crcByte c < 4294967296 := by
  induction l generalizing c with
  | nil => exact h
  | cons b l ih => exact ih _ (crcByte_lt b h)
theorem crcRun_lt (l : List UInt8) : crcRun l < 4294967296 := foldl_crc_lt l _ (by omega)
theorem crcN_lt (l : List UInt8) : crcN l < 4294967296 := Nat.xor_lt_two_pow (n := 32) (crcRun_lt l) (by omega)
theorem crcRun_snocS (s : ByteArray) (k : Nat) (h : k < s.size) : crcRun (s.data.toList.take (k + 1)) = crcByte (crcRun (s.data.toList.take k)) s[k] := by
  rw [take_snocS s k h, crcRun_snoc]

set_option maxRecDepth 100000 in
set_option maxHeartbeats 800000 in
theorem crc_any (s : ByteArray) (w : World) (hs : s.size ≤ 9223372036854775807) :
    Calls Tryz.prog 160 #[.string s] w fun e w' => e = .returned (.int .i64 (crcN s.data.toList : Nat)) ∧ w' = w := by
  go_enter Tryz.func160, Tryz.ntmps160
  go_wp2
  go_loop [3, 4] (fun c i => ∃ (k : Nat), k ≤ s.size ∧ i = .int .i64 k ∧ c = .int .i64 (crcRun (s.data.toList.take k) : Nat)) (fun _ i => s.size - (intOf i).toNat)
  case atStart => exact ⟨0, Nat.zero_le _, rfl, rfl⟩
  case round =>
    obtain ⟨k, hk, rfl, rfl⟩ := hrel
    have hr := crcRun_lt (s.data.toList.take k)
    by_cases hlt : k < s.size
    · have HS : Hid (crcRun (s.data.toList.take (k + 1)) = crcByte (crcRun (s.data.toList.take k)) s[k]) := crcRun_snocS s k hlt
      have hx := i64_xor_nat (crcRun (s.data.toList.take k)) s[k].toNat (by omega) (by have := s[k].toNat_lt; omega)
      have HB : Hid ((crcRun (s.data.toList.take k)) ^^^ s[k].toNat < 4294967296) := Nat.xor_lt_two_pow (n := 32) (by omega) (by have := s[k].toNat_lt; omega)
      have HD : Hid (crcByte (crcRun (s.data.toList.take k)) s[k] = crcBits 8 (crcRun (s.data.toList.take k) ^^^ s[k].toNat)) := rfl
      generalize crcRun (s.data.toList.take k) = x at *
      go_wp2
      generalize x ^^^ s[k].toNat = y at *
      go_loop [3, 5, 6] (fun c i _ => ∃ (j : Nat), j ≤ 8 ∧ i = .int .i64 j ∧ c = .int .i64 (crcBits j y : Nat)) (fun _ i _ => 8 - (intOf i).toNat)
      case atStart => exact ⟨0, by omega, rfl, by rw [w64b, hx]; rfl⟩
      case round =>
        obtain ⟨j, hj, rfl, rfl⟩ := hrel
        have hlt2 : crcBits j y < 4294967296 := crcBits_lt HB.out
        have HC : Hid (crcBits (j + 1) y = crcBit (crcBits j y)) := rfl
        by_cases hj8 : j < 8
        · have hxx := i64_xor_nat (crcBits j y / 2) 3988292384 (by omega) (by omega)
          generalize crcBits j y = z at *
          by_cases hodd : z % 2 = 1
          · have hb : ((z : Int) % 2 == 1) = true := by simp; omega
            go_wp2
            go_round
            case rel => exact ⟨j + 1, by omega, by go_num, by rw [HC.out, crcBit, if_pos hodd, ← hxx]; simp⟩
            case measure => simp [intOf]; omega
          · have hb : ((z : Int) % 2 == 1) = false := by simp; omega
            go_wp2
            go_round
            case rel => exact ⟨j + 1, by omega, by go_num, by rw [HC.out, crcBit, if_neg hodd]; simp⟩
            case measure => simp [intOf]; omega
        · have hj9 : j = 8 := by omega
          subst hj9
          go_wp2
          go_round
          case rel => exact ⟨k + 1, by omega, by go_num, by rw [HS.out, HD.out]⟩
          case measure => simp [intOf]; omega
    · have HS : Hid (crcRun (s.data.toList.take k) = crcRun s.data.toList) := by
        show _ = _
        rw [List.take_of_length_le (by simp; omega)]
      have hx := i64_xor_nat (crcRun (s.data.toList.take k)) 4294967295 (by omega) (by omega)
      generalize crcRun (s.data.toList.take k) = x at *
      go_wp2
      go_ret
      exact ⟨ret_int (by rw [crcN, ← HS.out, ← hx]; rfl), rfl⟩
end Go.Proofs.YtdhgebdbiehchaaGreatDoor
namespace Go.Proofs.YtdhgebdbiehchaaGreatDoor
open Go.RowKit
set_option linter.unusedSimpArgs false
set_option linter.unusedVariables false

/-- Bytes with their check behind. -/
def sealL (l : List UInt8) : List UInt8 := l ++ lowL (crcN l) 4
theorem sealL_length (l : List UInt8) : (sealL l).length = l.length + 4 := by simp [sealL, lowL_length]
theorem append_S' (s : ByteArray) (l : List UInt8) : s ++ S l = S (s.data.toList ++ l) := by
  conv => lhs; rw [← S_of s]
  rw [S_append]

set_option maxHeartbeats 400000 in
theorem sealed_any (s : ByteArray) (w : World) (hs : s.size ≤ 9223372036854775000) :
    Calls Tryz.prog 109 #[.string s] w fun e w' => e = .returned (.string (S (sealL s.data.toList))) ∧ Below w.heap.size w w' := by
  have hl := crcN_lt s.data.toList
  go_enter Tryz.func109, Tryz.ntmps109
  go_wp2_with fail
  refine (crc_any _ _ (by omega)).mono ?_
  rintro e w1 ⟨rfl, rfl⟩
  go_wp2_with fail
  refine (low_any _ 4 _ (by omega) (by omega) (by omega)).mono ?_
  rintro e w2 ⟨rfl, hb⟩
  rw [Int.toNat_natCast]
  have hsz : (S (lowL (crcN s.data.toList) 4)).size = 4 := by rw [S_size, lowL_length]
  go_wp2
  go_ret
  exact ⟨ret_str (by rw [append_S']; rfl), hb⟩

theorem keep3 {n : Nat} {w wx w' : World} {a b c : Option Value} (h : (wx.cell? ⟨n, 0, none⟩ = a ∧ wx.cell? ⟨n, 1, none⟩ = b ∧ wx.cell? ⟨n, 2, none⟩ = c) ∧ Below n w wx ∧ n < wx.heap.size) (hb : Below wx.heap.size wx w') :
    (w'.cell? ⟨n, 0, none⟩ = a ∧ w'.cell? ⟨n, 1, none⟩ = b ∧ w'.cell? ⟨n, 2, none⟩ = c) ∧ Below n w w' ∧ n < w'.heap.size := by
  obtain ⟨⟨h0, h1, h2⟩, h3, h4⟩ := h
  exact ⟨⟨(hb.cell (p := ⟨n, 0, none⟩) h4).trans h0, (hb.cell (p := ⟨n, 1, none⟩) h4).trans h1, (hb.cell (p := ⟨n, 2, none⟩) h4).trans h2⟩, h3.trans (hb.mono (Nat.le_of_lt h4)), Nat.lt_of_lt_of_le h4 hb.size⟩
theorem keep2 {n i j : Nat} {w wx w' : World} {b c : Option Value} (h : (wx.cell? ⟨n, i, none⟩ = b ∧ wx.cell? ⟨n, j, none⟩ = c) ∧ Below n w wx ∧ n < wx.heap.size) (hb : Below wx.heap.size wx w') :
    (w'.cell? ⟨n, i, none⟩ = b ∧ w'.cell? ⟨n, j, none⟩ = c) ∧ Below n w w' ∧ n < w'.heap.size := by
  obtain ⟨⟨h1, h2⟩, h3, h4⟩ := h
  exact ⟨⟨(hb.cell (p := ⟨n, i, none⟩) h4).trans h1, (hb.cell (p := ⟨n, j, none⟩) h4).trans h2⟩, h3.trans (hb.mono (Nat.le_of_lt h4)), Nat.lt_of_lt_of_le h4 hb.size⟩
theorem low_sz (n k : Nat) : (S (lowL n k)).size = k := by rw [S_size, lowL_length]

set_option maxHeartbeats 1600000 in
theorem head_any (blk seed bits : Int) (w : World) (h0 : 0 ≤ blk) (h1 : blk ≤ 9223372036854775807) (h2 : 0 ≤ seed) (h3 : seed ≤ 9223372036854775807) (h4 : 0 ≤ bits) (h5 : bits ≤ 9223372036854775807) :
    Calls Tryz.prog 61 #[.agg #[.int .i64 blk, .int .i64 seed, .int .i64 bits]] w fun e w' => e = .returned (.string (S (sealL ([76, 71] ++ lowL blk.toNat 2 ++ lowL seed.toNat 4 ++ lowL bits.toNat 2)))) ∧ Below w.heap.size w w' := by
  go_enter Tryz.func61, Tryz.ntmps61
  have z1 := low_sz blk.toNat 2
  have z2 := low_sz seed.toNat 4
  have z3 := low_sz bits.toNat 2
  go_wp2_with fail
  go_region_held3 (fun w' => (w'.cell? ⟨w.heap.size, 0, none⟩ = some (.int .i64 blk) ∧ w'.cell? ⟨w.heap.size, 1, none⟩ = some (.int .i64 seed) ∧ w'.cell? ⟨w.heap.size, 2, none⟩ = some (.int .i64 bits)) ∧ Below w.heap.size w w' ∧ w.heap.size < w'.heap.size) (first | (exact ⟨⟨by simp, by simp, by simp⟩, ((Below.refl _ _).alloc (Nat.le_refl _) _).drew, by simp⟩) | (exact keep3 (by assumption) (by assumption))) (first | (go_at_call_of 110 (Value.int .i64 blk); refine (low_any _ 2 _ h0 h1 (by omega)).mono ?_; rintro e w' ⟨rfl, hb1⟩) | (go_at_call_of 110 (Value.int .i64 seed); refine (low_any _ 4 _ h2 h3 (by omega)).mono ?_; rintro e w' ⟨rfl, hb2⟩) | (go_at_call_of 110 (Value.int .i64 bits); refine (low_any _ 2 _ h4 h5 (by omega)).mono ?_; rintro e w' ⟨rfl, hb3⟩) | (go_at_call 109; refine (sealed_any _ _ ?_).mono ?_; (simp [z1, z2, z3]; decide); rintro e w' ⟨rfl, hb4⟩))
  go_wp2
  go_ret
  refine ⟨ret_str ?_, ?_⟩
  · congr 2
  · have hx := ‹(_ ∧ _) ∧ Below _ _ _ ∧ _›
    exact hx.2.1
/-- The bytes of an entry. -/
def entryL (put : Bool) (key val : List UInt8) : List UInt8 := (if put then [112] else [100]) ++ lowL key.length 1 ++ lowL val.length 1 ++ key ++ val

set_option maxHeartbeats 1600000 in
theorem bytes_any (put : Bool) (key val : ByteArray) (w : World) (h0 : key.size ≤ 140737488351232) (h1 : val.size ≤ 140737488351232) :
    Calls Tryz.prog 111 #[.agg #[.bool put, .string key, .string val]] w fun e w' => e = .returned (.string (S (entryL put key.data.toList val.data.toList))) ∧ Below w.heap.size w w' := by
  have z1 := low_sz key.size 1
  have z2 := low_sz val.size 1
  have z3 : (⟨#[100]⟩ : ByteArray).size = 1 := rfl
  have z4 : (⟨#[112]⟩ : ByteArray).size = 1 := rfl
  have q1 : ¬ 9223372036854775807 < 3 + key.size := by omega
  have q2 : ¬ 9223372036854775807 < 3 + key.size + val.size := by omega
  have q3 : 3 + key.size ≤ 9223372036854775807 := by omega
  have q4 : 3 + key.size + val.size ≤ 9223372036854775807 := by omega
  cases put
  all_goals
    go_enter Tryz.func111, Tryz.ntmps111
    go_wp2_with fail
    go_region_held3 (fun w' => (w'.cell? ⟨w.heap.size, 1, none⟩ = some (.string key) ∧ w'.cell? ⟨w.heap.size, 2, none⟩ = some (.string val)) ∧ Below w.heap.size w w' ∧ w.heap.size < w'.heap.size) (first | (exact ⟨⟨by simp, by simp⟩, ((Below.refl _ _).alloc (Nat.le_refl _) _).drew, by simp⟩) | (exact keep2 (by assumption) (by assumption))) (first | (go_at_call_of 110 (Value.int .i64 (key.size : Int)); refine (low_any _ 1 _ (by omega) (by omega) (by omega)).mono ?_; rintro e w' ⟨rfl, hb1⟩) | (go_at_call_of 110 (Value.int .i64 (val.size : Int)); refine (low_any _ 1 _ (by omega) (by omega) (by omega)).mono ?_; rintro e w' ⟨rfl, hb2⟩))
    have hx := ‹(_ ∧ _) ∧ Below _ _ _ ∧ _›
    go_wp2
    go_ret
    refine ⟨ret_str ?_, hx.2.1⟩
    first
      | rw [show (⟨#[100]⟩ : ByteArray) = S [100] from rfl, S_append, S_append, append_S, append_S]; rfl
      | rw [show (⟨#[112]⟩ : ByteArray) = S [112] from rfl, S_append, S_append, append_S, append_S]; rfl
/-- The bytes of entries, one behind the other; of a block of them. -/
def entsL (es : List (Bool × ByteArray × ByteArray)) : List UInt8 := (es.map fun e => entryL e.1 e.2.1.data.toList e.2.2.data.toList).flatten
def blockL (es : List (Bool × ByteArray × ByteArray)) : List UInt8 := sealL (lowL es.length 1 ++ lowL (entsL es).length 2 ++ entsL es)
theorem entsL_snoc (es : List (Bool × ByteArray × ByteArray)) (e : Bool × ByteArray × ByteArray) : entsL (es ++ [e]) = entsL es ++ entryL e.1 e.2.1.data.toList e.2.2.data.toList := by simp [entsL]
theorem entsL_take {es : List (Bool × ByteArray × ByteArray)} {k : Nat} (h : k < es.length) : entsL (es.take (k + 1)) = entsL (es.take k) ++ entryL es[k].1 es[k].2.1.data.toList es[k].2.2.data.toList := by
  rw [List.take_succ_eq_append_getElem h, entsL_snoc]
theorem entryL_length (put : Bool) (k v : List UInt8) : (entryL put k v).length = 3 + k.length + v.length := by
  cases put <;> simp [entryL, lowL_length] <;> omega
theorem entsL_le {es : List (Bool × ByteArray × ByteArray)} (hs : ∀ e ∈ es, e.2.1.size ≤ 100 ∧ e.2.2.size ≤ 100) (k : Nat) : (entsL (es.take k)).length ≤ 203 * k := by
  induction k with
  | zero => simp [entsL]
  | succ k ih =>
    by_cases h : k < es.length
    · rw [entsL_take h, List.length_append, entryL_length]
      have := hs es[k] (List.getElem_mem h)
      simp at *; omega
    · rw [List.take_of_length_le (by omega)] at ih ⊢
      omega

set_option maxHeartbeats 1600000 in
theorem block_any (b cap : Nat) (es : List (Bool × ByteArray × ByteArray)) (w : World) (hbw : b < w.heap.size)
    (hc : ∀ (i : Nat) (h : i < es.length), w.cell? ⟨b, i * 3, none⟩ = some (.bool es[i].1) ∧ w.cell? ⟨b, i * 3 + 1, none⟩ = some (.string es[i].2.1) ∧ w.cell? ⟨b, i * 3 + 2, none⟩ = some (.string es[i].2.2))
    (hl : es.length ≤ 1000) (hs : ∀ e ∈ es, e.2.1.size ≤ 100 ∧ e.2.2.size ≤ 100) :
    Calls Tryz.prog 62 #[.slice (some ⟨b, 0, none⟩) es.length cap] w fun e w' => e = .returned (.string (S (blockL es))) ∧ Below w.heap.size w w' := by
  go_enter Tryz.func62, Tryz.ntmps62
  go_wp2
  go_loopw [3, 4] (fun s i wr => ∃ (k : Nat), k ≤ es.length ∧ i = .int .i64 k ∧ s = .string (S (entsL (es.take k))) ∧ Below w.heap.size w wr) (fun _ i _ => es.length - (intOf i).toNat)
  case atStart => exact ⟨0, Nat.zero_le _, rfl, rfl, Below.refl _ _⟩
  case round =>
    obtain ⟨k, hk, rfl, rfl, hb⟩ := hrel
    have hle := entsL_le hs k
    have hsz : (S (entsL (es.take k))).size = (entsL (es.take k)).length := S_size _
    by_cases hlt : k < es.length
    · obtain ⟨c0, c1, c2⟩ := hc k hlt
      have d0 := (hb.cell (p := ⟨b, k * 3, none⟩) hbw).trans c0
      have d1 := (hb.cell (p := ⟨b, k * 3 + 1, none⟩) hbw).trans c1
      have d2 := (hb.cell (p := ⟨b, k * 3 + 2, none⟩) hbw).trans c2
      have hsk := hs es[k] (List.getElem_mem hlt)
      have HN : Hid (entsL (es.take (k + 1)) = entsL (es.take k) ++ entryL es[k].1 es[k].2.1.data.toList es[k].2.2.data.toList) := entsL_take hlt
      clear c0 c1 c2 hc
      generalize es[k] = e at *
      obtain ⟨put, key, val⟩ := e
      dsimp only at *
      have hel := entryL_length put key.data.toList val.data.toList
      have hes : (S (entryL put key.data.toList val.data.toList)).size = (entryL put key.data.toList val.data.toList).length := S_size _
      go_wp2_with fail
      refine (bytes_any put key val _ (by omega) (by omega)).mono ?_
      rintro e w1 ⟨rfl, hb1⟩
      have hkl : key.data.toList.length = key.size := by simp
      have hvl : val.data.toList.length = val.size := by simp
      have q1 : ¬ 9223372036854775807 < (entsL (es.take k)).length + (entryL put key.data.toList val.data.toList).length := by omega
      clear hel hle hkl hvl
      go_wp2
      go_roundw
      case rel => exact ⟨k + 1, by omega, by go_num, by rw [HN.out, S_append], hb.trans (hb1.mono hb.size)⟩
      case measure => simp [intOf]; omega
    · have HN : Hid (entsL (es.take k) = entsL es) := by
        show _ = _
        rw [List.take_of_length_le (by omega)]
      have HB : Hid (blockL es = sealL (lowL es.length 1 ++ lowL (entsL (es.take k)).length 2 ++ entsL (es.take k))) := by
        show _ = _
        rw [HN.out]; rfl
      clear HN hc
      generalize entsL (es.take k) = t at *
      have z1 := low_sz es.length 1
      have z2 := low_sz t.length 2
      have q1 : ¬ 9223372036854775807 < 3 + t.length := by omega
      go_wp2_with fail
      refine (low_any (es.length : Int) 1 _ (by omega) (by omega) (by omega)).mono ?_
      rintro e w1 ⟨rfl, hb1⟩
      rw [Int.toNat_natCast]
      go_wp2_with fail
      refine (low_any (t.length : Int) 2 _ (by omega) (by omega) (by omega)).mono ?_
      rintro e w2 ⟨rfl, hb2⟩
      rw [Int.toNat_natCast]
      go_wp2_with fail
      refine (sealed_any _ _ ?_).mono ?_
      · simp [z1, z2, hsz]; omega
      rintro e w3 ⟨rfl, hb3⟩
      go_wp2
      go_ret
      refine ⟨ret_str ?_, hb.trans ((hb1.mono hb.size).trans ((hb2.mono (Nat.le_trans hb.size hb1.size)).trans (hb3.mono (Nat.le_trans hb.size (Nat.le_trans hb1.size hb2.size)))))⟩
      rw [HB.out, S_data, S_data, S_data, List.append_assoc]
end Go.Proofs.YtdhgebdbiehchaaGreatDoor
