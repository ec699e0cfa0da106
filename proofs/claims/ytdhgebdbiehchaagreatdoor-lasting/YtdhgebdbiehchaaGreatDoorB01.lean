/- On the way: Math. -/
import Derived.WalkKit
namespace Go.Proofs.YtdhgebdbiehchaaGreatDoor
open Go.RowKit
def S (l : List UInt8) : ByteArray := ⟨l.toArray⟩
theorem S_data (l : List UInt8) : (S l).data.toList = l := by simp [S]
theorem S_size (l : List UInt8) : (S l).size = l.length := by simp [S,ByteArray.size]
theorem S_of (s : ByteArray) : S s.data.toList = s := by cases s; simp [S]
theorem S_append (l m : List UInt8) : S l ++ S m = S (l ++ m) := by
 apply ByteArray.ext; simp [S]
def lowL (n : Nat) : Nat -> List UInt8
 | 0 => []
 | k + 1 => UInt8.ofNat (n % 256) :: lowL (n / 256) k
theorem lowL_length (n k : Nat) : (lowL n k).length = k := by
 induction k generalizing n with
 | zero => rfl
 | succ k ih => simp [lowL,ih]
theorem lowL_snoc (n k : Nat) : lowL n (k + 1) = lowL n k ++ [UInt8.ofNat (n / 256 ^ k % 256)] := by
 induction k generalizing n with
 | zero => simp [lowL]
 | succ k ih =>
  show UInt8.ofNat (n % 256) :: lowL (n / 256) (k + 1) = _
  rw [ih (n / 256)]
  show _ = (UInt8.ofNat (n % 256) :: lowL (n / 256) k) ++ _
  rw [List.cons_append,Nat.div_div_eq_div_mul,Nat.pow_succ,Nat.mul_comm]
def cellsB (l : List UInt8) : List Value := l.map fun b => Value.int .u8 (b.toNat : Int)
theorem cellsB_length (l : List UInt8) : (cellsB l).length = l.length := by simp [cellsB]
theorem cellsB_append (l m : List UInt8) : cellsB (l ++ m) = cellsB l ++ cellsB m := by simp [cellsB]
theorem bytes_back (l : List UInt8) : (l.map fun b => (b.toNat : Int)).map (fun n => UInt8.ofNat n.toNat) = l := by
 rw [List.map_map]
 conv => rhs; rw [<- List.map_id l]
 apply List.map_congr_left
 intro b _
 simp
theorem cells_snoc {n : Int} (hn : 0 <= n) (l : List UInt8) (j : Nat) :
  cellsB (l ++ lowL n.toNat j) ++ [Value.int .u8 (IntKind.u8.wrap (n / 2 ^ (8 * (j : Int)).toNat))] = cellsB (l ++ lowL n.toNat (j + 1)) := by
 rw [lowL_snoc,<- List.append_assoc,cellsB_append _ [_]]
 congr 1
 have e1 : (8 * (j : Int)).toNat = 8 * j := by omega
 have e2 : (2 : Int) ^ (8 * j) = ((256 ^ j : Nat) : Int) := by
  rw [Int.pow_mul]; simp
 have e3 : n / ((256 ^ j : Nat) : Int) = ((n.toNat / 256 ^ j : Nat) : Int) := by
  conv => lhs; rw [<- Int.toNat_of_nonneg hn]
  rw [Int.natCast_ediv]
 have e4 : IntKind.u8.wrap (n / 2 ^ (8 * (j : Int)).toNat) = (((n.toNat / 256 ^ j) % 256 : Nat) : Int) := by
  rw [e1,e2,e3]
  simp [IntKind.wrap,IntKind.signed,IntKind.bits]
 simp only [cellsB,List.map_cons,List.map_nil,e4,UInt8.toNat_ofNat']
 congr 3
 omega
theorem own_ge {w : World} {base e size n : Nat} {v : Value} {xs : List Value} (h : w.ownsRow base e size v n xs) : ∀ k,v.ownBlock = some k -> base <= k := by
 intro k hk
 rcases h.2 with ⟨rfl,_⟩ | ⟨g,cap,cur,rfl,hb,_⟩
 ·simp [Value.ownBlock] at hk
 ·simp [Value.ownBlock] at hk; omega
theorem own_shape {w : World} {base e n : Nat} {v : Value} {xs : List Value} (h : w.ownsRow base e 1 v n xs) (hn : 0 < n) : ∃ g cap,v = .slice (some ⟨g,0,none⟩) n cap /\ base <= g /\ g < w.heap.size /\ ∀ j,j < n -> w.cell? ⟨g,j,none⟩ = xs[j]? := by
 obtain ⟨h1,h2⟩ := h
 rcases h2 with ⟨_,h0⟩ | ⟨g,cap,cur,rfl,hb,hg,hc,hm,hsz,ht⟩
 ·omega
 ·refine ⟨g,cap,rfl,hb,?_,fun j hj => World.ownsRow.cellAt (w := w) ⟨h1,.inr ⟨g,cap,cur,rfl,hb,hg,hc,hm,hsz,ht⟩⟩ j (by omega)⟩
  rcases Nat.lt_or_ge g w.heap.size with h | h
  ·exact h
  ·rw [Array.getElem?_eq_none h] at hg; cases hg
theorem past_drew (w : World) (o : Obj) {n i : Nat} (h : n < w.heap.size) : ((w.alloc o).drew).cell? ⟨n,i,none⟩ = w.cell? ⟨n,i,none⟩ := by
 show (w.alloc o).cell? ⟨n,i,none⟩ = _
 simp [World.cell?_alloc_past,h]
def fnvStep (h : Int) (c : UInt8) : Int := IntKind.u64.wrap (bits BinOp.xor IntKind.u64 h (IntKind.u64.wrap (c.toNat : Int)) * 1099511628211)
def fnv (h : Int) (l : List UInt8) : Int := l.foldl fnvStep h
def F0 : Int := 14695981039346656037
theorem F0_range (l : List UInt8) : 0 <= fnv F0 l /\ fnv F0 l <= 18446744073709551615 := by
 rcases List.eq_nil_or_concat l with rfl | ⟨l',c,rfl⟩
 ·exact ⟨by decide,by decide⟩
 ·rw [List.concat_eq_append]
  have : fnv F0 (l' ++ [c]) = fnvStep (fnv F0 l') c := by simp [fnv]
  rw [this]; unfold fnvStep
  generalize bits BinOp.xor IntKind.u64 (fnv F0 l') (IntKind.u64.wrap (c.toNat : Int)) * 1099511628211 = x
  have : IntKind.u64.wrap x = x % 18446744073709551616 := by simp [IntKind.wrap,IntKind.signed,IntKind.bits]
  rw [this]; omega
theorem fnv_snoc (h : Int) (l : List UInt8) (c : UInt8) : fnv h (l ++ [c]) = fnvStep (fnv h l) c := by simp [fnv]
theorem take_snocS (s : ByteArray) (k : Nat) (h : k < s.size) : s.data.toList.take (k + 1) = s.data.toList.take k ++ [s[k]] := by
 rw [List.take_succ_eq_append_getElem (by simpa using h)]; rfl
def numberI (seed bits : Int) (key : List UInt8) : Int := fnv F0 (lowL seed.toNat 4 ++ key) % 2 ^ bits.toNat
theorem number_mask {H : Int} {bt : Nat} (h0 : 0 <= H) (h1 : H <= 18446744073709551615) (hb : bt <= 32) :
  IntKind.i64.wrap (bits BinOp.and IntKind.u64 H (IntKind.u64.wrap (IntKind.u64.wrap (2 ^ bt) - 1))) = H % 2 ^ bt := by
 have hp : (1 : Int) <= 2 ^ bt /\ (2 : Int) ^ bt <= 4294967296 := by
  have h1 : (1 : Nat) <= 2 ^ bt := Nat.one_le_two_pow
  have h2 : (2 : Nat) ^ bt <= 2 ^ 32 := Nat.pow_le_pow_right (by omega) hb
  have h3 : ((2 ^ bt : Nat) : Int) = 2 ^ bt := by simp
  omega
 have w1 : ∀ x : Int,0 <= x -> x < 2 ^ 64 -> IntKind.u64.wrap x = x := by
  intro x h0 h1
  rw [IntKind.wrap_u64]; omega
 rw [w1 (2 ^ bt) (by omega) (by omega),w1 (2 ^ bt - 1) (by omega) (by omega),bits_mask .u64 64 (by decide) w1 bt (by omega) H h0 (by omega)]
 have h2 := Int.emod_nonneg H (show (2 : Int) ^ bt ≠ 0 by omega)
 have h3 := Int.emod_lt_of_pos H (show (0 : Int) < 2 ^ bt by omega)
 rw [IntKind.wrap_i64]; omega
end Go.Proofs.YtdhgebdbiehchaaGreatDoor
