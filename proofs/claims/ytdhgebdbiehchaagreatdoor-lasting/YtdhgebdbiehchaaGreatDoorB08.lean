/- On the way: RefEnts, RefBlock, RefBegins, Sums, Law, Given, Plays, Tab, Look, Found, Wrote, Dk, Begun, DkOk. -/
import Derived.Test.YtdhgebdbiehchaaGreatDoorB07
import Derived.Deep.DeepMust
import Derived.Test.YtdhgebdbiehchaaGreatDoorB06
import Derived.Laws.BitsAllLaws
import Derived.Test.YtdhgebdbiehchaaGreatDoorB03
import Derived.Test.YtdhgebdbiehchaaGreatDoorB05
namespace Go.Proofs.YtdhgebdbiehchaaGreatDoor
open Go.RowKit
set_option linter.unusedSimpArgs false
set_option linter.unusedVariables false
set_option maxRecDepth 100000
set_option maxHeartbeats 1600000
theorem own_below {w w' : World} {base e size n m : Nat} {v : Value} {xs : List Value} (h : w.ownsRow base e size v n xs) (hb : Below m w w') (hm : w.heap.size <= m) : w'.ownsRow base e size v n xs := by
 obtain ⟨h1,h2⟩ := h
 refine ⟨h1,?_⟩
 rcases h2 with h2 | ⟨g,cap,cur,hv,hg,hh,r⟩
 ·exact .inl h2
 ·have hl : g < w.heap.size := (Array.getElem?_eq_some_iff.1 hh).1
  exact .inr ⟨g,cap,cur,hv,hg,(hb.block g (by omega)).trans hh,r⟩
theorem cells_three_new (w : World) (t : TypeId) (a b c : Value) : ∀ j u,[a,b,c][j]? = some u -> (w.alloc (.cells #[a,b,c] t)).cell? ((⟨w.heap.size,0,none⟩ : Addr).add j) = some u := by
 intro j u hj
 match j,hj with
 | 0,hj => simp at hj; subst hj; simp [Addr.add]
 | 1,hj => simp at hj; subst hj; simp [Addr.add]
 | 2,hj => simp at hj; subst hj; simp [Addr.add]
theorem own_len {w : World} {base e size n : Nat} {v : Value} {xs : List Value} (h : w.ownsRow base e size v n xs) : ∃ p c,v = .slice p n c := by
 rcases h.2 with ⟨rfl,rfl⟩ | ⟨g,cap,cur,rfl,_⟩
 ·exact ⟨none,0,rfl⟩
 ·exact ⟨_,_,rfl⟩
theorem own_lower {w : World} {base base' e size n : Nat} {v : Value} {xs : List Value} (h : w.ownsRow base e size v n xs) (hb : base' <= base) : w.ownsRow base' e size v n xs := by
 obtain ⟨h1,h2⟩ := h
 refine ⟨h1,?_⟩
 rcases h2 with h2 | ⟨g,cap,cur,hv,hg,r⟩
 ·exact .inl h2
 ·exact .inr ⟨g,cap,cur,hv,Nat.le_trans hb hg,r⟩
def ixN (l : List UInt8) : Nat := highL ((l.drop 4).take 2)
def ixFar (l : List UInt8) : Nat := highL ((l.drop 6).take 2)
def ixSize (l : List UInt8) : Nat := highL ((l.drop 8).take 4)
def ixSum (l : List UInt8) : Nat := highL ((l.drop 12).take 4)
def sumI (l : List UInt8) : Int := fnv F0 l % 4294967296
def beginsE (log ix : List UInt8) : Int :=
 if ix.length < 20 \/ sealedB (ix.take 20) = false \/ (ix.take 2 == [73,88]) = false \/ ixN ix = 0 \/ ix.length ≠ 20 + 10 * ixN ix + 4 then 3
 else if ixSize ix ≠ log.length \/ (ixSum ix : Int) ≠ sumI log then 4
 else if headB log = false then 3
 else 0
def Two (w wx : World) : Prop :=
 ((wx.cell? ⟨w.heap.size,0,none⟩ = some (.int .i64 0) /\ wx.cell? ⟨w.heap.size,1,none⟩ = some (.int .i64 0) /\ wx.cell? ⟨w.heap.size,2,none⟩ = some (.int .i64 0)) /\
 (wx.cell? ⟨w.heap.size + 1,0,none⟩ = some (.int .i64 0) /\ wx.cell? ⟨w.heap.size + 1,1,none⟩ = some (.int .i64 0) /\ wx.cell? ⟨w.heap.size + 1,2,none⟩ = some (.int .i64 0)) /\
 (wx.frozen? ⟨w.heap.size,0,none⟩ = false /\ wx.frozen? ⟨w.heap.size,1,none⟩ = false /\ wx.frozen? ⟨w.heap.size,2,none⟩ = false)) /\ Below w.heap.size w wx /\ w.heap.size + 1 < wx.heap.size
theorem Two.below {w wx wy : World} (h : Two w wx) (hb : Below wx.heap.size wx wy) : Two w wy := by
 obtain ⟨⟨⟨a0,a1,a2⟩,⟨b0,b1,b2⟩,c0,c1,c2⟩,h1,h2⟩ := h
 have f : ∀ b i v,b < wx.heap.size -> wx.cell? ⟨b,i,none⟩ = some v -> wy.cell? ⟨b,i,none⟩ = some v := fun b i v hl hv => (hb.cell (p := ⟨b,i,none⟩) hl).trans hv
 have g : ∀ i,wx.frozen? ⟨w.heap.size,i,none⟩ = false -> wy.frozen? ⟨w.heap.size,i,none⟩ = false := fun i hv => (hb.frozen (p := ⟨w.heap.size,i,none⟩) (by show w.heap.size < _; omega)).trans hv
 exact ⟨⟨⟨f _ _ _ (by omega) a0,f _ _ _ (by omega) a1,f _ _ _ (by omega) a2⟩,⟨f _ _ _ h2 b0,f _ _ _ h2 b1,f _ _ _ h2 b2⟩,g _ c0,g _ c1,g _ c2⟩,h1.trans (hb.mono (by omega)),Nat.lt_of_lt_of_le h2 hb.size⟩
theorem highL4 (l : List UInt8) (h : l.length <= 4) : highL l < 4294967296 := by
 have := highL_lt l
 have h4 := pow256_le h
 omega
def HalvesAt (w : World) : Prop := 6 < w.heap.size /\ ∀ i,i < 16 -> w.cell? ⟨6,i,none⟩ = some (.int .u32 (halvesL.getD i 0 : Nat))
theorem HalvesAt.below {w w' : World} {n : Nat} (h : HalvesAt w) (hb : Below n w w') (hn : 6 < n) : HalvesAt w' :=
 ⟨Nat.lt_of_lt_of_le h.1 hb.size,fun i hi => (hb.cell (p := ⟨6,i,none⟩) hn).trans (h.2 i hi)⟩
theorem or_shift (x j : Nat) (b : Nat) (hx : x < 256 ^ j) : x ||| b * 2 ^ (8 * j) = x + b * 256 ^ j := by
 have e : (256 : Nat) ^ j = 2 ^ (8 * j) := by rw [Nat.pow_mul]
 rw [e] at hx ⊢
 have := Nat.two_pow_add_eq_or_of_lt hx b
 rw [Nat.or_comm,Nat.mul_comm b,<- this,Nat.add_comm]
theorem i64_or_nat (a b : Nat) (ha : a < 9223372036854775808) (hb : b < 9223372036854775808) : bits .or .i64 (a : Int) (b : Int) = ((a ||| b : Nat) : Int) := by
 have hx : a ||| b < 2 ^ 63 := Nat.or_lt_two_pow (by omega) (by omega)
 show IntKind.i64.wrap ((BitVec.ofInt 64 (a : Int) ||| BitVec.ofInt 64 (b : Int)).toNat : Int) = _
 rw [BitVec.toNat_or,ofInt_64 a ha,ofInt_64 b hb,IntKind.wrap_i64]
 omega
theorem highL_snoc (l : List UInt8) (b : UInt8) : highL (l ++ [b]) = highL l + b.toNat * 256 ^ l.length := by
 induction l with
 | nil => simp [highL]
 | cons c l ih =>
  show c.toNat + 256 * highL (l ++ [b]) = c.toNat + 256 * highL l + b.toNat * 256 ^ (l.length + 1)
  rw [ih,Nat.mul_add,Nat.pow_succ,<- Nat.add_assoc]
  congr 1
  rw [<- Nat.mul_assoc,Nat.mul_comm 256,Nat.mul_assoc,Nat.mul_comm 256]
theorem lowRead_any (s : ByteArray) (w : World) (hs : s.size <= 7) :
  Calls Tryz.prog 145 #[.string s] w fun e w' => e = .returned (.int .i64 (highL s.data.toList : Nat)) /\ w' = w := by
 have hl : s.data.toList.length = s.size := by simp
 go_enter Tryz.func145,Tryz.ntmps145
 go_wp2
 go_loop [3,7] (fun n i => ∃ (k : Nat),k <= s.size /\ i = .int .i64 k /\ n = .int .i64 (highL (s.data.toList.take k) : Nat)) (fun _ i => s.size - (intOf i).toNat)
 case atStart => exact ⟨0,Nat.zero_le _,rfl,rfl⟩
 case round =>
  obtain ⟨k,hk,rfl,rfl⟩ := hrel
  by_cases hlt : k < s.size
  ·have hlk : (s.data.toList.take k).length = k := by simp; omega
   have HS : Hid (highL (s.data.toList.take (k + 1)) = highL (s.data.toList.take k) ||| s[k].toNat * 2 ^ (8 * k)) := by
    show _ = _
    rw [take_snocS s k hlt,highL_snoc,hlk,or_shift _ _ _ (by have := highL_lt (s.data.toList.take k); rw [hlk] at this; exact this)]
   have hb : highL (s.data.toList.take k) < 281474976710656 := by
    refine Nat.lt_of_lt_of_le (highL_lt _) ?_
    have := pow256_le (show (s.data.toList.take k).length <= 6 by omega)
    omega
   have hp : 2 ^ (8 * k) <= 281474976710656 := by
    have : 2 ^ (8 * k) <= 2 ^ 48 := Nat.pow_le_pow_right (by omega) (by omega)
    omega
   have hc := s[k].toNat_lt
   have hmul : s[k].toNat * 2 ^ (8 * k) <= 255 * 281474976710656 := Nat.mul_le_mul (by omega) hp
   have ho := i64_or_nat (highL (s.data.toList.take k)) (s[k].toNat * 2 ^ (8 * k)) (by omega) (by omega)
   have hw := w64b s[k]
   have h8 : (0 : Int) <= 8 * (k : Int) := by omega
   have h9 : 8 * (k : Int) <= 64 := by omega
   generalize highL (s.data.toList.take k) = x at *
   have hm : wrap64 ((s[k].toNat : Int) * 2 ^ (8 * k)) = ((s[k].toNat * 2 ^ (8 * k) : Nat) : Int) := by
    have : ((s[k].toNat * 2 ^ (8 * k) : Nat) : Int) = (s[k].toNat : Int) * 2 ^ (8 * k) := by simp
    rw [<- this]
    simp only [wrap64]; omega
   have HM : Hid _ := hm
   have HO : Hid _ := ho
   clear hm ho hmul hp
   go_wp2
   go_round
   case rel => exact ⟨k + 1,by omega,by go_num,by rw [HM.out,HO.out,HS.out]⟩
   case measure => simp [intOf]; omega
  ·have HS : Hid (highL (s.data.toList.take k) = highL s.data.toList) := by
    show _ = _
    rw [List.take_of_length_le (by omega)]
   generalize highL (s.data.toList.take k) = x at *
   go_wp2
   go_ret
   exact ⟨ret_int (by rw [HS.out]),rfl⟩
theorem and_15 {y : Nat} (h : y < 4294967296) : bits .and .u32 (y : Int) 15 = ((y % 16 : Nat) : Int) := by
 have := u32_and_nat y 15 h (by omega)
 rw [show ((15 : Nat) : Int) = 15 from rfl] at this
 rw [this]
 congr 1
 exact Nat.and_two_pow_sub_one_eq_mod y 4
theorem nib_xor {y : Nat} (h : y < 4294967296) : bits .xor .u32 ((y : Int) / 16) (halvesL.getD (y % 16) 0 : Nat) = (nibStep y : Nat) := by
 have e : (y : Int) / 16 = ((y / 16 : Nat) : Int) := by omega
 rw [e,u32_xor_nat _ _ (by omega) (halves_lt _ (by omega))]
 rfl
theorem check_any (s : ByteArray) (w : World) (hs : s.size <= 9223372036854775807) (hH : HalvesAt w) :
  Calls Tryz.prog 186 #[.string s] w fun e w' => e = .returned (.int .u32 (crcN s.data.toList : Nat)) /\ w' = w := by
 have HH : Hid (HalvesAt w) := hH
 clear hH
 go_enter Tryz.func186,Tryz.ntmps186
 go_wp2
 go_loop [3,7] (fun c i => ∃ (k : Nat),k <= s.size /\ i = .int .i64 k /\ c = .int .u32 (crcRun (s.data.toList.take k) : Nat)) (fun _ i => s.size - (intOf i).toNat)
 case atStart => exact ⟨0,Nat.zero_le _,rfl,rfl⟩
 case round =>
  obtain ⟨k,hk,rfl,rfl⟩ := hrel
  have hr := crcRun_lt (s.data.toList.take k)
  by_cases hlt : k < s.size
  ·have HS : Hid (crcRun (s.data.toList.take (k + 1)) = nibStep (nibStep (crcRun (s.data.toList.take k) ^^^ s[k].toNat))) := by
    show _ = _
    rw [crcRun_snocS s k hlt,nib_byte]
   have hc := s[k].toNat_lt
   have hx := u32_xor_nat (crcRun (s.data.toList.take k)) s[k].toNat (by omega) (by omega)
   generalize crcRun (s.data.toList.take k) = x at *
   have hy : x ^^^ s[k].toNat < 4294967296 := Nat.xor_lt_two_pow (n := 32) (by omega) (by omega)
   generalize x ^^^ s[k].toNat = y at *
   have hz := nibStep_lt hy
   have a1 := and_15 hy
   have a2 := and_15 hz
   have b1 : (((y % 16 : Nat) : Int)) < 16 := by omega
   have b2 : (((nibStep y % 16 : Nat) : Int)) < 16 := by omega
   have c1 := HH.out.2 (y % 16) (by omega)
   have c2 := HH.out.2 (nibStep y % 16) (by omega)
   have x1 := nib_xor hy
   have x2 := nib_xor hz
   have HY : Hid (y % 16 < 16) := Nat.mod_lt _ (by omega)
   generalize halvesL.getD (y % 16) 0 = t1 at *
   generalize halvesL.getD (nibStep y % 16) 0 = t2 at *
   generalize nibStep (nibStep y) = u at *
   generalize nibStep y = z at *
   generalize hq1 : y % 16 = q1 at *
   generalize hq2 : z % 16 = q2 at *
   clear hq1 hq2
   go_wp2
   go_round
   case rel => exact ⟨k + 1,by omega,by go_num,by rw [HS.out]⟩
   case measure => simp [intOf]; omega
  ·have HS : Hid (crcRun (s.data.toList.take k) = crcRun s.data.toList) := by
    show _ = _
    rw [List.take_of_length_le (by simp; omega)]
   have hx := u32_xor_nat (crcRun (s.data.toList.take k)) 4294967295 (by omega) (by omega)
   generalize crcRun (s.data.toList.take k) = x at *
   have HX : Hid (bits BinOp.xor IntKind.u32 IntKind.u32.max (x : Int) = ((x ^^^ 4294967295 : Nat) : Int)) := by
    show _ = _
    rw [show IntKind.u32.max = ((4294967295 : Nat) : Int) from rfl,u32_xor_nat _ _ (by omega) (by omega),Nat.xor_comm]
   go_wp2
   go_ret
   exact ⟨ret_int (by rw [HX.out,crcN,<- HS.out]),rfl⟩
theorem highL_lowL (n k : Nat) (h : n < 256 ^ k) : highL (lowL n k) = n := by
 induction k generalizing n with
 | zero => simp at h; subst h; rfl
 | succ k ih =>
  show (UInt8.ofNat (n % 256)).toNat + 256 * highL (lowL (n / 256) k) = n
  rw [ih (n / 256) (by rw [Nat.pow_succ] at h; exact Nat.div_lt_of_lt_mul (by omega)),UInt8.toNat_ofNat']
  omega
theorem lowL_highL (l : List UInt8) : lowL (highL l) l.length = l := by
 induction l with
 | nil => rfl
 | cons b l ih =>
  have := b.toNat_lt
  show UInt8.ofNat ((b.toNat + 256 * highL l) % 256) :: lowL ((b.toNat + 256 * highL l) / 256) l.length = b :: l
  rw [show (b.toNat + 256 * highL l) % 256 = b.toNat by omega,show (b.toNat + 256 * highL l) / 256 = highL l by omega,ih]
  congr 1
  simp
theorem sealed_by_number {l : List UInt8} (h : 4 <= l.length) : sealedB l = decide (highL (l.drop (l.length - 4)) = crcN (l.take (l.length - 4))) := by
 have hd : (l.drop (l.length - 4)).length = 4 := by simp; omega
 rw [Bool.eq_iff_iff]
 simp only [sealedB,h,decide_true,Bool.true_and,beq_iff_eq,decide_eq_true_eq]
 constructor
 ·intro hs
  have h2 : lowL (crcN (l.take (l.length - 4))) 4 = l.drop (l.length - 4) := by
   have e : sealL (l.take (l.length - 4)) = l.take (l.length - 4) ++ l.drop (l.length - 4) := by rw [List.take_append_drop]; exact hs
   unfold sealL at e
   exact List.append_cancel_left e
  rw [<- h2,highL_lowL _ 4 (crcN_lt _)]
 ·intro hh
  unfold sealL
  rw [<- hh]
  conv => lhs; rw [show (4 : Nat) = (l.drop (l.length - 4)).length from hd.symm]
  rw [hd,show lowL (highL (l.drop (l.length - 4))) 4 = l.drop (l.length - 4) from by have := lowL_highL (l.drop (l.length - 4)); rw [hd] at this; exact this,List.take_append_drop]
theorem holds_any (s : ByteArray) (w : World) (hs : s.size <= 9223372036854775807) (hH : HalvesAt w) :
  Calls Tryz.prog 144 #[.string s] w fun e w' => e = .returned (.bool (sealedB s.data.toList)) /\ Below w.heap.size w w' := by
 have hl : s.data.toList.length = s.size := by simp
 by_cases h4 : 4 <= s.size
 ·have HR : Hid (sealedB s.data.toList = decide (highL (s.data.toList.drop (s.size - 4)) = crcN (s.data.toList.take (s.size - 4)))) := by
   show _ = _
   rw [sealed_by_number (by omega),hl]
  have HH : Hid (HalvesAt w) := hH
  clear hH
  have i1 : (4 : Int) <= (s.size : Int) := by omega
  have i2 : (0 : Int) <= (s.size : Int) - 4 := by omega
  have d1 : decide (4 <= (s.size : Int)) = true := by simp; omega
  go_enter Tryz.func144,Tryz.ntmps144
  have c1 := cut_from s (s.size - 4) (by omega) ((s.size : Int) - 4) (by omega)
  have c2 := cut_upto s (s.size - 4) (by omega) ((s.size : Int) - 4) (by omega)
  have hl1 : (s.data.toList.drop (s.size - 4)).length = 4 := by simp; omega
  have hl2 : (s.data.toList.take (s.size - 4)).length <= s.size := by simp
  have hb1 := highL4 (s.data.toList.drop (s.size - 4)) (by omega)
  have hb2 := crcN_lt (s.data.toList.take (s.size - 4))
  generalize s.data.toList.drop (s.size - 4) = l1 at *
  generalize s.data.toList.take (s.size - 4) = l2 at *
  have z1 : (S l1).size = 4 := by rw [S_size,hl1]
  have z2 : (S l2).size <= s.size := by rw [S_size]; exact hl2
  have m1 : IntKind.i64.wrap ((crcN l2 : Nat) : Int) = ((crcN l2 : Nat) : Int) := by rw [IntKind.wrap_i64]; omega
  have HHd : Hid (HalvesAt w.drew) := HH.out.below (Below.refl w.heap.size w).drew HH.out.1
  clear hl1 hl2 hl
  go_wp2_with fail
  go_region_held3 (fun w' => w.heap.size <= w'.heap.size) (first | (simp)) (first | (go_at_call 145; refine (lowRead_any _ _ (by omega)).mono ?_; rintro e w' ⟨rfl,rfl⟩; rw [S_data]) | (go_at_call 186; refine (check_any _ _ ?_ ?_).mono ?_; (omega); (exact HHd.out); rintro e w' ⟨rfl,rfl⟩; rw [S_data]))
  clear c1 c2 m1 HH HHd z1 z2 i1 i2 d1
  go_wp2
  go_ret
  refine ⟨ret_bool ?_,(Below.refl _ _).drew⟩
  rw [HR.out,Bool.eq_iff_iff]
  simp only [beq_iff_eq,decide_eq_true_eq]
  omega
 ·have HR : Hid (sealedB s.data.toList = false) := by
   show _ = _
   unfold sealedB; simp; omega
  clear hH
  have i1 : ¬ (4 : Int) <= (s.size : Int) := by omega
  have i2 : ¬ (0 : Int) <= (s.size : Int) - 4 := by omega
  have d1 : decide ((4 : Int) <= (s.size : Int)) = false := by simp; omega
  have d2 : decide ((0 : Int) <= (s.size : Int) - 4) = false := by simp; omega
  go_enter Tryz.func144,Tryz.ntmps144
  go_wp2_with fail
  go_quiet (fail)
  go_wp2
  go_ret
  exact ⟨ret_bool HR.out.symm,below_drewN (Below.refl _ _) _⟩
structure OpV where
 kind : Int
 at' : Int
 x : Int
 y : Int
 s : ByteArray
 t : ByteArray
 u : ByteArray
 c0 : Int
 c1 : Int
 c2 : Int
def OpV.cells (o : OpV) : List Value := [.int .i64 o.kind,.int .i64 o.at',.int .i64 o.x,.int .i64 o.y,.string o.s,.string o.t,.string o.u,.int .i64 o.c0,.int .i64 o.c1,.int .i64 o.c2]
def OpV.val (o : OpV) : Value := .agg #[.int .i64 o.kind,.int .i64 o.at',.int .i64 o.x,.int .i64 o.y,.string o.s,.string o.t,.string o.u,.int .i64 o.c0,.int .i64 o.c1,.int .i64 o.c2]
def WorldAt (w : World) (b : Nat) : Prop := b < w.heap.size /\ w.cell? ⟨b,0,none⟩ = some (.slice none 0 0) /\ w.cell? ⟨b,1,none⟩ = some (.slice none 0 0)
theorem WorldAt.below {w w' : World} {b : Nat} (h : WorldAt w b) (hb : Below w.heap.size w w') : WorldAt w' b :=
 ⟨Nat.lt_of_lt_of_le h.1 hb.size,(hb.cell (p := ⟨b,0,none⟩) h.1).trans h.2.1,(hb.cell (p := ⟨b,1,none⟩) h.1).trans h.2.2⟩
def Reads (o : OpV) : Prop := ∀ w : World,HalvesAt w -> Calls Tryz.prog 63 #[o.val] w fun e w' => e = .returned (.bool true) /\ Below w.heap.size w w'
theorem Reads.val {o : OpV} (h : Reads o) : Hid (∀ w : World,HalvesAt w -> Calls Tryz.prog 63 #[.agg #[.int .i64 o.kind,.int .i64 o.at',.int .i64 o.x,.int .i64 o.y,.string o.s,.string o.t,.string o.u,.int .i64 o.c0,.int .i64 o.c1,.int .i64 o.c2]] w fun e w' => e = .returned (.bool true) /\ Below w.heap.size w w') := h
def OpAt (w : World) (b off : Nat) (o : OpV) : Prop :=
 w.cell? ⟨b,off,none⟩ = some (.int .i64 o.kind) /\ w.cell? ⟨b,off + 1,none⟩ = some (.int .i64 o.at') /\ w.cell? ⟨b,off + 2,none⟩ = some (.int .i64 o.x) /\ w.cell? ⟨b,off + 3,none⟩ = some (.int .i64 o.y) /\
 w.cell? ⟨b,off + 4,none⟩ = some (.string o.s) /\ w.cell? ⟨b,off + 5,none⟩ = some (.string o.t) /\ w.cell? ⟨b,off + 6,none⟩ = some (.string o.u) /\
 w.cell? ⟨b,off + 7,none⟩ = some (.int .i64 o.c0) /\ w.cell? ⟨b,off + 8,none⟩ = some (.int .i64 o.c1) /\ w.cell? ⟨b,off + 9,none⟩ = some (.int .i64 o.c2)
theorem OpAt.below {w w' : World} {b off : Nat} {o : OpV} (h : OpAt w b off o) {n : Nat} (hb : Below n w w') (hl : b < n) : OpAt w' b off o := by
 obtain ⟨h0,h1,h2,h3,h4,h5,h6,h7,h8,h9⟩ := h
 have f : ∀ i v,w.cell? ⟨b,i,none⟩ = some v -> w'.cell? ⟨b,i,none⟩ = some v := fun i v hv => (hb.cell (p := ⟨b,i,none⟩) hl).trans hv
 exact ⟨f _ _ h0,f _ _ h1,f _ _ h2,f _ _ h3,f _ _ h4,f _ _ h5,f _ _ h6,f _ _ h7,f _ _ h8,f _ _ h9⟩

structure Sd where
 put : Bool
 key : List UInt8
 val : List UInt8
 blk : Nat
 no : Nat
def saids (a : Nat) : Nat -> List Ent -> List Sd
 | _,[] => []
 | i,e :: es => ⟨e.put,e.key,e.val,a,i⟩ :: saids a (i + 1) es
theorem saids_length (a i : Nat) (es : List Ent) : (saids a i es).length = es.length := by
 induction es generalizing i with
 | nil => rfl
 | cons e es ih => simp [saids,ih]
theorem saids_snoc (a i : Nat) (es : List Ent) (e : Ent) : saids a i (es ++ [e]) = saids a i es ++ [⟨e.put,e.key,e.val,a,i + es.length⟩] := by
 induction es generalizing i with
 | nil => rfl
 | cons f es ih => simp [saids,ih]; omega
theorem saids_take {a : Nat} {es : List Ent} {k : Nat} (h : k < es.length) : saids a 0 (es.take (k + 1)) = saids a 0 (es.take k) ++ [⟨es[k].put,es[k].key,es[k].val,a,k⟩] := by
 rw [List.take_succ_eq_append_getElem h,saids_snoc]
 simp; omega
def readF : Nat -> List UInt8 -> Int -> Nat -> List Sd × Nat
 | 0,_,_,a => ([],a)
 | n + 1,log,blk,a => match blockP log a blk with
  | none => ([],a)
  | some (es,k) => (saids a 0 es ++ (readF n log blk (a + k)).1,(readF n log blk (a + k)).2)
def readL (log : List UInt8) (blk : Int) (a : Nat) : List Sd × Nat := readF (log.length - a) log blk a
theorem readF_fuel (log : List UInt8) (blk : Int) (n m a : Nat) (hn : log.length - a <= n) (hm : log.length - a <= m) : readF n log blk a = readF m log blk a := by
 induction n generalizing m a with
 | zero =>
  cases m with
  | zero => rfl
  | succ m =>
   rw [readF,readF]
   cases h : blockP log a blk with
   | none => rfl
   | some x =>
    have := blockP_some (es := x.1) (k := x.2) h
    omega
 | succ n ih =>
  cases m with
  | zero =>
   rw [readF,readF]
   cases h : blockP log a blk with
   | none => rfl
   | some x =>
    have := blockP_some (es := x.1) (k := x.2) h
    omega
  | succ m =>
   rw [readF,readF]
   cases h : blockP log a blk with
   | none => rfl
   | some x =>
    obtain ⟨es,k⟩ := x
    have := blockP_some h
    simp only
    rw [ih m (a + k) (by omega) (by omega)]
theorem readL_none {log : List UInt8} {blk : Int} {a : Nat} (h : blockP log a blk = none) : readL log blk a = ([],a) := by
 unfold readL
 cases log.length - a with
 | zero => rfl
 | succ n => rw [readF,h]
theorem readL_some {log : List UInt8} {blk : Int} {a k : Nat} {es : List Ent} (h : blockP log a blk = some (es,k)) : readL log blk a = (saids a 0 es ++ (readL log blk (a + k)).1,(readL log blk (a + k)).2) := by
 have := blockP_some h
 unfold readL
 obtain ⟨n,hn⟩ : ∃ n,log.length - a = n + 1 := ⟨log.length - a - 1,by omega⟩
 rw [hn,readF,h]
 simp only
 rw [readF_fuel log blk n (log.length - (a + k)) (a + k) (by omega) (Nat.le_refl _)]
def liveL : List Sd -> List Sd
 | [] => []
 | x :: l => if x.put = true /\ ∀ y ∈ l,y.key ≠ x.key then x :: liveL l else liveL l
theorem liveL_mem {l : List Sd} {x : Sd} (h : x ∈ liveL l) : x ∈ l /\ x.put = true := by
 induction l with
 | nil => simp [liveL] at h
 | cons y l ih =>
  rw [liveL] at h
  split at h
  ·rename_i hc
   rcases List.mem_cons.1 h with rfl | h
   ·exact ⟨List.mem_cons_self,hc.1⟩
   ·exact ⟨List.mem_cons_of_mem _ (ih h).1,(ih h).2⟩
  ·exact ⟨List.mem_cons_of_mem _ (ih h).1,(ih h).2⟩
theorem liveL_le (l : List Sd) : (liveL l).length <= l.length := by
 induction l with
 | nil => simp [liveL]
 | cons x l ih =>
  rw [liveL]
  split <;> simp <;> omega
theorem liveL_snoc (l : List Sd) (x : Sd) : liveL (l ++ [x]) = (liveL l).filter (fun y => decide (y.key ≠ x.key)) ++ (if x.put = true then [x] else []) := by
 induction l with
 | nil =>
  simp only [List.nil_append,liveL,List.filter_nil]
  by_cases h : x.put = true <;> simp [h]
 | cons y l ih =>
  rw [List.cons_append,liveL,liveL,ih]
  by_cases h1 : y.put = true /\ ∀ z ∈ l,z.key ≠ y.key
  ·rw [if_pos h1]
   by_cases h2 : x.key = y.key
   ·rw [if_neg (by rintro ⟨_,h⟩; exact h x (by simp) h2)]
    simp [h2]
   ·rw [if_pos ⟨h1.1,fun z hz => by
     rcases List.mem_append.1 hz with hz | hz
     ·exact h1.2 z hz
     ·simp at hz; subst hz; exact h2⟩]
    rw [List.filter_cons_of_pos (by simpa using fun h => h2 h.symm)]
    rfl
  ·rw [if_neg h1,if_neg (by rintro ⟨ha,hb⟩; exact h1 ⟨ha,fun z hz => hb z (by simp [hz])⟩)]
theorem liveL_keys (l : List Sd) : (liveL l).Pairwise (fun x y => x.key ≠ y.key) := by
 induction l with
 | nil => exact List.Pairwise.nil
 | cons x l ih =>
  rw [liveL]
  split
  ·rename_i h
   exact List.Pairwise.cons (fun y hy => fun e => h.2 y (liveL_mem hy).1 e.symm) ih
  ·exact ih
def placeLt (x y : Sd) : Prop := x.blk < y.blk \/ (x.blk = y.blk /\ x.no < y.no)
theorem saids_rise (a i : Nat) (es : List Ent) : (saids a i es).Pairwise placeLt /\ ∀ x ∈ saids a i es,x.blk = a /\ i <= x.no /\ x.no < i + es.length := by
 induction es generalizing i with
 | nil => exact ⟨List.Pairwise.nil,by simp [saids]⟩
 | cons e es ih =>
  obtain ⟨h1,h2⟩ := ih (i + 1)
  refine ⟨List.Pairwise.cons (fun y hy => .inr ⟨?_,?_⟩) h1,fun x hx => ?_⟩
  ·exact (h2 y hy).1.symm
  ·have := h2 y hy; simp; omega
  ·rcases List.mem_cons.1 hx with rfl | hx
   ·simp
   ·have := h2 x hx; simp; omega
theorem readF_rise (log : List UInt8) (blk : Int) (n a : Nat) : (readF n log blk a).1.Pairwise placeLt /\ (∀ x ∈ (readF n log blk a).1,a <= x.blk /\ x.blk < log.length /\ x.no < 255) /\ a <= (readF n log blk a).2 /\ (a <= log.length -> (readF n log blk a).2 <= log.length) := by
 induction n generalizing a with
 | zero => exact ⟨List.Pairwise.nil,by simp [readF],Nat.le_refl _,fun h => h⟩
 | succ n ih =>
  rw [readF]
  cases h : blockP log a blk with
  | none => exact ⟨List.Pairwise.nil,by simp,Nat.le_refl _,fun h => h⟩
  | some x =>
   obtain ⟨es,k⟩ := x
   have hb := blockP_some h
   obtain ⟨h1,h2,h3,h4⟩ := ih (a + k)
   obtain ⟨s1,s2⟩ := saids_rise a 0 es
   simp only
   refine ⟨?_,?_,by omega,fun _ => h4 (by omega)⟩
   ·rw [List.pairwise_append]
    refine ⟨s1,h1,fun x hx y hy => .inl ?_⟩
    have := s2 x hx
    have := h2 y hy
    omega
   ·intro x hx
    rcases List.mem_append.1 hx with hx | hx
    ·have := s2 x hx; omega
    ·have := h2 x hx; omega
theorem liveL_sub (l : List Sd) : (liveL l).Sublist l := by
 induction l with
 | nil => exact List.Sublist.refl _
 | cons x l ih =>
  rw [liveL]
  split
  ·exact ih.cons_cons x
  ·exact ih.cons x
theorem liveL_rise {l : List Sd} (h : l.Pairwise placeLt) : (liveL l).Pairwise placeLt := h.sublist (liveL_sub l)
structure Slt where
 num : Nat
 blk : Nat
 no : Nat
def awayN (n : Nat) (x : Slt) (a : Nat) : Nat := (a + n - x.num % n) % n
theorem awayN_lt {n : Nat} (h : 0 < n) (x : Slt) (a : Nat) : awayN n x a < n := Nat.mod_lt _ h
def sizeF : Nat -> Nat -> Nat -> Nat
 | 0,_,s => s
 | f + 1,n,s => if s <= 5 * n / 4 then sizeF f n (2 * s) else s
def sizeL (n : Nat) : Nat := sizeF 12 n 4
def putF : Nat -> List (Option Slt) -> Slt -> Nat -> List (Option Slt)
 | 0,t,_,_ => t
 | f + 1,t,x,a => match t[a]? with
  | some (some y) => if awayN t.length y a < awayN t.length x a then putF f (t.set a (some x)) y ((a + 1) % t.length) else putF f t x ((a + 1) % t.length)
  | _ => t.set a (some x)
def putL (t : List (Option Slt)) (x : Slt) : List (Option Slt) := putF t.length t x (x.num % t.length)
theorem putF_length (f : Nat) (t : List (Option Slt)) (x : Slt) (a : Nat) : (putF f t x a).length = t.length := by
 induction f generalizing t x a with
 | zero => rfl
 | succ f ih =>
  rw [putF]
  split
  ·split
   ·rw [ih]; simp
   ·rw [ih]
  ·simp
def gap (n e a : Nat) : Nat := (e + n - a) % n
theorem gap_step {n e a : Nat} (ha : a < n) (he : e < n) (hne : a ≠ e) : gap n e ((a + 1) % n) + 1 = gap n e a := by
 unfold gap
 by_cases h : a + 1 < n
 ·rw [Nat.mod_eq_of_lt h]
  by_cases h2 : a < e
  ·have e1 : e + n - (a + 1) = (e - (a + 1)) + n := by omega
   have e2 : e + n - a = (e - a) + n := by omega
   rw [e1,e2,Nat.add_mod_right,Nat.add_mod_right,Nat.mod_eq_of_lt (by omega),Nat.mod_eq_of_lt (by omega)]
   omega
  ·rw [Nat.mod_eq_of_lt (a := e + n - (a + 1)) (by omega),Nat.mod_eq_of_lt (a := e + n - a) (by omega)]
   omega
 ·have : a + 1 = n := by omega
  rw [this,Nat.mod_self,Nat.sub_zero,Nat.add_mod_right,Nat.mod_eq_of_lt he,Nat.mod_eq_of_lt (a := e + n - a) (by omega)]
  omega
theorem gap_lt {n e a : Nat} (hn : 0 < n) : gap n e a < n := Nat.mod_lt _ hn
def fullN (t : List (Option Slt)) : Nat := (t.filter Option.isSome).length
theorem fullN_set {t : List (Option Slt)} {a : Nat} {x : Slt} (h : t[a]? = some none) : fullN (t.set a (some x)) = fullN t + 1 := by
 induction t generalizing a with
 | nil => simp at h
 | cons y t ih =>
  cases a with
  | zero => simp at h; subst h; simp [fullN]
  | succ a =>
   have := ih (a := a) (by simpa using h)
   unfold fullN at this ⊢
   rw [List.set_cons_succ,List.filter_cons,List.filter_cons]
   split <;> simp [this]
theorem fullN_swap {t : List (Option Slt)} {a : Nat} {x y : Slt} (h : t[a]? = some (some y)) : fullN (t.set a (some x)) = fullN t := by
 induction t generalizing a with
 | nil => simp at h
 | cons z t ih =>
  cases a with
  | zero => simp at h; subst h; simp [fullN]
  | succ a =>
   have := ih (a := a) (by simpa using h)
   unfold fullN at this ⊢
   rw [List.set_cons_succ,List.filter_cons,List.filter_cons]
   split <;> simp [this]
theorem fullN_free {t : List (Option Slt)} (h : fullN t < t.length) : ∃ e,e < t.length /\ t[e]? = some none := by
 induction t with
 | nil => simp at h
 | cons y t ih =>
  cases y with
  | none => exact ⟨0,by simp,rfl⟩
  | some y =>
   obtain ⟨e,h1,h2⟩ := ih (by simp [fullN] at h ⊢; omega)
   exact ⟨e + 1,by simp; omega,by simpa using h2⟩
theorem fullN_put (n e : Nat) (he : e < n) : ∀ (f : Nat) (t : List (Option Slt)) (x : Slt) (a : Nat),t.length = n -> a < n -> t[e]? = some none -> gap n e a < f -> fullN (putF f t x a) = fullN t + 1 := by
 intro f
 induction f with
 | zero => intro t x a _ _ _ h; omega
 | succ f ih =>
  intro t x a hl ha hE hf
  rw [putF]
  split
  ·rename_i y hy
   have hne : a ≠ e := by
    intro h; subst h; rw [hE] at hy; cases hy
   have hs := gap_step ha he hne
   have ha' : (a + 1) % n < n := Nat.mod_lt _ (by omega)
   rw [hl]
   split
   ·rw [ih _ _ _ (by simp [hl]) ha' (by rw [List.getElem?_set_ne hne]; exact hE) (by omega),fullN_swap hy]
   ·rw [ih _ _ _ hl ha' hE (by omega)]
  ·rename_i hx
   have hsome : t[a]? = some t[a] := List.getElem?_eq_getElem (by omega)
   cases hy : t[a] with
   | none => exact fullN_set (by rw [hsome,hy])
   | some y => exact absurd (by rw [hsome,hy]) (hx y)
theorem sizeF_big (f n s : Nat) (h : 5 * n / 4 < s * 2 ^ f) : 5 * n / 4 < sizeF f n s := by
 induction f generalizing s with
 | zero => simpa [sizeF] using h
 | succ f ih =>
  rw [sizeF]
  split
  ·exact ih (2 * s) (by rw [Nat.pow_succ] at h; rw [Nat.mul_comm 2 s,Nat.mul_assoc,Nat.mul_comm 2]; exact h)
  ·omega
theorem sizeF_bound (f n s b : Nat) (h0 : s <= b) (h : 2 * (5 * n / 4) <= b) : sizeF f n s <= b := by
 induction f generalizing s with
 | zero => exact h0
 | succ f ih =>
  rw [sizeF]
  split
  ·exact ih (2 * s) (by omega)
  ·exact h0
theorem sizeF_ge (f n s : Nat) : s <= sizeF f n s := by
 induction f generalizing s with
 | zero => exact Nat.le_refl _
 | succ f ih =>
  rw [sizeF]
  split
  ·exact Nat.le_trans (by omega) (ih (2 * s))
  ·exact Nat.le_refl _
theorem sizeL_big {n : Nat} (h : n <= 2000) : 5 * n / 4 < sizeL n := sizeF_big 12 n 4 (by omega)
theorem sizeL_bound {n : Nat} (h : n <= 2000) : 4 <= sizeL n /\ sizeL n <= 5000 := ⟨sizeF_ge 12 n 4,sizeF_bound 12 n 4 5000 (by omega) (by omega)⟩
def sltOf (seed bits : Int) (x : Sd) : Slt := ⟨(numberI seed bits x.key).toNat,x.blk,x.no⟩
def fillL (n : Nat) (xs : List Slt) : List (Option Slt) := xs.foldl putL (List.replicate n none)
theorem fillL_snoc (n : Nat) (xs : List Slt) (x : Slt) : fillL n (xs ++ [x]) = putL (fillL n xs) x := by
 unfold fillL; rw [List.foldl_append]; rfl
theorem foldl_put_length (xs : List Slt) (t : List (Option Slt)) : (xs.foldl putL t).length = t.length := by
 induction xs generalizing t with
 | nil => rfl
 | cons x xs ih => rw [List.foldl_cons,ih,putL,putF_length]
theorem fillL_length (n : Nat) (xs : List Slt) : (fillL n xs).length = n := by
 unfold fillL; rw [foldl_put_length]; simp
theorem foldl_put_full (xs : List Slt) (t : List (Option Slt)) (h : fullN t + xs.length <= t.length) (hp : 0 < t.length) : fullN (xs.foldl putL t) = fullN t + xs.length := by
 induction xs generalizing t with
 | nil => rfl
 | cons x xs ih =>
  obtain ⟨e,h1,h2⟩ := fullN_free (t := t) (by simp at h; omega)
  have e1 : fullN (putL t x) = fullN t + 1 := fullN_put t.length e h1 t.length t x (x.num % t.length) rfl (Nat.mod_lt _ hp) h2 (gap_lt hp)
  have e2 : (putL t x).length = t.length := putF_length _ _ _ _
  rw [List.foldl_cons,ih (putL t x) (by rw [e1,e2]; simp at h; omega) (by omega),e1]
  simp; omega
theorem fillL_full {n : Nat} {xs : List Slt} (h : xs.length <= n) (hn : 0 < n) : fullN (fillL n xs) = xs.length := by
 have h0 : fullN (List.replicate n (none : Option Slt)) = 0 := by simp [fullN]
 unfold fillL
 rw [foldl_put_full xs _ (by rw [h0]; simp; omega) (by simp; omega),h0]
 omega
theorem fillL_free {n : Nat} {xs : List Slt} (h : xs.length < n) : ∃ e,e < n /\ (fillL n xs)[e]? = some none := by
 have := fullN_free (t := fillL n xs) (by rw [fillL_length,fillL_full (by omega) (by omega)]; exact h)
 rwa [fillL_length] at this
def farP (n : Nat) (t : List (Option Slt)) : Nat -> Nat
 | 0 => 0
 | k + 1 => match t.getD k none with
  | none => farP n t k
  | some x => max (farP n t k) (awayN n x k)
theorem farP_none {n k : Nat} {t : List (Option Slt)} (h : t[k]? = some none) : farP n t (k + 1) = farP n t k := by
 rw [farP,List.getD,h]; rfl
theorem farP_some {n k : Nat} {t : List (Option Slt)} {x : Slt} (h : t[k]? = some (some x)) : farP n t (k + 1) = max (farP n t k) (awayN n x k) := by
 rw [farP,List.getD,h]; rfl
theorem farP_lt {n : Nat} (hn : 0 < n) (t : List (Option Slt)) (k : Nat) : farP n t k < n := by
 induction k with
 | zero => exact hn
 | succ k ih =>
  rw [farP]
  split
  ·exact ih
  ·have := awayN_lt hn (by assumption) k
   omega
def sltB : Option Slt -> List UInt8
 | none => lowL 0 10
 | some x => lowL 1 1 ++ lowL x.num 4 ++ lowL x.blk 4 ++ lowL x.no 1
theorem lowL_len (n k : Nat) : (lowL n k).length = k := by
 induction k generalizing n with
 | zero => rfl
 | succ k ih => simp [lowL,ih]
theorem sltB_length (x : Option Slt) : (sltB x).length = 10 := by
 cases x <;> simp [sltB,lowL_len]
def tabB (t : List (Option Slt)) : List UInt8 := t.flatMap sltB
theorem tabB_snoc (t : List (Option Slt)) (x : Option Slt) : tabB (t ++ [x]) = tabB t ++ sltB x := by simp [tabB]
theorem tabB_length (t : List (Option Slt)) : (tabB t).length = 10 * t.length := by
 induction t with
 | nil => rfl
 | cons x t ih =>
  show (sltB x ++ tabB t).length = _
  rw [List.length_append,ih,sltB_length,List.length_cons]; omega
def frontB (live slots far size sum : Nat) : List UInt8 := [73,88] ++ lowL live 2 ++ lowL slots 2 ++ lowL far 2 ++ lowL size 4 ++ lowL sum 4
theorem frontB_length (a b c d e : Nat) : (frontB a b c d e).length = 16 := by simp [frontB,lowL_len]
def tableOf (seed bits : Int) (live : List Sd) : List (Option Slt) := fillL (sizeL live.length) (live.map (sltOf seed bits))
def indexB (log : List UInt8) (seed bits : Int) (live : List Sd) : List UInt8 :=
 sealL (frontB live.length (sizeL live.length) (farP (sizeL live.length) (tableOf seed bits live) (sizeL live.length)) log.length (sumI log).toNat) ++ sealL (tabB (tableOf seed bits live))
def indexS (log : List UInt8) : Option (List UInt8) :=
 if 100000 < log.length then none
 else if headB log = false then none
 else if (readL log (hdBlk log) 14).2 < log.length then none
 else if 2000 < (liveL (readL log (hdBlk log) 14).1).length then none
 else some (indexB log (hdSeed log) (hdBits log) (liveL (readL log (hdBlk log) 14).1))
theorem awayN_ref {n a : Nat} (x : Slt) (ha : a < n) : awayN n x a = if a < x.num % n then a + n - x.num % n else a - x.num % n := by
 have hh : x.num % n < n := Nat.mod_lt _ (by omega)
 unfold awayN
 split
 ·rw [Nat.mod_eq_of_lt (by omega)]
 ·rw [show a + n - x.num % n = (a - x.num % n) + n by omega,Nat.add_mod_right,Nat.mod_eq_of_lt (by omega)]
theorem awayN_prog {n a : Nat} (x : Slt) (ha : a < n) : ((a : Int) - (x.num : Int) % (n : Int) + (n : Int)) % (n : Int) = (awayN n x a : Nat) := by
 have hh : x.num % n < n := Nat.mod_lt _ (by omega)
 have e : (a : Int) - (x.num : Int) % (n : Int) + (n : Int) = ((a + n - x.num % n : Nat) : Int) := by
  have : (x.num : Int) % (n : Int) = ((x.num % n : Nat) : Int) := by simp
  omega
 rw [e]
 unfold awayN
 simp
def slotL (ix : List UInt8) (i : Nat) : List UInt8 := (ix.drop (20 + 10 * i)).take 10
structure Ans where
 val : List UInt8
 num : Nat
 err : Int
def entStep (key : List UInt8) (k : Nat) (r : Option (List Ent × Nat)) (no : Nat) : Option Ans :=
 match r with
 | none => some ⟨[],0,3⟩
 | some (es,_) => match es[no]? with
  | none => some ⟨[],0,3⟩
  | some e => if e.put = false then some ⟨[],0,3⟩ else if e.key = key then some ⟨e.val,k + 1,0⟩ else none
def slotStep (log key : List UInt8) (want : Nat) (blk : Int) (k : Nat) (s : List UInt8) : Option Ans :=
 if (s.getD 0 0).toNat = 0 then some ⟨[],k + 1,2⟩
 else if (s.getD 0 0).toNat ≠ 1 \/ highL ((s.drop 1).take 4) ≠ want then none
 else entStep key k (blockP log (highL ((s.drop 5).take 4)) blk) (s.getD 9 0).toNat
def lookGo (log ix key : List UInt8) (want n : Nat) (blk : Int) : Nat -> Nat -> Ans
 | 0,k => ⟨[],k,2⟩
 | m + 1,k => match slotStep log key want blk k (slotL ix ((want + k) % n)) with
  | some a => a
  | none => lookGo log ix key want n blk m (k + 1)
theorem lookGo_some {log ix key : List UInt8} {want n m k : Nat} {blk : Int} {a : Ans} (h : slotStep log key want blk k (slotL ix ((want + k) % n)) = some a) : lookGo log ix key want n blk (m + 1) k = a := by
 rw [lookGo,h]
theorem lookGo_none {log ix key : List UInt8} {want n m k : Nat} {blk : Int} (h : slotStep log key want blk k (slotL ix ((want + k) % n)) = none) : lookGo log ix key want n blk (m + 1) k = lookGo log ix key want n blk m (k + 1) := by
 rw [lookGo,h]
def lookS (log ix key : List UInt8) : Ans :=
 if beginsE log ix = 0 then lookGo log ix key (numberI (hdSeed log) (hdBits log) key).toNat (ixN ix) (hdBlk log) (ixFar ix + 1) 0
 else ⟨[],0,beginsE log ix⟩
theorem cellsE_get {es : List Ent} {i : Nat} (h : i < es.length) : (cellsE es)[i * 3]? = some (.bool es[i].put) /\ (cellsE es)[i * 3 + 1]? = some (.string (S es[i].key)) /\ (cellsE es)[i * 3 + 2]? = some (.string (S es[i].val)) := by
 induction es generalizing i with
 | nil => simp at h
 | cons e es ih =>
  cases i with
  | zero => exact ⟨rfl,rfl,rfl⟩
  | succ i =>
   have := ih (i := i) (by simpa using h)
   have e1 : ∀ j,(cellsE (e :: es))[(i + 1) * 3 + j]? = (cellsE es)[i * 3 + j]? := fun j => by
    show ([.bool e.put,.string (S e.key),.string (S e.val)] ++ cellsE es)[(i + 1) * 3 + j]? = _
    rw [List.getElem?_append_right (by simp; omega)]
    congr 1
    simp; omega
   exact ⟨(e1 0).trans this.1,(e1 1).trans this.2.1,(e1 2).trans this.2.2⟩
theorem numberI_range (seed bits : Int) (key : List UInt8) (h0 : 0 <= bits) (h1 : bits <= 32) : 0 <= numberI seed bits key /\ numberI seed bits key < 4294967296 := by
 unfold numberI
 have hp : (1 : Int) <= 2 ^ bits.toNat /\ (2 : Int) ^ bits.toNat <= 4294967296 := by
  have h1 : (1 : Nat) <= 2 ^ bits.toNat := Nat.one_le_two_pow
  have h2 : (2 : Nat) ^ bits.toNat <= 2 ^ 32 := Nat.pow_le_pow_right (by omega) (by omega)
  have h3 : ((2 ^ bits.toNat : Nat) : Int) = 2 ^ bits.toNat := by simp
  omega
 have a := Int.emod_nonneg (fnv F0 (lowL seed.toNat 4 ++ key)) (show (2 : Int) ^ bits.toNat ≠ 0 by omega)
 have b := Int.emod_lt_of_pos (fnv F0 (lowL seed.toNat 4 ++ key)) (show (0 : Int) < 2 ^ bits.toNat by omega)
 omega
def Full (t : List (Option Slt)) (p : Nat) : Prop := ∃ x,t[p]? = some (some x)
def Stored (t : List (Option Slt)) (z : Slt) : Prop := ∃ p : Nat,t[p]? = some (some z)
def Path (t : List (Option Slt)) (x : Slt) (a : Nat) : Prop := ∀ j,j < awayN t.length x a -> Full t ((x.num % t.length + j) % t.length)
def Run (t : List (Option Slt)) : Prop := ∀ (p : Nat) (x : Slt),t[p]? = some (some x) -> Path t x p
theorem full_set {t : List (Option Slt)} {a p : Nat} (x : Slt) (h : Full t p) : Full (t.set a (some x)) p := by
 obtain ⟨y,hy⟩ := h
 have hp := (List.getElem?_eq_some_iff.1 hy).1
 by_cases e : a = p
 ·subst e; exact ⟨x,by rw [List.getElem?_set_self hp]⟩
 ·exact ⟨y,by rw [List.getElem?_set_ne e]; exact hy⟩
theorem path_set {t : List (Option Slt)} {a p : Nat} {z : Slt} (x : Slt) (h : Path t z p) : Path (t.set a (some x)) z p := by
 intro j hj
 rw [List.length_set] at hj ⊢
 exact full_set x (h j hj)
theorem away_home {n a : Nat} {x : Slt} (ha : a < n) : (x.num % n + awayN n x a) % n = a := by
 have hx := Nat.mod_lt x.num (show 0 < n by omega)
 rw [awayN_ref x ha]
 split
 ·rw [show x.num % n + (a + n - x.num % n) = a + n by omega,Nat.add_mod_right,Nat.mod_eq_of_lt ha]
 ·rw [show x.num % n + (a - x.num % n) = a by omega,Nat.mod_eq_of_lt ha]
theorem away_next {n a : Nat} {x : Slt} (ha : a < n) {j : Nat} (hj : j < awayN n x ((a + 1) % n)) : j <= awayN n x a := by
 have hx := Nat.mod_lt x.num (show 0 < n by omega)
 have hb := Nat.mod_lt (a + 1) (show 0 < n by omega)
 rw [awayN_ref x hb] at hj
 rw [awayN_ref x ha]
 by_cases h : a + 1 < n
 ·rw [Nat.mod_eq_of_lt h] at hj
  split at hj <;> split <;> omega
 ·have e : a + 1 = n := by omega
  rw [e,Nat.mod_self] at hj
  split at hj <;> split <;> omega
theorem path_next {t : List (Option Slt)} {a : Nat} {x : Slt} (ha : a < t.length) (h : Path t x a) (hf : Full t a) : Path t x ((a + 1) % t.length) := by
 intro j hj
 have := away_next ha hj
 by_cases e : j = awayN t.length x a
 ·subst e; rw [away_home ha]; exact hf
 ·exact h j (by omega)
theorem run_set {t : List (Option Slt)} {a : Nat} {x : Slt} (h : Run t) (hp : Path t x a) (ha : a < t.length) : Run (t.set a (some x)) := by
 intro p z hz
 by_cases e : a = p
 ·subst e
  rw [List.getElem?_set_self ha] at hz
  cases hz
  exact path_set x hp
 ·rw [List.getElem?_set_ne e] at hz
  exact path_set x (h p z hz)
theorem stored_set {t : List (Option Slt)} {a : Nat} {x : Slt} (ha : a < t.length) (z : Slt) : Stored (t.set a (some x)) z ↔ z = x \/ ∃ p : Nat,p ≠ a /\ t[p]? = some (some z) := by
 constructor
 ·rintro ⟨p,hp⟩
  by_cases e : a = p
  ·subst e; rw [List.getElem?_set_self ha] at hp; cases hp; exact .inl rfl
  ·rw [List.getElem?_set_ne e] at hp; exact .inr ⟨p,fun h => e h.symm,hp⟩
 ·rintro (rfl | ⟨p,hp,h⟩)
  ·exact ⟨a,by rw [List.getElem?_set_self ha]⟩
  ·exact ⟨p,by rw [List.getElem?_set_ne (fun h => hp h.symm)]; exact h⟩
theorem put_run (n e : Nat) (he : e < n) : ∀ (f : Nat) (t : List (Option Slt)) (x : Slt) (a : Nat),t.length = n -> a < n -> t[e]? = some none -> gap n e a < f -> Run t -> Path t x a ->
  Run (putF f t x a) /\ ∀ z,Stored (putF f t x a) z ↔ z = x \/ Stored t z := by
 intro f
 induction f with
 | zero => intro t x a _ _ _ h; omega
 | succ f ih =>
  intro t x a hn ha hfree hg hr hp
  rw [putF]
  cases ht : t[a]? with
  | none => exfalso; rw [List.getElem?_eq_none_iff] at ht; omega
  | some o =>
   cases o with
   | none =>
    simp only
    refine ⟨run_set hr hp (by omega),fun z => ?_⟩
    rw [stored_set (by omega)]
    constructor
    ·rintro (h | ⟨p,_,h⟩)
     ·exact .inl h
     ·exact .inr ⟨p,h⟩
    ·rintro (h | ⟨p,h⟩)
     ·exact .inl h
     ·exact .inr ⟨p,(fun e => by subst e; rw [ht] at h; cases h),h⟩
   | some y =>
    simp only
    have hae : a ≠ e := fun h => by subst h; rw [ht] at hfree; cases hfree
    have hgs := gap_step ha he hae
    have hnx : (a + 1) % n < n := Nat.mod_lt _ (by omega)
    rw [hn]
    split
    ·have hr2 := run_set (x := x) hr hp (by omega)
     have hpy : Path (t.set a (some x)) y ((a + 1) % n) := by
      have h1 : Path t y ((a + 1) % t.length) := path_next (by omega) (hr a y ht) ⟨y,ht⟩
      rw [hn] at h1
      exact path_set x h1
     obtain ⟨h1,h2⟩ := ih (t.set a (some x)) y ((a + 1) % n) (by simp [hn]) hnx (by rw [List.getElem?_set_ne hae]; exact hfree) (by omega) hr2 hpy
     refine ⟨h1,fun z => ?_⟩
     rw [h2,stored_set (by omega)]
     constructor
     ·rintro (rfl | rfl | ⟨p,_,h⟩)
      ·exact .inr ⟨a,ht⟩
      ·exact .inl rfl
      ·exact .inr ⟨p,h⟩
     ·rintro (rfl | ⟨p,h⟩)
      ·exact .inr (.inl rfl)
      ·by_cases e : p = a
       ·subst e; rw [ht] at h; cases h; exact .inl rfl
       ·exact .inr (.inr ⟨p,e,h⟩)
    ·have h1 : Path t x ((a + 1) % t.length) := path_next (by omega) hp ⟨y,ht⟩
     rw [hn] at h1
     exact ih t x ((a + 1) % n) hn hnx hfree (by omega) hr h1
theorem path_home {t : List (Option Slt)} (x : Slt) (h : 0 < t.length) : Path t x (x.num % t.length) := by
 intro j hj
 rw [awayN_ref x (Nat.mod_lt _ h),if_neg (by omega),Nat.sub_self] at hj
 omega
theorem fill_run {n : Nat} (xs : List Slt) (h : xs.length < n) : Run (fillL n xs) /\ ∀ z,Stored (fillL n xs) z ↔ z ∈ xs := by
 have gen : ∀ (k : Nat),k <= xs.length -> Run (fillL n (xs.take k)) /\ ∀ z,Stored (fillL n (xs.take k)) z ↔ z ∈ xs.take k := by
  intro k
  induction k with
  | zero =>
   intro _
   refine ⟨fun p x hx => ?_,fun z => ⟨?_,fun hz => by simp at hz⟩⟩
   ·have := List.mem_of_getElem? hx; simp [fillL] at this
   ·rintro ⟨p,hp⟩; have := List.mem_of_getElem? hp; simp [fillL] at this
  | succ k ih =>
   intro hk
   obtain ⟨h1,h2⟩ := ih (by omega)
   rw [List.take_succ_eq_append_getElem (show k < xs.length by omega),fillL_snoc]
   obtain ⟨e,he,hf⟩ := fillL_free (n := n) (xs := xs.take k) (by simp; omega)
   have hl := fillL_length n (xs.take k)
   have := put_run n e he n (fillL n (xs.take k)) xs[k] (xs[k].num % n) hl (Nat.mod_lt _ (by omega)) hf (gap_lt (by omega)) h1 (by have := path_home (t := fillL n (xs.take k)) xs[k] (by omega); rwa [hl] at this)
   unfold putL
   rw [hl]
   refine ⟨this.1,fun z => ?_⟩
   rw [this.2,h2,List.mem_append]
   simp [or_comm]
 have := gen xs.length (Nat.le_refl _)
 rwa [List.take_length] at this
theorem far_ge {n : Nat} {t : List (Option Slt)} {x : Slt} {p m : Nat} (h : t[p]? = some (some x)) (hp : p < m) : awayN n x p <= farP n t m := by
 induction m with
 | zero => omega
 | succ m ih =>
  by_cases e : p = m
  ·subst e; rw [farP_some h]; omega
  ·have := ih (by omega)
   rw [farP]
   split
   ·exact this
   ·omega
theorem tab_slot (t : List (Option Slt)) (pre post : List UInt8) (hpre : pre.length = 20) (i : Nat) (h : i < t.length) : slotL (pre ++ (tabB t ++ post)) i = sltB t[i] := by
 unfold slotL
 have e0 : (pre ++ (tabB t ++ post)).drop 20 = tabB t ++ post := by rw [<- hpre,List.drop_left]
 rw [<- List.drop_drop,e0]
 have e : tabB t = tabB (t.take i) ++ (sltB t[i] ++ tabB (t.drop (i + 1))) := by
  have h1 : t = t.take i ++ (t[i] :: t.drop (i + 1)) := by rw [<- List.drop_eq_getElem_cons h,List.take_append_drop]
  calc tabB t = tabB (t.take i ++ (t[i] :: t.drop (i + 1))) := congrArg tabB h1
   _ = _ := by simp only [tabB,List.flatMap_append,List.flatMap_cons]
 have l1 : (tabB (t.take i)).length = 10 * i := by rw [tabB_length]; simp; omega
 have e2 : (tabB (t.take i) ++ ((sltB t[i] ++ tabB (t.drop (i + 1))) ++ post)).drop (10 * i) = (sltB t[i] ++ tabB (t.drop (i + 1))) ++ post := by rw [<- l1,List.drop_left]
 rw [e,List.append_assoc,e2,List.append_assoc,List.take_append_of_le_length (by rw [sltB_length]; omega),List.take_of_length_le (by rw [sltB_length]; omega)]
theorem slt_parts {x : Slt} (h1 : x.num < 4294967296) (h2 : x.blk < 4294967296) (h3 : x.no < 256) :
  ((sltB (some x)).getD 0 0).toNat = 1 /\ highL (((sltB (some x)).drop 1).take 4) = x.num /\ highL (((sltB (some x)).drop 5).take 4) = x.blk /\ ((sltB (some x)).getD 9 0).toNat = x.no := by
 have e : sltB (some x) = [1] ++ (lowL x.num 4 ++ (lowL x.blk 4 ++ lowL x.no 1)) := by simp [sltB,lowL]
 have l1 := lowL_len x.num 4
 have l2 := lowL_len x.blk 4
 rw [e]
 refine ⟨rfl,?_,?_,?_⟩
 ·rw [List.drop_append_of_le_length (by simp),List.drop_of_length_le (by simp),List.nil_append,List.take_append_of_le_length (by omega),List.take_of_length_le (by omega),highL_lowL _ _ (by omega)]
 ·have : ([1] ++ (lowL x.num 4 ++ (lowL x.blk 4 ++ lowL x.no 1))).drop 5 = lowL x.blk 4 ++ lowL x.no 1 := by
   rw [<- List.append_assoc,List.drop_append_of_le_length (by simp [l1]),List.drop_of_length_le (by simp [l1]),List.nil_append]
  rw [this,List.take_append_of_le_length (by omega),List.take_of_length_le (by omega),highL_lowL _ _ (by omega)]
 ·have : ([1] ++ (lowL x.num 4 ++ (lowL x.blk 4 ++ lowL x.no 1)))[9]? = some (UInt8.ofNat (x.no % 256)) := by
   rw [<- List.append_assoc,<- List.append_assoc,List.getElem?_append_right (by simp [l1,l2])]
   simp [l1,l2,lowL]
  rw [List.getD_eq_getElem?_getD,this]
  simp
  omega
theorem slt_none : ((sltB none).getD 0 0).toNat = 0 := by decide
def PlaceIs (log : List UInt8) (blk : Int) (x : Sd) : Prop := ∃ es k,blockP log x.blk blk = some (es,k) /\ es[x.no]? = some ⟨x.put,x.key,x.val⟩
theorem saids_get {a i : Nat} {es : List Ent} {x : Sd} (h : x ∈ saids a i es) : x.blk = a /\ i <= x.no /\ es[x.no - i]? = some ⟨x.put,x.key,x.val⟩ := by
 induction es generalizing i with
 | nil => simp [saids] at h
 | cons e es ih =>
  rw [saids] at h
  rcases List.mem_cons.1 h with rfl | h
  ·exact ⟨rfl,Nat.le_refl _,by simp⟩
  ·obtain ⟨h1,h2,h3⟩ := ih h
   refine ⟨h1,by omega,?_⟩
   rw [show x.no - i = (x.no - (i + 1)) + 1 by omega,List.getElem?_cons_succ]
   exact h3
theorem read_place (log : List UInt8) (blk : Int) (n a : Nat) : ∀ x ∈ (readF n log blk a).1,PlaceIs log blk x := by
 induction n generalizing a with
 | zero => intro x hx; simp [readF] at hx
 | succ n ih =>
  intro x hx
  rw [readF] at hx
  split at hx
  ·simp at hx
  ·rename_i es k hb
   rcases List.mem_append.1 hx with hx | hx
   ·obtain ⟨h1,h2,h3⟩ := saids_get hx
    refine ⟨es,k,by rw [h1]; exact hb,by simpa using h3⟩
   ·exact ih _ x hx
theorem slot_says {log key : List UInt8} {blk : Int} {want k : Nat} {z : Slt} {x : Sd} (hp : PlaceIs log blk x) (hput : x.put = true) (hb : z.blk = x.blk) (hno : z.no = x.no) (hn : z.num < 4294967296) (hbl : z.blk < 4294967296) (hn2 : z.no < 256) :
  slotStep log key want blk k (sltB (some z)) = if z.num = want /\ x.key = key then some ⟨x.val,k + 1,0⟩ else none := by
 obtain ⟨p0,p1,p2,p3⟩ := slt_parts hn hbl hn2
 obtain ⟨es,kk,e1,e2⟩ := hp
 unfold slotStep
 rw [p0,p1,p2,p3,if_neg (by omega),hb,hno,e1]
 by_cases h : z.num = want
 ·rw [if_neg (by simp [h])]
  unfold entStep
  simp only [e2]
  rw [hput]
  by_cases hk : x.key = key <;> simp [h,hk]
 ·rw [if_pos (.inr h),if_neg (by simp [h])]
structure TabHolds (log : List UInt8) (seed bits : Int) (blk : Int) (live : List Sd) (t : List (Option Slt)) : Prop where
 run : Run t
 all : ∀ z,Stored t z ↔ z ∈ live.map (sltOf seed bits)
 keys : live.Pairwise (fun x y => x.key ≠ y.key)
 place : ∀ x ∈ live,PlaceIs log blk x /\ x.put = true /\ x.blk < 4294967296 /\ x.no < 256
 bits : 0 <= bits /\ bits <= 32
 pos : 0 < t.length
theorem TabHolds.slot {log : List UInt8} {seed bits blk : Int} {live : List Sd} {t : List (Option Slt)} (h : TabHolds log seed bits blk live t) {key : List UInt8} {p : Nat} {z : Slt} (hz : t[p]? = some (some z)) (want k : Nat) :
  ∃ x ∈ live,z = sltOf seed bits x /\ slotStep log key want blk k (sltB (some z)) = if z.num = want /\ x.key = key then some ⟨x.val,k + 1,0⟩ else none := by
 obtain ⟨x,hx,rfl⟩ := List.mem_map.1 ((h.all z).1 ⟨p,hz⟩)
 obtain ⟨h1,h2,h3,h4⟩ := h.place x hx
 have hr := numberI_range seed bits x.key h.bits.1 h.bits.2
 exact ⟨x,hx,rfl,slot_says h1 h2 rfl rfl (by show (numberI seed bits x.key).toNat < _; omega) h3 h4⟩
theorem look_there {log ix : List UInt8} {seed bits blk : Int} {live : List Sd} {t : List (Option Slt)} (h : TabHolds log seed bits blk live t) (hix : ∀ i (hi : i < t.length),slotL ix i = sltB t[i]) {x : Sd} (hx : x ∈ live) {p : Nat} (hp : t[p]? = some (some (sltOf seed bits x))) :
  ∀ (m k : Nat),k <= awayN t.length (sltOf seed bits x) p -> awayN t.length (sltOf seed bits x) p < k + m -> ∃ c,lookGo log ix x.key (numberI seed bits x.key).toNat t.length blk m k = ⟨x.val,c,0⟩ /\ 1 <= c /\ c <= k + m := by
 have hpl : p < t.length := (List.getElem?_eq_some_iff.1 hp).1
 intro m
 induction m with
 | zero => intro k h1 h2; omega
 | succ m ih =>
  intro k hk hkm
  have hi : ((numberI seed bits x.key).toNat + k) % t.length < t.length := Nat.mod_lt _ h.pos
  have hfull : Full t (((numberI seed bits x.key).toNat + k) % t.length) := by
   have e1 : ((numberI seed bits x.key).toNat + k) % t.length = ((sltOf seed bits x).num % t.length + k) % t.length := by
    show _ = ((numberI seed bits x.key).toNat % t.length + k) % t.length
    rw [Nat.mod_add_mod]
   rw [e1]
   by_cases e : k = awayN t.length (sltOf seed bits x) p
   ·rw [e,away_home hpl]; exact ⟨_,hp⟩
   ·exact h.run p _ hp k (by omega)
  obtain ⟨z,hz⟩ := hfull
  have hzi : t[((numberI seed bits x.key).toNat + k) % t.length] = some z := (List.getElem?_eq_some_iff.1 hz).2
  obtain ⟨y,hy,hyz,hs⟩ := h.slot (key := x.key) hz (numberI seed bits x.key).toNat k
  rw [<- hzi,<- hix _ hi] at hs
  by_cases hc : z.num = (numberI seed bits x.key).toNat /\ y.key = x.key
  ·rw [if_pos hc] at hs
   have : y = x := by
    by_cases e : y = x
    ·exact e
    ·exfalso
     rcases List.mem_iff_getElem.1 hy with ⟨i,hi1,e1⟩
     rcases List.mem_iff_getElem.1 hx with ⟨j,hj1,e2⟩
     have hpw := List.pairwise_iff_getElem.1 h.keys
     rcases Nat.lt_trichotomy i j with g | g | g
     ·have := hpw i j hi1 hj1 g; rw [e1,e2] at this; exact this hc.2
     ·subst g; exact e (e1.symm.trans e2)
     ·have := hpw j i hj1 hi1 g; rw [e1,e2] at this; exact this hc.2.symm
   subst this
   exact ⟨k + 1,lookGo_some hs,by omega,by omega⟩
  ·rw [if_neg hc] at hs
   by_cases e : k = awayN t.length (sltOf seed bits x) p
   ·exfalso
    have hpos : ((numberI seed bits x.key).toNat + k) % t.length = p := by
     have e1 : ((numberI seed bits x.key).toNat + k) % t.length = ((sltOf seed bits x).num % t.length + k) % t.length := by
      show _ = ((numberI seed bits x.key).toNat % t.length + k) % t.length
      rw [Nat.mod_add_mod]
     rw [e1,e,away_home hpl]
    rw [hpos,hp] at hz
    cases hz
    obtain ⟨p1,p2,p3,p4⟩ := h.place x hx
    have hr := numberI_range seed bits x.key h.bits.1 h.bits.2
    have hs2 := slot_says (key := x.key) (want := (numberI seed bits x.key).toNat) (k := k) (z := sltOf seed bits x) p1 p2 rfl rfl (by show (numberI seed bits x.key).toNat < _; omega) p3 p4
    rw [if_pos ⟨rfl,rfl⟩] at hs2
    rw [hix _ hi,hzi] at hs
    rw [hs] at hs2
    cases hs2
   ·obtain ⟨c,h1,h2,h3⟩ := ih (k + 1) (by omega) (by omega)
    exact ⟨c,by rw [lookGo_none hs]; exact h1,h2,by omega⟩
theorem look_not {log ix key : List UInt8} {seed bits blk : Int} {live : List Sd} {t : List (Option Slt)} (h : TabHolds log seed bits blk live t) (hix : ∀ i (hi : i < t.length),slotL ix i = sltB t[i]) (hno : ∀ x ∈ live,x.key ≠ key) (want : Nat) :
  ∀ (m k : Nat),1 <= m + k -> ∃ c,lookGo log ix key want t.length blk m k = ⟨[],c,2⟩ /\ 1 <= c /\ c <= k + m := by
 intro m
 induction m with
 | zero => intro k hk; exact ⟨k,rfl,by omega,by omega⟩
 | succ m ih =>
  intro k _
  have hi : (want + k) % t.length < t.length := Nat.mod_lt _ h.pos
  cases hz : t[(want + k) % t.length] with
  | none =>
   refine ⟨k + 1,lookGo_some ?_,by omega,by omega⟩
   rw [hix _ hi,hz]
   unfold slotStep
   rw [if_pos slt_none]
  | some z =>
   obtain ⟨y,hy,hyz,hs⟩ := h.slot (key := key) (p := (want + k) % t.length) (z := z) (by rw [List.getElem?_eq_getElem hi,hz]) want k
   rw [if_neg (fun hc => hno y hy hc.2)] at hs
   obtain ⟨c,h1,h2,h3⟩ := ih (k + 1) (by omega)
   exact ⟨c,by rw [lookGo_none (by rw [hix _ hi,hz]; exact hs)]; exact h1,h2,by omega⟩
theorem low_cut (pre mid post : List UInt8) (k n : Nat) (hk : pre.length = k) (hm : mid.length = n) : ((pre ++ (mid ++ post)).drop k).take n = mid := by
 rw [List.drop_append_of_le_length (by omega),List.drop_of_length_le (by omega),List.nil_append,List.take_append_of_le_length (by omega),List.take_of_length_le (by omega)]
theorem sealL_sealed (l : List UInt8) : sealedB (sealL l) = true := by
 unfold sealedB
 rw [sealL_length,show l.length + 4 - 4 = l.length by omega]
 have : (sealL l).take l.length = l := by unfold sealL; rw [List.take_append_of_le_length (by omega),List.take_of_length_le (by omega)]
 rw [this]
 simp
theorem sumI_lt (l : List UInt8) : 0 <= sumI l /\ sumI l < 4294967296 := by unfold sumI; omega
theorem front_back {a b c d e : Nat} (post : List UInt8) (hb : b < 65536) (hc : c < 65536) (hd : d < 4294967296) (he : e < 4294967296) :
  ixN (sealL (frontB a b c d e) ++ post) = b /\ ixFar (sealL (frontB a b c d e) ++ post) = c /\ ixSize (sealL (frontB a b c d e) ++ post) = d /\ ixSum (sealL (frontB a b c d e) ++ post) = e /\
  (sealL (frontB a b c d e) ++ post).take 20 = sealL (frontB a b c d e) /\ (sealL (frontB a b c d e) ++ post).take 2 = [73,88] := by
 have la := lowL_len a 2
 have lb := lowL_len b 2
 have lc := lowL_len c 2
 have ld := lowL_len d 4
 have le := lowL_len e 4
 have f1 := low_cut ([73,88] ++ lowL a 2) (lowL b 2) (lowL c 2 ++ (lowL d 4 ++ (lowL e 4 ++ (lowL (crcN (frontB a b c d e)) 4 ++ post)))) 4 2 (by simp [la]) lb
 have f2 := low_cut ([73,88] ++ lowL a 2 ++ lowL b 2) (lowL c 2) (lowL d 4 ++ (lowL e 4 ++ (lowL (crcN (frontB a b c d e)) 4 ++ post))) 6 2 (by simp [la,lb]) lc
 have f3 := low_cut ([73,88] ++ lowL a 2 ++ lowL b 2 ++ lowL c 2) (lowL d 4) (lowL e 4 ++ (lowL (crcN (frontB a b c d e)) 4 ++ post)) 8 4 (by simp [la,lb,lc]) ld
 have f4 := low_cut ([73,88] ++ lowL a 2 ++ lowL b 2 ++ lowL c 2 ++ lowL d 4) (lowL e 4) (lowL (crcN (frontB a b c d e)) 4 ++ post) 12 4 (by simp [la,lb,lc,ld]) le
 have e1 : sealL (frontB a b c d e) ++ post = [73,88] ++ lowL a 2 ++ (lowL b 2 ++ (lowL c 2 ++ (lowL d 4 ++ (lowL e 4 ++ (lowL (crcN (frontB a b c d e)) 4 ++ post))))) := by simp [sealL,frontB]
 refine ⟨?_,?_,?_,?_,?_,?_⟩
 ·unfold ixN; rw [e1,f1,highL_lowL _ _ (by omega)]
 ·unfold ixFar; rw [e1,show ([73,88] ++ lowL a 2 ++ (lowL b 2 ++ (lowL c 2 ++ (lowL d 4 ++ (lowL e 4 ++ (lowL (crcN (frontB a b c d e)) 4 ++ post)))))) = ([73,88] ++ lowL a 2 ++ lowL b 2 ++ (lowL c 2 ++ (lowL d 4 ++ (lowL e 4 ++ (lowL (crcN (frontB a b c d e)) 4 ++ post))))) by simp,f2,highL_lowL _ _ (by omega)]
 ·unfold ixSize; rw [e1,show ([73,88] ++ lowL a 2 ++ (lowL b 2 ++ (lowL c 2 ++ (lowL d 4 ++ (lowL e 4 ++ (lowL (crcN (frontB a b c d e)) 4 ++ post)))))) = ([73,88] ++ lowL a 2 ++ lowL b 2 ++ lowL c 2 ++ (lowL d 4 ++ (lowL e 4 ++ (lowL (crcN (frontB a b c d e)) 4 ++ post)))) by simp,f3,highL_lowL _ _ (by omega)]
 ·unfold ixSum; rw [e1,show ([73,88] ++ lowL a 2 ++ (lowL b 2 ++ (lowL c 2 ++ (lowL d 4 ++ (lowL e 4 ++ (lowL (crcN (frontB a b c d e)) 4 ++ post)))))) = ([73,88] ++ lowL a 2 ++ lowL b 2 ++ lowL c 2 ++ lowL d 4 ++ (lowL e 4 ++ (lowL (crcN (frontB a b c d e)) 4 ++ post))) by simp,f4,highL_lowL _ _ (by omega)]
 ·rw [List.take_append_of_le_length (by rw [sealL_length,frontB_length]; omega),List.take_of_length_le (by rw [sealL_length,frontB_length]; omega)]
 ·rw [e1]; rfl
theorem look_index {log ix : List UInt8} (h : indexS log = some ix) :
  20 <= ix.length /\ 1 <= ixFar ix + 1 /\ ixFar ix < 65536 /\ (∀ x ∈ liveL (readL log (hdBlk log) 14).1,∃ c,lookS log ix x.key = ⟨x.val,c,0⟩ /\ 1 <= c /\ c <= ixFar ix + 1) /\
  (∀ key,(∀ x ∈ liveL (readL log (hdBlk log) 14).1,x.key ≠ key) -> ∃ c,lookS log ix key = ⟨[],c,2⟩ /\ 1 <= c /\ c <= ixFar ix + 1) := by
 unfold indexS at h
 split at h
 ·cases h
 rename_i hl
 split at h
 ·cases h
 rename_i hh
 split at h
 ·cases h
 rename_i he
 split at h
 ·cases h
 rename_i h2
 have h := Option.some.inj h
 have hrise := readF_rise log (hdBlk log) (log.length - 14) 14
 have hplace := read_place log (hdBlk log) (log.length - 14) 14
 change _ /\ (∀ x ∈ (readL log (hdBlk log) 14).1,_) /\ _ at hrise
 change ∀ x ∈ (readL log (hdBlk log) 14).1,_ at hplace
 obtain ⟨_,hb,_⟩ := hrise
 generalize hL : liveL (readL log (hdBlk log) 14).1 = live at *
 have hmem : ∀ x ∈ live,PlaceIs log (hdBlk log) x /\ x.put = true /\ x.blk < 4294967296 /\ x.no < 256 := by
  intro x hx
  rw [<- hL] at hx
  have hm := liveL_mem hx
  have h1 := hb x hm.1
  exact ⟨hplace x hm.1,hm.2,by omega,by omega⟩
 have hkeys : live.Pairwise (fun x y => x.key ≠ y.key) := by rw [<- hL]; exact liveL_keys _
 have hbits : (0 : Int) <= (hdBits log : Int) /\ (hdBits log : Int) <= 32 := by
  have : headB log = true := by cases hq : headB log with | true => rfl | false => exact absurd hq hh
  unfold headB wellB at this
  simp at this
  omega
 have hsz := sizeL_bound (n := live.length) (by omega)
 have hbig := sizeL_big (n := live.length) (by omega)
 have hfr := fill_run (n := sizeL live.length) (live.map (sltOf (hdSeed log) (hdBits log))) (by simp; omega)
 have htl : (tableOf (hdSeed log) (hdBits log) live).length = sizeL live.length := fillL_length _ _
 have hfar := farP_lt (n := sizeL live.length) (by omega) (tableOf (hdSeed log) (hdBits log) live) (sizeL live.length)
 have hs := sumI_lt log
 have HH : TabHolds log (hdSeed log) (hdBits log) (hdBlk log) live (tableOf (hdSeed log) (hdBits log) live) := ⟨hfr.1,hfr.2,hkeys,hmem,hbits,by omega⟩
 unfold indexB at h
 obtain ⟨b1,b2,b3,b4,b5,b6⟩ := front_back (a := live.length) (b := sizeL live.length) (c := farP (sizeL live.length) (tableOf (hdSeed log) (hdBits log) live) (sizeL live.length)) (d := log.length) (e := (sumI log).toNat) (sealL (tabB (tableOf (hdSeed log) (hdBits log) live))) (by omega) (by omega) (by omega) (by omega)
 have hpl : (sealL (frontB live.length (sizeL live.length) (farP (sizeL live.length) (tableOf (hdSeed log) (hdBits log) live) (sizeL live.length)) log.length (sumI log).toNat)).length = 20 := by rw [sealL_length,frontB_length]
 rw [h] at b1 b2 b3 b4 b5 b6
 have hlen : ix.length = 20 + 10 * sizeL live.length + 4 := by
  rw [<- h,List.length_append,hpl,sealL_length,tabB_length,htl]; omega
 have hbeg : beginsE log ix = 0 := by
  unfold beginsE
  rw [if_neg (by
   rintro (h1 | h1 | h1 | h1 | h1)
   ·omega
   ·rw [b5,sealL_sealed] at h1; cases h1
   ·rw [b6] at h1; simp at h1
   ·omega
   ·exact h1 (by rw [b1]; exact hlen)),if_neg (by
   rintro (h1 | h1)
   ·exact h1 b3
   ·rw [b4] at h1; omega),if_neg hh]
 have hslot : ∀ i (hi : i < (tableOf (hdSeed log) (hdBits log) live).length),slotL ix i = sltB (tableOf (hdSeed log) (hdBits log) live)[i] := by
  intro i hi
  rw [<- h]
  unfold sealL
  exact tab_slot _ _ _ hpl i hi
 refine ⟨by omega,by omega,by omega,fun x hx => ?_,fun key hk => ?_⟩
 ·have hst : Stored (tableOf (hdSeed log) (hdBits log) live) (sltOf (hdSeed log) (hdBits log) x) := (HH.all _).2 (List.mem_map.2 ⟨x,hx,rfl⟩)
  obtain ⟨p,hp⟩ := hst
  have hpl2 := (List.getElem?_eq_some_iff.1 hp).1
  have hfg := far_ge (n := sizeL live.length) (m := sizeL live.length) hp (by omega)
  obtain ⟨c,h1,h2,h3⟩ := look_there HH hslot hx hp (ixFar ix + 1) 0 (Nat.zero_le _) (by rw [htl,b2]; omega)
  refine ⟨c,?_,h2,by omega⟩
  unfold lookS
  rw [if_pos hbeg,b1,<- htl]
  exact h1
 ·obtain ⟨c,h1,h2,h3⟩ := look_not HH hslot hk (numberI (hdSeed log) (hdBits log) key).toNat (ixFar ix + 1) 0 (by omega)
  refine ⟨c,?_,h2,by omega⟩
  unfold lookS
  rw [if_pos hbeg,b1,<- htl]
  exact h1
def entB (e : Ent) : List UInt8 := (if e.put = true then 112 else 100) :: UInt8.ofNat e.key.length :: UInt8.ofNat e.val.length :: (e.key ++ e.val)
def entsB (es : List Ent) : List UInt8 := es.flatMap entB
def blockB (es : List Ent) : List UInt8 := sealL (lowL es.length 1 ++ lowL (entsB es).length 2 ++ entsB es)
def headL (blk seed bits : Nat) : List UInt8 := sealL ([76,71] ++ lowL blk 2 ++ lowL seed 4 ++ lowL bits 2)
def EntOk (e : Ent) : Prop := 1 <= e.key.length /\ e.key.length <= 20 /\ e.val.length <= 30 /\ (e.put = false -> e.val = [])
structure BlkOk (blk : Nat) (es : List Ent) : Prop where
 some : es ≠ []
 most : es.length <= 255
 ok : ∀ e ∈ es,EntOk e
 size : 1 < es.length -> (entsB es).length <= blk
theorem entB_length (e : Ent) : (entB e).length = 3 + e.key.length + e.val.length := by simp [entB]; omega
theorem entsB_snoc (es : List Ent) (e : Ent) : entsB (es ++ [e]) = entsB es ++ entB e := by simp [entsB]
theorem entsB_le {es : List Ent} (h : ∀ e ∈ es,EntOk e) : (entsB es).length <= 53 * es.length := by
 induction es with
 | nil => simp [entsB]
 | cons e es ih =>
  have h1 := h e (by simp)
  have h2 := ih (fun x hx => h x (by simp [hx]))
  have h3 : (entsB (e :: es)).length = (entB e).length + (entsB es).length := by simp [entsB]
  have := h1.2.1
  have := h1.2.2.1
  rw [h3,entB_length,List.length_cons]
  omega
theorem headL_length (blk seed bits : Nat) : (headL blk seed bits).length = 14 := by simp [headL,sealL_length,lowL_len]
theorem blockB_length (es : List Ent) : (blockB es).length = 7 + (entsB es).length := by simp [blockB,sealL_length,lowL_len]; omega
theorem ent1_back {e : Ent} (h : EntOk e) (post : List UInt8) : ent1 (entB e ++ post) = some (e,(entB e).length) := by
 obtain ⟨h1,h2,h3,h4⟩ := h
 obtain ⟨put,key,val⟩ := e
 simp only at h1 h2 h3 h4
 have e1 : (UInt8.ofNat key.length).toNat = key.length := by simp; omega
 have e2 : (UInt8.ofNat val.length).toNat = val.length := by simp; omega
 rw [entB_length]
 show ent1 ((if put = true then 112 else 100) :: UInt8.ofNat key.length :: UInt8.ofNat val.length :: (key ++ val ++ post)) = _
 rw [ent1,e1,e2,if_neg (by rw [List.length_append,List.length_append]; omega)]
 have t1 : (key ++ val ++ post).take key.length = key := by rw [List.append_assoc,List.take_append_of_le_length (by omega),List.take_of_length_le (by omega)]
 have t2 : ((key ++ val ++ post).drop key.length).take val.length = val := by rw [List.append_assoc,List.drop_left,List.take_append_of_le_length (by omega),List.take_of_length_le (by omega)]
 rw [t1,t2]
 cases put
 ·have hv : val = [] := h4 rfl
  subst hv
  rw [if_neg (by decide),if_pos (by exact ⟨by decide,rfl⟩)]
  simp
 ·rw [if_pos (by decide)]
theorem ents_back {es : List Ent} (h : ∀ e ∈ es,EntOk e) : ents (entsB es) = some es := by
 induction es with
 | nil => rfl
 | cons e es ih =>
  have h1 : entsB (e :: es) = entB e ++ entsB es := by simp [entsB]
  rw [h1,ents_some (ent1_back (h e (by simp)) _),List.drop_left,ih (fun x hx => h x (by simp [hx]))]
  rfl
theorem drop_pre {α : Type} (pre l : List α) (k j : Nat) (h : pre.length = k) : (pre ++ l).drop (k + j) = l.drop j := by
 rw [<- h,<- List.drop_drop,List.drop_left]
theorem block_size {es : List Ent} (pre post : List UInt8) (h : (entsB es).length < 65536) : blkSize (pre ++ (blockB es ++ post)) pre.length = (entsB es).length := by
 unfold blkSize
 rw [drop_pre _ _ _ _ rfl]
 have e : blockB es ++ post = lowL es.length 1 ++ (lowL (entsB es).length 2 ++ (entsB es ++ (lowL (crcN (lowL es.length 1 ++ lowL (entsB es).length 2 ++ entsB es)) 4 ++ post))) := by simp [blockB,sealL]
 rw [e,low_cut _ _ _ 1 2 (lowL_len _ _) (lowL_len _ _),highL_lowL _ _ (by omega)]
theorem block_back {blk : Nat} {es : List Ent} (h : BlkOk blk es) (pre post : List UInt8) (hp : 14 <= pre.length) : blockP (pre ++ (blockB es ++ post)) pre.length blk = some (es,(blockB es).length) := by
 have hle := entsB_le h.ok
 have hm := h.most
 have hs := block_size (es := es) pre post (by omega)
 have hl := blockB_length es
 have hlen : (pre ++ (blockB es ++ post)).length = pre.length + (7 + (entsB es).length + post.length) := by simp [hl]
 unfold blockP
 rw [hs,if_neg (by omega),if_neg (by omega)]
 have c1 : ((pre ++ (blockB es ++ post)).drop pre.length).take (7 + (entsB es).length) = blockB es := by
  rw [List.drop_left,List.take_append_of_le_length (by omega),List.take_of_length_le (by omega)]
 have c2 : ((pre ++ (blockB es ++ post)).drop (pre.length + 3)).take (entsB es).length = entsB es := by
  rw [drop_pre _ _ _ _ rfl]
  have e : blockB es ++ post = (lowL es.length 1 ++ lowL (entsB es).length 2) ++ (entsB es ++ (lowL (crcN (lowL es.length 1 ++ lowL (entsB es).length 2 ++ entsB es)) 4 ++ post)) := by simp [blockB,sealL]
  rw [e,low_cut _ _ _ 3 _ (by simp [lowL_len]) rfl]
 have c3 : ((pre ++ (blockB es ++ post)).getD pre.length 0).toNat = es.length := by
  rw [List.getD_eq_getElem?_getD,List.getElem?_append_right (Nat.le_refl _),Nat.sub_self]
  have e : blockB es ++ post = UInt8.ofNat (es.length % 256) :: (lowL (entsB es).length 2 ++ (entsB es ++ (lowL (crcN (lowL es.length 1 ++ lowL (entsB es).length 2 ++ entsB es)) 4 ++ post))) := by simp [blockB,sealL,lowL]
  rw [e]
  simp
  omega
 rw [c1,c2,c3,ents_back h.ok,show sealedB (blockB es) = true from sealL_sealed _]
 unfold blkTail
 have hn := h.some
 have hl0 : es.length ≠ 0 := fun e => hn (List.length_eq_zero_iff.1 e)
 simp only
 rw [if_neg (by
  rintro (h1 | h1 | ⟨h1,h2⟩)
  ·exact hl0 h1
  ·exact h1 rfl
  ·have := h.size h1
   omega),hl]
theorem block_cut {blk : Nat} {es : List Ent} (h : BlkOk blk es) (pre : List UInt8) {m : Nat} (hm : m < (blockB es).length) : blockP (pre ++ (blockB es).take m) pre.length blk = none := by
 have hle := entsB_le h.ok
 have hmo := h.most
 have hl := blockB_length es
 unfold blockP
 by_cases h7 : m < 7
 ·rw [if_pos (.inr (by simp; omega))]
 ·have hs : blkSize (pre ++ (blockB es).take m) pre.length = (entsB es).length := by
   have e1 : (pre ++ (blockB es).take m).drop (pre.length + 1) = ((blockB es).take m).drop 1 := drop_pre _ _ _ _ rfl
   have e2 : (pre ++ (blockB es ++ [])).drop (pre.length + 1) = (blockB es).drop 1 := by rw [drop_pre _ _ _ _ rfl,List.append_nil]
   have e3 := block_size (es := es) pre [] (by omega)
   unfold blkSize at e3 ⊢
   rw [e2] at e3
   rw [e1,List.drop_take,List.take_take,Nat.min_eq_left (by omega),e3]
  rw [hs]
  by_cases h14 : pre.length < 14 \/ (pre ++ (blockB es).take m).length < pre.length + 7
  ·rw [if_pos h14]
  ·rw [if_neg h14,if_pos (by simp; omega)]
def blocksB (bs : List (List Ent)) : List UInt8 := bs.flatMap blockB
def sdsB : Nat -> List (List Ent) -> List Sd
 | _,[] => []
 | a,es :: bs => saids a 0 es ++ sdsB (a + (blockB es).length) bs
theorem blocksB_cons (es : List Ent) (bs : List (List Ent)) : blocksB (es :: bs) = blockB es ++ blocksB bs := by simp [blocksB]
theorem blocksB_snoc (es : List Ent) (bs : List (List Ent)) : blocksB (bs ++ [es]) = blocksB bs ++ blockB es := by simp [blocksB]
theorem read_back {blk : Nat} (bs : List (List Ent)) (h : ∀ es ∈ bs,BlkOk blk es) (pre rest : List UInt8) (hp : 14 <= pre.length) (hr : blockP (pre ++ (blocksB bs ++ rest)) (pre.length + (blocksB bs).length) blk = none) :
  readL (pre ++ (blocksB bs ++ rest)) blk pre.length = (sdsB pre.length bs,pre.length + (blocksB bs).length) := by
 induction bs generalizing pre with
 | nil => simp only [blocksB,List.flatMap_nil,List.length_nil,Nat.add_zero] at hr ⊢; exact readL_none hr
 | cons es bs ih =>
  have hb := h es (by simp)
  have e1 : pre ++ (blocksB (es :: bs) ++ rest) = pre ++ (blockB es ++ (blocksB bs ++ rest)) := by simp [blocksB_cons]
  have e2 : pre ++ (blocksB (es :: bs) ++ rest) = (pre ++ blockB es) ++ (blocksB bs ++ rest) := by simp [blocksB_cons]
  have e3 : pre.length + (blocksB (es :: bs)).length = (pre ++ blockB es).length + (blocksB bs).length := by simp [blocksB_cons]; omega
  have hbk := block_back hb pre (blocksB bs ++ rest) hp
  rw [<- e1] at hbk
  rw [readL_some hbk]
  have := ih (fun x hx => h x (by simp [hx])) (pre ++ blockB es) (by simp; omega) (by rw [<- e2,<- e3]; exact hr)
  rw [<- e2] at this
  rw [show pre.length + (blockB es).length = (pre ++ blockB es).length by simp,this,<- e3]
  rw [sdsB]
  simp
theorem head_back {blk seed bits : Nat} (h1 : 1 <= blk) (h2 : blk <= 400) (h3 : seed <= 4294967295) (h4 : bits <= 32) (post : List UInt8) :
  headB (headL blk seed bits ++ post) = true /\ hdBlk (headL blk seed bits ++ post) = blk /\ hdSeed (headL blk seed bits ++ post) = seed /\ hdBits (headL blk seed bits ++ post) = bits := by
 have la := lowL_len blk 2
 have lb := lowL_len seed 4
 have lc := lowL_len bits 2
 have e1 : headL blk seed bits ++ post = [76,71] ++ (lowL blk 2 ++ (lowL seed 4 ++ (lowL bits 2 ++ (lowL (crcN ([76,71] ++ lowL blk 2 ++ lowL seed 4 ++ lowL bits 2)) 4 ++ post)))) := by simp [headL,sealL]
 have f1 := low_cut [76,71] (lowL blk 2) (lowL seed 4 ++ (lowL bits 2 ++ (lowL (crcN ([76,71] ++ lowL blk 2 ++ lowL seed 4 ++ lowL bits 2)) 4 ++ post))) 2 2 rfl la
 have f2 := low_cut ([76,71] ++ lowL blk 2) (lowL seed 4) (lowL bits 2 ++ (lowL (crcN ([76,71] ++ lowL blk 2 ++ lowL seed 4 ++ lowL bits 2)) 4 ++ post)) 4 4 (by simp [la]) lb
 have f3 := low_cut ([76,71] ++ lowL blk 2 ++ lowL seed 4) (lowL bits 2) (lowL (crcN ([76,71] ++ lowL blk 2 ++ lowL seed 4 ++ lowL bits 2)) 4 ++ post) 8 2 (by simp [la,lb]) lc
 have g1 : hdBlk (headL blk seed bits ++ post) = blk := by unfold hdBlk; rw [e1,f1,highL_lowL _ _ (by omega)]
 have g2 : hdSeed (headL blk seed bits ++ post) = seed := by
  unfold hdSeed
  rw [e1,show ([76,71] ++ (lowL blk 2 ++ (lowL seed 4 ++ (lowL bits 2 ++ (lowL (crcN ([76,71] ++ lowL blk 2 ++ lowL seed 4 ++ lowL bits 2)) 4 ++ post))))) = ([76,71] ++ lowL blk 2 ++ (lowL seed 4 ++ (lowL bits 2 ++ (lowL (crcN ([76,71] ++ lowL blk 2 ++ lowL seed 4 ++ lowL bits 2)) 4 ++ post)))) by simp only [List.append_assoc],f2,highL_lowL _ _ (by omega)]
 have g3 : hdBits (headL blk seed bits ++ post) = bits := by
  unfold hdBits
  rw [e1,show ([76,71] ++ (lowL blk 2 ++ (lowL seed 4 ++ (lowL bits 2 ++ (lowL (crcN ([76,71] ++ lowL blk 2 ++ lowL seed 4 ++ lowL bits 2)) 4 ++ post))))) = ([76,71] ++ lowL blk 2 ++ lowL seed 4 ++ (lowL bits 2 ++ (lowL (crcN ([76,71] ++ lowL blk 2 ++ lowL seed 4 ++ lowL bits 2)) 4 ++ post))) by simp only [List.append_assoc],f3,highL_lowL _ _ (by omega)]
 refine ⟨?_,g1,g2,g3⟩
 have hl := headL_length blk seed bits
 have t1 : (headL blk seed bits ++ post).take 14 = headL blk seed bits := by rw [List.take_append_of_le_length (by omega),List.take_of_length_le (by omega)]
 have t2 : (headL blk seed bits ++ post).take 2 = [76,71] := by rw [e1]; rfl
 unfold headB wellB
 rw [g1,g2,g3,t1,t2,show sealedB (headL blk seed bits) = true from sealL_sealed _]
 simp
 omega
structure Fl where
 text : List UInt8
 sync : Nat
structure Dk where
 room : Nat
 down : Bool
 f0 : Option Fl
 f1 : Option Fl
 f2 : Option Fl
 left : Option (Nat × Nat)
 opn : Option Nat
 waits : List Ent
def Dk.file (d : Dk) (i : Nat) : Option Fl := if i = 0 then d.f0 else if i = 1 then d.f1 else if i = 2 then d.f2 else none
def Dk.put (d : Dk) (i : Nat) (f : Option Fl) : Dk := if i = 0 then { d with f0 := f } else if i = 1 then { d with f1 := f } else if i = 2 then { d with f2 := f } else d
def lenF (f : Option Fl) : Nat := match f with | none => 0 | some f => f.text.length
def Dk.used (d : Dk) : Nat := lenF d.f0 + lenF d.f1 + lenF d.f2
def Fl.fall (keep : Nat) (f : Fl) : Fl := ⟨f.text.take (f.sync + min keep (f.text.length - f.sync)),f.sync + min keep (f.text.length - f.sync)⟩
def Dk.falls (d : Dk) (keep : Nat) : Dk := { d with down := true,f0 := d.f0.map (Fl.fall keep),f1 := d.f1.map (Fl.fall keep),f2 := d.f2.map (Fl.fall keep),left := none,opn := none,waits := [] }
def Dk.count (d : Dk) : Bool × Dk := match d.left with
 | none => (true,d)
 | some (0,k) => (false,d.falls k)
 | some (n + 1,k) => (true,{ d with left := some (n,k) })
structure St where
 tag : Nat
 i : Nat
 n : Nat
 text : List UInt8
def stMake (i : Nat) : St := ⟨0,i,0,[]⟩
def stAppend (i : Nat) (t : List UInt8) : St := ⟨1,i,0,t⟩
def stCut (i n : Nat) : St := ⟨2,i,n,[]⟩
def stSync (i : Nat) : St := ⟨3,i,0,[]⟩
def stRename (i j : Nat) : St := ⟨4,i,j,[]⟩
def stRemove (i : Nat) : St := ⟨5,i,0,[]⟩
def Dk.take (d : Dk) (s : St) : Int × Dk :=
 if s.tag = 0 then (0,d.put s.i (some ⟨[],0⟩))
 else match d.file s.i with
 | none => (2,d)
 | some f =>
  if s.tag = 1 then (if d.room < d.used + s.text.length then (6,d) else (0,d.put s.i (some ⟨f.text ++ s.text,f.sync⟩)))
  else if s.tag = 2 then (0,d.put s.i (some ⟨f.text.take s.n,min f.sync (min s.n f.text.length)⟩))
  else if s.tag = 3 then (0,d.put s.i (some ⟨f.text,f.text.length⟩))
  else if s.tag = 4 then (0,(d.put s.i none).put s.n (some f))
  else (0,d.put s.i none)
def Dk.steps (d : Dk) : List St -> Int × Dk
 | [] => (0,d)
 | s :: ss => match d.count with
  | (false,d') => (8,d')
  | (true,d') => match d'.take s with
   | (e,d'') => if e = 0 then d''.steps ss else (e,d'')
def Dk.opens (d : Dk) (blk : Nat) : Dk := { d with opn := some blk,waits := [] }
def diskD (room : Int) : Option Dk := if room < 0 \/ 100000 < room then none else some ⟨room.toNat,false,none,none,none,none,none,[]⟩
def Dk.opening (d : Dk) (blk : Nat) (ss : List St) : Int × Dk := match d.steps ss with
 | (e,d') => if e = 0 then (0,d'.opens blk) else (e,d')
def Dk.create (d : Dk) (blk seed bits : Int) : Int × Dk :=
 if wellB blk seed bits = false then (1,d)
 else if d.down = true then (7,d)
 else if d.f0.isSome = true then (5,d)
 else d.opening blk.toNat [stMake 0,stAppend 0 (headL blk.toNat seed.toNat bits.toNat),stSync 0]
def Dk.write (d : Dk) : Int × Dk := match d.steps [stAppend 0 (blockB d.waits)] with
 | (e,d') => if e = 0 then (0,{ d' with waits := [] }) else (e,d')
def Dk.fits (d : Dk) (blk : Nat) (e : Ent) : Bool := d.waits.isEmpty || (decide (d.waits.length < 255) && decide ((entsB d.waits).length + (entB e).length <= blk))
def Dk.add (d : Dk) (e : Ent) : Int × Dk :=
 if e.key.length < 1 \/ 20 < e.key.length \/ 30 < e.val.length then (1,d)
 else if d.down = true then (7,d)
 else match d.opn with
 | none => (2,d)
 | some blk =>
  if d.fits blk e = true then (0,{ d with waits := d.waits ++ [e] })
  else match d.write with
  | (r,d') => if r = 0 then (0,{ d' with waits := d'.waits ++ [e] }) else (r,d')
def Dk.flush (d : Dk) : Int × Dk :=
 if d.down = true then (7,d)
 else match d.opn with
 | none => (2,d)
 | some _ =>
  if d.waits.isEmpty = true then d.steps [stSync 0]
  else match d.write with
  | (r,d') => if r = 0 then d'.steps [stSync 0] else (r,d')
def Dk.build (d : Dk) : Int × Dk :=
 if d.down = true then (7,d)
 else match d.f0 with
 | none => (2,d)
 | some f => match indexS f.text with
  | none => (3,d)
  | some ix => d.steps [stMake 1,stAppend 1 ix,stSync 1,stRename 1 2]
def Dk.both (d : Dk) : Option (List UInt8 × List UInt8) := match d.f0,d.f2 with
 | some f,some g => some (f.text,g.text)
 | _,_ => none
def Dk.get (d : Dk) (key : List UInt8) : List UInt8 × Int :=
 if d.down = true then ([],7)
 else match d.both with
 | none => ([],2)
 | some (log,ix) => ((lookS log ix key).val,(lookS log ix key).err)
def saidE (log ix : List UInt8) : Int := if beginsE log ix ≠ 0 then beginsE log ix else if indexS log = some ix then 0 else 3
def Dk.all (d : Dk) (called : Bool) : List Sd × Int :=
 if d.down = true then ([],7)
 else match d.both with
 | none => ([],2)
 | some (log,ix) => if saidE log ix = 0 then (if called = true then [] else liveL (readL log (hdBlk log) 14).1,0) else ([],saidE log ix)
def Dk.fail (d : Dk) (steps keep : Int) : Int × Dk :=
 if steps < 0 \/ keep < 0 then (1,d)
 else if d.down = true then (7,d)
 else if steps = 0 then (0,d.falls keep.toNat)
 else (0,{ d with left := some (steps.toNat,keep.toNat) })
def Dk.start (d : Dk) : Int × Dk := if d.down = true then (0,{ d with down := false }) else (1,d)
def Dk.mending (d : Dk) (log : List UInt8) : List St :=
  (if (readL log (hdBlk log) 14).2 < log.length then [stCut 0 (readL log (hdBlk log) 14).2] else []) ++ [stSync 0] ++
  (match d.f2 with
   | none => []
   | some g => if saidE (log.take (readL log (hdBlk log) 14).2) g.text = 0 then [] else [stRemove 2])
def Dk.mend (d : Dk) : Int × Dk :=
 if d.down = true then (7,d)
 else match d.f0 with
 | none => (2,d)
 | some f => if headB f.text = false then (3,d) else d.opening (hdBlk f.text) (d.mending f.text)
def nameN (name : List UInt8) : Nat := if name = [108,111,103] then 0 else if name = [110,101,119] then 1 else if name = [105,110,100,101,120] then 2 else 3
def Dk.fileR (d : Dk) (name : List UInt8) : List UInt8 × Int :=
 if d.down = true then ([],7)
 else match d.file (nameN name) with
 | none => ([],2)
 | some f => (f.text,0)
structure DkOk (d : Dk) : Prop where
 room : d.room <= 100000
 used : d.used <= d.room
 sync : ∀ i f,d.file i = some f -> f.sync <= f.text.length
 opn : ∀ blk,d.opn = some blk -> d.f0.isSome = true /\ 1 <= blk /\ blk <= 400 /\ d.down = false
 waits : d.opn = none -> d.waits = []
 ents : ∀ e ∈ d.waits,EntOk e
 most : d.waits.length <= 255
 size : ∀ blk,d.opn = some blk -> 1 < d.waits.length -> (entsB d.waits).length <= blk
theorem index_begins {log ix : List UInt8} (h : indexS log = some ix) : beginsE log ix = 0 := by
 unfold indexS at h
 split at h
 ·cases h
 rename_i hl
 split at h
 ·cases h
 rename_i hh
 split at h
 ·cases h
 split at h
 ·cases h
 rename_i h2
 have h := Option.some.inj h
 generalize liveL (readL log (hdBlk log) 14).1 = live at *
 have hsz := sizeL_bound (n := live.length) (by omega)
 have hbig := sizeL_big (n := live.length) (by omega)
 have htl : (tableOf (hdSeed log) (hdBits log) live).length = sizeL live.length := fillL_length _ _
 have hfar := farP_lt (n := sizeL live.length) (by omega) (tableOf (hdSeed log) (hdBits log) live) (sizeL live.length)
 have hs := sumI_lt log
 unfold indexB at h
 obtain ⟨b1,b2,b3,b4,b5,b6⟩ := front_back (a := live.length) (b := sizeL live.length) (c := farP (sizeL live.length) (tableOf (hdSeed log) (hdBits log) live) (sizeL live.length)) (d := log.length) (e := (sumI log).toNat) (sealL (tabB (tableOf (hdSeed log) (hdBits log) live))) (by omega) (by omega) (by omega) (by omega)
 have hpl : (sealL (frontB live.length (sizeL live.length) (farP (sizeL live.length) (tableOf (hdSeed log) (hdBits log) live) (sizeL live.length)) log.length (sumI log).toNat)).length = 20 := by rw [sealL_length,frontB_length]
 rw [h] at b1 b2 b3 b4 b5 b6
 have hlen : ix.length = 20 + 10 * sizeL live.length + 4 := by
  rw [<- h,List.length_append,hpl,sealL_length,tabB_length,htl]; omega
 unfold beginsE
 rw [if_neg (by
  rintro (h1 | h1 | h1 | h1 | h1)
  ·omega
  ·rw [b5,sealL_sealed] at h1; cases h1
  ·rw [b6] at h1; simp at h1
  ·omega
  ·exact h1 (by rw [b1]; exact hlen)),if_neg (by
  rintro (h1 | h1)
  ·exact h1 b3
  ·rw [b4] at h1; omega),if_neg hh]
theorem said_zero (log ix : List UInt8) : saidE log ix = 0 ↔ indexS log = some ix := by
 unfold saidE
 constructor
 ·intro h
  split at h
  ·rename_i h1; exact absurd h h1
  ·split at h
   ·assumption
   ·cases h
 ·intro h
  rw [if_neg (by rw [index_begins h]; simp),if_pos h]
def StFine (s : St) : Prop := (s.tag = 4 -> s.i ≠ 0) /\ (s.tag = 5 -> s.i ≠ 0) /\ s.tag <= 5
theorem dk_cases (d : Dk) (i : Nat) (f : Option Fl) : (i = 0 /\ d.put i f = { d with f0 := f }) \/ (i = 1 /\ d.put i f = { d with f1 := f }) \/ (i = 2 /\ d.put i f = { d with f2 := f }) \/ (3 <= i /\ d.put i f = d) := by
 unfold Dk.put
 by_cases h0 : i = 0
 ·left; simp [h0]
 ·by_cases h1 : i = 1
  ·right; left; simp [h1]
  ·by_cases h2 : i = 2
   ·right; right; left; simp [h2]
   ·right; right; right; simp [h0,h1,h2]; omega
theorem file_put (d : Dk) (i j : Nat) (f : Option Fl) (hi : i <= 2) : (d.put i f).file j = if j = i then f else d.file j := by
 rcases dk_cases d i f with ⟨rfl,h⟩ | ⟨rfl,h⟩ | ⟨rfl,h⟩ | ⟨h3,_⟩
 ·rw [h]; unfold Dk.file; by_cases h0 : j = 0 <;> simp [h0]
 ·rw [h]; unfold Dk.file; by_cases h0 : j = 0 <;> by_cases h1 : j = 1 <;> simp [h0,h1]
 ·rw [h]; unfold Dk.file; by_cases h0 : j = 0 <;> by_cases h1 : j = 1 <;> by_cases h2 : j = 2 <;> simp [h0,h1,h2]
 ·omega
theorem file_le {d : Dk} {i : Nat} {f : Fl} (h : d.file i = some f) : i <= 2 := by
 unfold Dk.file at h
 split at h
 ·omega
 ·split at h
  ·omega
  ·split at h
   ·omega
   ·cases h
theorem used_put (d : Dk) (i : Nat) (f : Option Fl) (hi : i <= 2) : (d.put i f).used + lenF (d.file i) = d.used + lenF f := by
 rcases dk_cases d i f with ⟨rfl,h⟩ | ⟨rfl,h⟩ | ⟨rfl,h⟩ | ⟨h3,_⟩
 ·rw [h]; unfold Dk.used Dk.file; simp; omega
 ·rw [h]; unfold Dk.used Dk.file; simp; omega
 ·rw [h]; unfold Dk.used Dk.file; simp; omega
 ·omega
theorem put_same (d : Dk) (i : Nat) (f : Option Fl) : (d.put i f).room = d.room /\ (d.put i f).down = d.down /\ (d.put i f).left = d.left /\ (d.put i f).opn = d.opn /\ (d.put i f).waits = d.waits := by
 rcases dk_cases d i f with ⟨rfl,h⟩ | ⟨rfl,h⟩ | ⟨rfl,h⟩ | ⟨h3,h⟩ <;> rw [h] <;> exact ⟨rfl,rfl,rfl,rfl,rfl⟩
theorem file_0 (d : Dk) : d.file 0 = d.f0 := rfl
theorem file_2 (d : Dk) : d.file 2 = d.f2 := rfl
theorem file_1 (d : Dk) : d.file 1 = d.f1 := rfl
theorem DkOk.put {d : Dk} (h : DkOk d) {i : Nat} (hi : i <= 2) {f : Option Fl} (hu : lenF f + d.used <= d.room + lenF (d.file i)) (hs : ∀ g,f = some g -> g.sync <= g.text.length) (h0 : i = 0 -> f.isSome = true) : DkOk (d.put i f) := by
 obtain ⟨p1,p2,p3,p4,p5⟩ := put_same d i f
 have hup := used_put d i f hi
 refine ⟨by rw [p1]; exact h.room,by rw [p1]; omega,fun j g hj => ?_,fun blk hb => ?_,?_,?_,?_,?_⟩
 ·rw [file_put d i j f hi] at hj
  split at hj
  ·exact hs g hj
  ·exact h.sync j g hj
 ·rw [p4] at hb
  obtain ⟨a,b,c,e⟩ := h.opn blk hb
  refine ⟨?_,b,c,by rw [p2]; exact e⟩
  rw [<- file_0,file_put d i 0 f hi]
  split
  ·rename_i e0; exact h0 e0.symm
  ·exact a
 ·rw [p4,p5]; exact h.waits
 ·rw [p5]; exact h.ents
 ·rw [p5]; exact h.most
 ·rw [p4,p5]; exact h.size
theorem fall_len (k : Nat) (f : Option Fl) : lenF (f.map (Fl.fall k)) <= lenF f := by
 cases f with
 | none => exact Nat.le_refl _
 | some f => simp [lenF,Fl.fall]; omega
theorem DkOk.falls {d : Dk} (h : DkOk d) (k : Nat) : DkOk (d.falls k) := by
 have l0 := fall_len k d.f0
 have l1 := fall_len k d.f1
 have l2 := fall_len k d.f2
 have hu := h.used
 refine ⟨h.room,?_,fun i f hf => ?_,(fun blk hb => by cases hb),fun _ => rfl,(fun e he => by cases he),by simp [Dk.falls],(fun blk hb => by cases hb)⟩
 ·unfold Dk.used at hu ⊢
  show lenF (d.f0.map _) + lenF (d.f1.map _) + lenF (d.f2.map _) <= d.room
  omega
 ·have e : (d.falls k).file i = (d.file i).map (Fl.fall k) := by
   unfold Dk.file Dk.falls
   split
   ·rfl
   ·split
    ·rfl
    ·split
     ·rfl
     ·rfl
  rw [e] at hf
  cases hg : d.file i with
  | none => rw [hg] at hf; cases hf
  | some g =>
   rw [hg] at hf
   simp at hf
   have := h.sync i g hg
   subst hf
   simp [Fl.fall]
   omega
theorem DkOk.count {d : Dk} (h : DkOk d) : DkOk d.count.2 := by
 unfold Dk.count
 split
 ·exact h
 ·exact h.falls _
 ·exact ⟨h.room,h.used,h.sync,h.opn,h.waits,h.ents,h.most,h.size⟩
theorem DkOk.take {d : Dk} (h : DkOk d) {s : St} (hs : StFine s) : DkOk (d.take s).2 := by
 have hu := h.used
 unfold Dk.take
 split
 ·rename_i ht
  by_cases hi : s.i <= 2
  ·exact h.put hi (by simp [lenF]; omega) (fun g e => by cases e; exact Nat.le_refl _) (fun _ => rfl)
  ·rcases dk_cases d s.i (some ⟨[],0⟩) with ⟨e,_⟩ | ⟨e,_⟩ | ⟨e,_⟩ | ⟨_,e⟩
   ·omega
   ·omega
   ·omega
   ·show DkOk (d.put s.i (some ⟨[],0⟩))
    rw [e]; exact h
 ·split
  ·exact h
  ·rename_i f hf
   have hi := file_le hf
   have hsy := h.sync _ _ hf
   have hlf : lenF (d.file s.i) = f.text.length := by rw [hf]; rfl
   split
   ·split
    ·exact h
    ·exact h.put hi (by rw [hlf]; simp [lenF]; omega) (fun g e => by cases e; simp; omega) (fun _ => rfl)
   ·split
    ·exact h.put hi (by rw [hlf]; simp [lenF]; omega) (fun g e => by cases e; simp; omega) (fun _ => rfl)
    ·split
     ·exact h.put hi (by rw [hlf]; simp [lenF]; omega) (fun g e => by cases e; exact Nat.le_refl _) (fun _ => rfl)
     ·split
      ·rename_i ht
       have h1 : DkOk (d.put s.i none) := h.put hi (by simp [lenF]; omega) (fun g e => by cases e) (fun e => absurd e (hs.1 ht))
       have u1 := used_put d s.i none hi
       rw [hlf] at u1
       simp only [lenF] at u1
       by_cases hn : s.n <= 2
       ·obtain ⟨p1,_⟩ := put_same d s.i none
        exact h1.put hn (by rw [p1]; simp [lenF]; omega) (fun g e => by cases e; exact hsy) (fun _ => rfl)
       ·rcases dk_cases (d.put s.i none) s.n (some f) with ⟨e,_⟩ | ⟨e,_⟩ | ⟨e,_⟩ | ⟨_,e⟩
        ·omega
        ·omega
        ·omega
        ·show DkOk ((d.put s.i none).put s.n (some f))
         rw [e]; exact h1
      ·exact h.put hi (by simp [lenF]; omega) (fun g e => by cases e) (fun e => absurd e (hs.2.1 (by have := hs.2.2; omega)))
theorem DkOk.steps {d : Dk} (h : DkOk d) (ss : List St) (hs : ∀ s ∈ ss,StFine s) : DkOk (d.steps ss).2 := by
 induction ss generalizing d with
 | nil => exact h
 | cons s ss ih =>
  have hc := h.count
  rw [Dk.steps]
  split
  ·rename_i d' e; rw [e] at hc; exact hc
  ·rename_i d' e
   rw [e] at hc
   have ht := DkOk.take hc (hs s (by simp))
   simp only at ht
   cases hk : d'.take s with
   | mk r d'' =>
    rw [hk] at ht
    simp only at ht ⊢
    split
    ·exact ih ht (fun x hx => hs x (by simp [hx]))
    ·exact ht
theorem take_same {d : Dk} (s : St) : (d.take s).2.down = d.down /\ (d.take s).2.opn = d.opn /\ (d.take s).2.waits = d.waits /\ (d.take s).2.room = d.room /\ (d.take s).2.left = d.left := by
 unfold Dk.take
 split
 ·obtain ⟨p1,p2,p3,p4,p5⟩ := put_same d s.i (some ⟨[],0⟩); exact ⟨p2,p4,p5,p1,p3⟩
 ·split
  ·exact ⟨rfl,rfl,rfl,rfl,rfl⟩
  ·rename_i f _
   split
   ·split
    ·exact ⟨rfl,rfl,rfl,rfl,rfl⟩
    ·obtain ⟨p1,p2,p3,p4,p5⟩ := put_same d s.i (some ⟨f.text ++ s.text,f.sync⟩); exact ⟨p2,p4,p5,p1,p3⟩
   ·split
    ·obtain ⟨p1,p2,p3,p4,p5⟩ := put_same d s.i (some ⟨f.text.take s.n,min f.sync (min s.n f.text.length)⟩); exact ⟨p2,p4,p5,p1,p3⟩
    ·split
     ·obtain ⟨p1,p2,p3,p4,p5⟩ := put_same d s.i (some ⟨f.text,f.text.length⟩); exact ⟨p2,p4,p5,p1,p3⟩
     ·split
      ·obtain ⟨p1,p2,p3,p4,p5⟩ := put_same d s.i none
       obtain ⟨q1,q2,q3,q4,q5⟩ := put_same (d.put s.i none) s.n (some f)
       exact ⟨q2.trans p2,q4.trans p4,q5.trans p5,q1.trans p1,q3.trans p3⟩
      ·obtain ⟨p1,p2,p3,p4,p5⟩ := put_same d s.i none; exact ⟨p2,p4,p5,p1,p3⟩
theorem count_same {d : Dk} (h : d.count.1 = true) : d.count.2.down = d.down /\ d.count.2.opn = d.opn /\ d.count.2.waits = d.waits /\ d.count.2.room = d.room /\ d.count.2.f0 = d.f0 /\ d.count.2.f1 = d.f1 /\ d.count.2.f2 = d.f2 := by
 unfold Dk.count at h ⊢
 split at h
 ·exact ⟨rfl,rfl,rfl,rfl,rfl,rfl,rfl⟩
 ·cases h
 ·exact ⟨rfl,rfl,rfl,rfl,rfl,rfl,rfl⟩
theorem steps_same {d : Dk} (ss : List St) : ((d.steps ss).1 ≠ 8 -> (d.steps ss).2.down = d.down /\ (d.steps ss).2.opn = d.opn /\ (d.steps ss).2.waits = d.waits) /\ ((d.steps ss).1 = 8 -> (d.steps ss).2.down = true /\ (d.steps ss).2.opn = none /\ (d.steps ss).2.waits = []) := by
 induction ss generalizing d with
 | nil => exact ⟨fun _ => ⟨rfl,rfl,rfl⟩,fun h => by simp [Dk.steps] at h⟩
 | cons s ss ih =>
  rw [Dk.steps]
  cases hc : d.count with
  | mk b d' =>
   cases b with
   | false =>
    simp only
    refine ⟨fun h => absurd rfl h,fun _ => ?_⟩
    unfold Dk.count at hc
    split at hc
    ·cases hc
    ·cases hc; exact ⟨rfl,rfl,rfl⟩
    ·cases hc
   | true =>
    simp only
    have c := count_same (d := d) (by rw [hc])
    rw [hc] at c
    obtain ⟨c1,c2,c3,_⟩ := c
    obtain ⟨t1,t2,t3,_⟩ := take_same (d := d') s
    cases ht : d'.take s with
    | mk e d'' =>
     rw [ht] at t1 t2 t3
     simp only at *
     split
     ·obtain ⟨i1,i2⟩ := ih (d := d'')
      exact ⟨fun h => by obtain ⟨a,b,c⟩ := i1 h; exact ⟨a.trans (t1.trans c1),b.trans (t2.trans c2),c.trans (t3.trans c3)⟩,i2⟩
     ·refine ⟨fun _ => ⟨t1.trans c1,t2.trans c2,t3.trans c3⟩,fun h => ?_⟩
      exfalso
      simp only at h
      subst h
      have : (d'.take s).1 = 0 \/ (d'.take s).1 = 2 \/ (d'.take s).1 = 6 := by
       unfold Dk.take
       split
       ·exact .inl rfl
       ·split
        ·exact .inr (.inl rfl)
        ·split
         ·split
          ·exact .inr (.inr rfl)
          ·exact .inl rfl
         ·split
          ·exact .inl rfl
          ·split
           ·exact .inl rfl
           ·split
            ·exact .inl rfl
            ·exact .inl rfl
      rw [ht] at this
      simp at this
end Go.Proofs.YtdhgebdbiehchaaGreatDoor
