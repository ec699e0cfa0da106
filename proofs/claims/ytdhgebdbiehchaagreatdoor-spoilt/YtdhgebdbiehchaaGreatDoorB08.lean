/- On the way: RefEnts, RefBlock, RefBegins, Sums, Law, Given, Plays, Burst, Tab, Look, Found. -/
import Derived.Test.YtdhgebdbiehchaaGreatDoorB07
import Derived.Deep.DeepMust
import Derived.Test.YtdhgebdbiehchaaGreatDoorB06
import Derived.Laws.BitsAllLaws
import Derived.Test.YtdhgebdbiehchaaGreatDoorB03
import Derived.Test.YtdhgebdbiehchaaGreatDoorB05
namespace Go.Proofs.YtdhgebdbiehchaaGreatDoor
open Go.RowKit
set_option linter.unusedSimpArgs false
set_option linter.unusedVariables false
set_option maxRecDepth 100000
set_option maxHeartbeats 1600000
theorem own_below {w w' : World} {base e size n m : Nat} {v : Value} {xs : List Value} (h : w.ownsRow base e size v n xs) (hb : Below m w w') (hm : w.heap.size <= m) : w'.ownsRow base e size v n xs := by
 obtain ⟨h1,h2⟩ := h
 refine ⟨h1,?_⟩
 rcases h2 with h2 | ⟨g,cap,cur,hv,hg,hh,r⟩
 ·exact .inl h2
 ·have hl : g < w.heap.size := (Array.getElem?_eq_some_iff.1 hh).1
  exact .inr ⟨g,cap,cur,hv,hg,(hb.block g (by omega)).trans hh,r⟩
theorem cells_three_new (w : World) (t : TypeId) (a b c : Value) : ∀ j u,[a,b,c][j]? = some u -> (w.alloc (.cells #[a,b,c] t)).cell? ((⟨w.heap.size,0,none⟩ : Addr).add j) = some u := by
 intro j u hj
 match j,hj with
 | 0,hj => simp at hj; subst hj; simp [Addr.add]
 | 1,hj => simp at hj; subst hj; simp [Addr.add]
 | 2,hj => simp at hj; subst hj; simp [Addr.add]
theorem own_len {w : World} {base e size n : Nat} {v : Value} {xs : List Value} (h : w.ownsRow base e size v n xs) : ∃ p c,v = .slice p n c := by
 rcases h.2 with ⟨rfl,rfl⟩ | ⟨g,cap,cur,rfl,_⟩
 ·exact ⟨none,0,rfl⟩
 ·exact ⟨_,_,rfl⟩
theorem own_lower {w : World} {base base' e size n : Nat} {v : Value} {xs : List Value} (h : w.ownsRow base e size v n xs) (hb : base' <= base) : w.ownsRow base' e size v n xs := by
 obtain ⟨h1,h2⟩ := h
 refine ⟨h1,?_⟩
 rcases h2 with h2 | ⟨g,cap,cur,hv,hg,r⟩
 ·exact .inl h2
 ·exact .inr ⟨g,cap,cur,hv,Nat.le_trans hb hg,r⟩
def ixN (l : List UInt8) : Nat := highL ((l.drop 4).take 2)
def ixSize (l : List UInt8) : Nat := highL ((l.drop 8).take 4)
def ixSum (l : List UInt8) : Nat := highL ((l.drop 12).take 4)
def sumI (l : List UInt8) : Int := fnv F0 l % 4294967296
def beginsE (log ix : List UInt8) : Int :=
 if ix.length < 20 \/ sealedB (ix.take 20) = false \/ (ix.take 2 == [73,88]) = false \/ ixN ix = 0 \/ ix.length ≠ 20 + 10 * ixN ix + 4 then 3
 else if ixSize ix ≠ log.length \/ (ixSum ix : Int) ≠ sumI log then 4
 else if headB log = false then 3
 else 0
def Two (w wx : World) : Prop :=
 ((wx.cell? ⟨w.heap.size,0,none⟩ = some (.int .i64 0) /\ wx.cell? ⟨w.heap.size,1,none⟩ = some (.int .i64 0) /\ wx.cell? ⟨w.heap.size,2,none⟩ = some (.int .i64 0)) /\
 (wx.cell? ⟨w.heap.size + 1,0,none⟩ = some (.int .i64 0) /\ wx.cell? ⟨w.heap.size + 1,1,none⟩ = some (.int .i64 0) /\ wx.cell? ⟨w.heap.size + 1,2,none⟩ = some (.int .i64 0)) /\
 (wx.frozen? ⟨w.heap.size,0,none⟩ = false /\ wx.frozen? ⟨w.heap.size,1,none⟩ = false /\ wx.frozen? ⟨w.heap.size,2,none⟩ = false)) /\ Below w.heap.size w wx /\ w.heap.size + 1 < wx.heap.size
theorem Two.below {w wx wy : World} (h : Two w wx) (hb : Below wx.heap.size wx wy) : Two w wy := by
 obtain ⟨⟨⟨a0,a1,a2⟩,⟨b0,b1,b2⟩,c0,c1,c2⟩,h1,h2⟩ := h
 have f : ∀ b i v,b < wx.heap.size -> wx.cell? ⟨b,i,none⟩ = some v -> wy.cell? ⟨b,i,none⟩ = some v := fun b i v hl hv => (hb.cell (p := ⟨b,i,none⟩) hl).trans hv
 have g : ∀ i,wx.frozen? ⟨w.heap.size,i,none⟩ = false -> wy.frozen? ⟨w.heap.size,i,none⟩ = false := fun i hv => (hb.frozen (p := ⟨w.heap.size,i,none⟩) (by show w.heap.size < _; omega)).trans hv
 exact ⟨⟨⟨f _ _ _ (by omega) a0,f _ _ _ (by omega) a1,f _ _ _ (by omega) a2⟩,⟨f _ _ _ h2 b0,f _ _ _ h2 b1,f _ _ _ h2 b2⟩,g _ c0,g _ c1,g _ c2⟩,h1.trans (hb.mono (by omega)),Nat.lt_of_lt_of_le h2 hb.size⟩
theorem highL4 (l : List UInt8) (h : l.length <= 4) : highL l < 4294967296 := by
 have := highL_lt l
 have h4 := pow256_le h
 omega
def HalvesAt (w : World) : Prop := 6 < w.heap.size /\ ∀ i,i < 16 -> w.cell? ⟨6,i,none⟩ = some (.int .u32 (halvesL.getD i 0 : Nat))
theorem HalvesAt.below {w w' : World} {n : Nat} (h : HalvesAt w) (hb : Below n w w') (hn : 6 < n) : HalvesAt w' :=
 ⟨Nat.lt_of_lt_of_le h.1 hb.size,fun i hi => (hb.cell (p := ⟨6,i,none⟩) hn).trans (h.2 i hi)⟩
theorem or_shift (x j : Nat) (b : Nat) (hx : x < 256 ^ j) : x ||| b * 2 ^ (8 * j) = x + b * 256 ^ j := by
 have e : (256 : Nat) ^ j = 2 ^ (8 * j) := by rw [Nat.pow_mul]
 rw [e] at hx ⊢
 have := Nat.two_pow_add_eq_or_of_lt hx b
 rw [Nat.or_comm,Nat.mul_comm b,<- this,Nat.add_comm]
theorem i64_or_nat (a b : Nat) (ha : a < 9223372036854775808) (hb : b < 9223372036854775808) : bits .or .i64 (a : Int) (b : Int) = ((a ||| b : Nat) : Int) := by
 have hx : a ||| b < 2 ^ 63 := Nat.or_lt_two_pow (by omega) (by omega)
 show IntKind.i64.wrap ((BitVec.ofInt 64 (a : Int) ||| BitVec.ofInt 64 (b : Int)).toNat : Int) = _
 rw [BitVec.toNat_or,ofInt_64 a ha,ofInt_64 b hb,IntKind.wrap_i64]
 omega
theorem highL_snoc (l : List UInt8) (b : UInt8) : highL (l ++ [b]) = highL l + b.toNat * 256 ^ l.length := by
 induction l with
 | nil => simp [highL]
 | cons c l ih =>
  show c.toNat + 256 * highL (l ++ [b]) = c.toNat + 256 * highL l + b.toNat * 256 ^ (l.length + 1)
  rw [ih,Nat.mul_add,Nat.pow_succ,<- Nat.add_assoc]
  congr 1
  rw [<- Nat.mul_assoc,Nat.mul_comm 256,Nat.mul_assoc,Nat.mul_comm 256]
theorem lowRead_any (s : ByteArray) (w : World) (hs : s.size <= 7) :
  Calls Tryz.prog 145 #[.string s] w fun e w' => e = .returned (.int .i64 (highL s.data.toList : Nat)) /\ w' = w := by
 have hl : s.data.toList.length = s.size := by simp
 go_enter Tryz.func145,Tryz.ntmps145
 go_wp2
 go_loop [3,7] (fun n i => ∃ (k : Nat),k <= s.size /\ i = .int .i64 k /\ n = .int .i64 (highL (s.data.toList.take k) : Nat)) (fun _ i => s.size - (intOf i).toNat)
 case atStart => exact ⟨0,Nat.zero_le _,rfl,rfl⟩
 case round =>
  obtain ⟨k,hk,rfl,rfl⟩ := hrel
  by_cases hlt : k < s.size
  ·have hlk : (s.data.toList.take k).length = k := by simp; omega
   have HS : Hid (highL (s.data.toList.take (k + 1)) = highL (s.data.toList.take k) ||| s[k].toNat * 2 ^ (8 * k)) := by
    show _ = _
    rw [take_snocS s k hlt,highL_snoc,hlk,or_shift _ _ _ (by have := highL_lt (s.data.toList.take k); rw [hlk] at this; exact this)]
   have hb : highL (s.data.toList.take k) < 281474976710656 := by
    refine Nat.lt_of_lt_of_le (highL_lt _) ?_
    have := pow256_le (show (s.data.toList.take k).length <= 6 by omega)
    omega
   have hp : 2 ^ (8 * k) <= 281474976710656 := by
    have : 2 ^ (8 * k) <= 2 ^ 48 := Nat.pow_le_pow_right (by omega) (by omega)
    omega
   have hc := s[k].toNat_lt
   have hmul : s[k].toNat * 2 ^ (8 * k) <= 255 * 281474976710656 := Nat.mul_le_mul (by omega) hp
   have ho := i64_or_nat (highL (s.data.toList.take k)) (s[k].toNat * 2 ^ (8 * k)) (by omega) (by omega)
   have hw := w64b s[k]
   have h8 : (0 : Int) <= 8 * (k : Int) := by omega
   have h9 : 8 * (k : Int) <= 64 := by omega
   generalize highL (s.data.toList.take k) = x at *
   have hm : wrap64 ((s[k].toNat : Int) * 2 ^ (8 * k)) = ((s[k].toNat * 2 ^ (8 * k) : Nat) : Int) := by
    have : ((s[k].toNat * 2 ^ (8 * k) : Nat) : Int) = (s[k].toNat : Int) * 2 ^ (8 * k) := by simp
    rw [<- this]
    simp only [wrap64]; omega
   have HM : Hid _ := hm
   have HO : Hid _ := ho
   clear hm ho hmul hp
   go_wp2
   go_round
   case rel => exact ⟨k + 1,by omega,by go_num,by rw [HM.out,HO.out,HS.out]⟩
   case measure => simp [intOf]; omega
  ·have HS : Hid (highL (s.data.toList.take k) = highL s.data.toList) := by
    show _ = _
    rw [List.take_of_length_le (by omega)]
   generalize highL (s.data.toList.take k) = x at *
   go_wp2
   go_ret
   exact ⟨ret_int (by rw [HS.out]),rfl⟩
theorem and_15 {y : Nat} (h : y < 4294967296) : bits .and .u32 (y : Int) 15 = ((y % 16 : Nat) : Int) := by
 have := u32_and_nat y 15 h (by omega)
 rw [show ((15 : Nat) : Int) = 15 from rfl] at this
 rw [this]
 congr 1
 exact Nat.and_two_pow_sub_one_eq_mod y 4
theorem nib_xor {y : Nat} (h : y < 4294967296) : bits .xor .u32 ((y : Int) / 16) (halvesL.getD (y % 16) 0 : Nat) = (nibStep y : Nat) := by
 have e : (y : Int) / 16 = ((y / 16 : Nat) : Int) := by omega
 rw [e,u32_xor_nat _ _ (by omega) (halves_lt _ (by omega))]
 rfl
theorem check_any (s : ByteArray) (w : World) (hs : s.size <= 9223372036854775807) (hH : HalvesAt w) :
  Calls Tryz.prog 186 #[.string s] w fun e w' => e = .returned (.int .u32 (crcN s.data.toList : Nat)) /\ w' = w := by
 have HH : Hid (HalvesAt w) := hH
 clear hH
 go_enter Tryz.func186,Tryz.ntmps186
 go_wp2
 go_loop [3,7] (fun c i => ∃ (k : Nat),k <= s.size /\ i = .int .i64 k /\ c = .int .u32 (crcRun (s.data.toList.take k) : Nat)) (fun _ i => s.size - (intOf i).toNat)
 case atStart => exact ⟨0,Nat.zero_le _,rfl,rfl⟩
 case round =>
  obtain ⟨k,hk,rfl,rfl⟩ := hrel
  have hr := crcRun_lt (s.data.toList.take k)
  by_cases hlt : k < s.size
  ·have HS : Hid (crcRun (s.data.toList.take (k + 1)) = nibStep (nibStep (crcRun (s.data.toList.take k) ^^^ s[k].toNat))) := by
    show _ = _
    rw [crcRun_snocS s k hlt,nib_byte]
   have hc := s[k].toNat_lt
   have hx := u32_xor_nat (crcRun (s.data.toList.take k)) s[k].toNat (by omega) (by omega)
   generalize crcRun (s.data.toList.take k) = x at *
   have hy : x ^^^ s[k].toNat < 4294967296 := Nat.xor_lt_two_pow (n := 32) (by omega) (by omega)
   generalize x ^^^ s[k].toNat = y at *
   have hz := nibStep_lt hy
   have a1 := and_15 hy
   have a2 := and_15 hz
   have b1 : (((y % 16 : Nat) : Int)) < 16 := by omega
   have b2 : (((nibStep y % 16 : Nat) : Int)) < 16 := by omega
   have c1 := HH.out.2 (y % 16) (by omega)
   have c2 := HH.out.2 (nibStep y % 16) (by omega)
   have x1 := nib_xor hy
   have x2 := nib_xor hz
   have HY : Hid (y % 16 < 16) := Nat.mod_lt _ (by omega)
   generalize halvesL.getD (y % 16) 0 = t1 at *
   generalize halvesL.getD (nibStep y % 16) 0 = t2 at *
   generalize nibStep (nibStep y) = u at *
   generalize nibStep y = z at *
   generalize hq1 : y % 16 = q1 at *
   generalize hq2 : z % 16 = q2 at *
   clear hq1 hq2
   go_wp2
   go_round
   case rel => exact ⟨k + 1,by omega,by go_num,by rw [HS.out]⟩
   case measure => simp [intOf]; omega
  ·have HS : Hid (crcRun (s.data.toList.take k) = crcRun s.data.toList) := by
    show _ = _
    rw [List.take_of_length_le (by simp; omega)]
   have hx := u32_xor_nat (crcRun (s.data.toList.take k)) 4294967295 (by omega) (by omega)
   generalize crcRun (s.data.toList.take k) = x at *
   have HX : Hid (bits BinOp.xor IntKind.u32 IntKind.u32.max (x : Int) = ((x ^^^ 4294967295 : Nat) : Int)) := by
    show _ = _
    rw [show IntKind.u32.max = ((4294967295 : Nat) : Int) from rfl,u32_xor_nat _ _ (by omega) (by omega),Nat.xor_comm]
   go_wp2
   go_ret
   exact ⟨ret_int (by rw [HX.out,crcN,<- HS.out]),rfl⟩
theorem highL_lowL (n k : Nat) (h : n < 256 ^ k) : highL (lowL n k) = n := by
 induction k generalizing n with
 | zero => simp at h; subst h; rfl
 | succ k ih =>
  show (UInt8.ofNat (n % 256)).toNat + 256 * highL (lowL (n / 256) k) = n
  rw [ih (n / 256) (by rw [Nat.pow_succ] at h; exact Nat.div_lt_of_lt_mul (by omega)),UInt8.toNat_ofNat']
  omega
theorem lowL_highL (l : List UInt8) : lowL (highL l) l.length = l := by
 induction l with
 | nil => rfl
 | cons b l ih =>
  have := b.toNat_lt
  show UInt8.ofNat ((b.toNat + 256 * highL l) % 256) :: lowL ((b.toNat + 256 * highL l) / 256) l.length = b :: l
  rw [show (b.toNat + 256 * highL l) % 256 = b.toNat by omega,show (b.toNat + 256 * highL l) / 256 = highL l by omega,ih]
  congr 1
  simp
theorem sealed_by_number {l : List UInt8} (h : 4 <= l.length) : sealedB l = decide (highL (l.drop (l.length - 4)) = crcN (l.take (l.length - 4))) := by
 have hd : (l.drop (l.length - 4)).length = 4 := by simp; omega
 rw [Bool.eq_iff_iff]
 simp only [sealedB,h,decide_true,Bool.true_and,beq_iff_eq,decide_eq_true_eq]
 constructor
 ·intro hs
  have h2 : lowL (crcN (l.take (l.length - 4))) 4 = l.drop (l.length - 4) := by
   have e : sealL (l.take (l.length - 4)) = l.take (l.length - 4) ++ l.drop (l.length - 4) := by rw [List.take_append_drop]; exact hs
   unfold sealL at e
   exact List.append_cancel_left e
  rw [<- h2,highL_lowL _ 4 (crcN_lt _)]
 ·intro hh
  unfold sealL
  rw [<- hh]
  conv => lhs; rw [show (4 : Nat) = (l.drop (l.length - 4)).length from hd.symm]
  rw [hd,show lowL (highL (l.drop (l.length - 4))) 4 = l.drop (l.length - 4) from by have := lowL_highL (l.drop (l.length - 4)); rw [hd] at this; exact this,List.take_append_drop]
theorem holds_any (s : ByteArray) (w : World) (hs : s.size <= 9223372036854775807) (hH : HalvesAt w) :
  Calls Tryz.prog 144 #[.string s] w fun e w' => e = .returned (.bool (sealedB s.data.toList)) /\ Below w.heap.size w w' := by
 have hl : s.data.toList.length = s.size := by simp
 by_cases h4 : 4 <= s.size
 ·have HR : Hid (sealedB s.data.toList = decide (highL (s.data.toList.drop (s.size - 4)) = crcN (s.data.toList.take (s.size - 4)))) := by
   show _ = _
   rw [sealed_by_number (by omega),hl]
  have HH : Hid (HalvesAt w) := hH
  clear hH
  have i1 : (4 : Int) <= (s.size : Int) := by omega
  have i2 : (0 : Int) <= (s.size : Int) - 4 := by omega
  have d1 : decide (4 <= (s.size : Int)) = true := by simp; omega
  go_enter Tryz.func144,Tryz.ntmps144
  have c1 := cut_from s (s.size - 4) (by omega) ((s.size : Int) - 4) (by omega)
  have c2 := cut_upto s (s.size - 4) (by omega) ((s.size : Int) - 4) (by omega)
  have hl1 : (s.data.toList.drop (s.size - 4)).length = 4 := by simp; omega
  have hl2 : (s.data.toList.take (s.size - 4)).length <= s.size := by simp
  have hb1 := highL4 (s.data.toList.drop (s.size - 4)) (by omega)
  have hb2 := crcN_lt (s.data.toList.take (s.size - 4))
  generalize s.data.toList.drop (s.size - 4) = l1 at *
  generalize s.data.toList.take (s.size - 4) = l2 at *
  have z1 : (S l1).size = 4 := by rw [S_size,hl1]
  have z2 : (S l2).size <= s.size := by rw [S_size]; exact hl2
  have m1 : IntKind.i64.wrap ((crcN l2 : Nat) : Int) = ((crcN l2 : Nat) : Int) := by rw [IntKind.wrap_i64]; omega
  have HHd : Hid (HalvesAt w.drew) := HH.out.below (Below.refl w.heap.size w).drew HH.out.1
  clear hl1 hl2 hl
  go_wp2_with fail
  go_region_held3 (fun w' => w.heap.size <= w'.heap.size) (first | (simp)) (first | (go_at_call 145; refine (lowRead_any _ _ (by omega)).mono ?_; rintro e w' ⟨rfl,rfl⟩; rw [S_data]) | (go_at_call 186; refine (check_any _ _ ?_ ?_).mono ?_; (omega); (exact HHd.out); rintro e w' ⟨rfl,rfl⟩; rw [S_data]))
  clear c1 c2 m1 HH HHd z1 z2 i1 i2 d1
  go_wp2
  go_ret
  refine ⟨ret_bool ?_,(Below.refl _ _).drew⟩
  rw [HR.out,Bool.eq_iff_iff]
  simp only [beq_iff_eq,decide_eq_true_eq]
  omega
 ·have HR : Hid (sealedB s.data.toList = false) := by
   show _ = _
   unfold sealedB; simp; omega
  clear hH
  have i1 : ¬ (4 : Int) <= (s.size : Int) := by omega
  have i2 : ¬ (0 : Int) <= (s.size : Int) - 4 := by omega
  have d1 : decide ((4 : Int) <= (s.size : Int)) = false := by simp; omega
  have d2 : decide ((0 : Int) <= (s.size : Int) - 4) = false := by simp; omega
  go_enter Tryz.func144,Tryz.ntmps144
  go_wp2_with fail
  go_quiet (fail)
  go_wp2
  go_ret
  exact ⟨ret_bool HR.out.symm,below_drewN (Below.refl _ _) _⟩
structure OpV where
 kind : Int
 at' : Int
 x : Int
 y : Int
 s : ByteArray
 t : ByteArray
 u : ByteArray
 c0 : Int
 c1 : Int
 c2 : Int
def OpV.cells (o : OpV) : List Value := [.int .i64 o.kind,.int .i64 o.at',.int .i64 o.x,.int .i64 o.y,.string o.s,.string o.t,.string o.u,.int .i64 o.c0,.int .i64 o.c1,.int .i64 o.c2]
def OpV.val (o : OpV) : Value := .agg #[.int .i64 o.kind,.int .i64 o.at',.int .i64 o.x,.int .i64 o.y,.string o.s,.string o.t,.string o.u,.int .i64 o.c0,.int .i64 o.c1,.int .i64 o.c2]
def WorldAt (w : World) (b : Nat) : Prop := b < w.heap.size /\ w.cell? ⟨b,0,none⟩ = some (.slice none 0 0) /\ w.cell? ⟨b,1,none⟩ = some (.slice none 0 0)
theorem WorldAt.below {w w' : World} {b : Nat} (h : WorldAt w b) (hb : Below w.heap.size w w') : WorldAt w' b :=
 ⟨Nat.lt_of_lt_of_le h.1 hb.size,(hb.cell (p := ⟨b,0,none⟩) h.1).trans h.2.1,(hb.cell (p := ⟨b,1,none⟩) h.1).trans h.2.2⟩
def Reads (o : OpV) : Prop := ∀ w : World,HalvesAt w -> Calls Tryz.prog 63 #[o.val] w fun e w' => e = .returned (.bool true) /\ Below w.heap.size w w'
theorem Reads.val {o : OpV} (h : Reads o) : Hid (∀ w : World,HalvesAt w -> Calls Tryz.prog 63 #[.agg #[.int .i64 o.kind,.int .i64 o.at',.int .i64 o.x,.int .i64 o.y,.string o.s,.string o.t,.string o.u,.int .i64 o.c0,.int .i64 o.c1,.int .i64 o.c2]] w fun e w' => e = .returned (.bool true) /\ Below w.heap.size w w') := h
def OpAt (w : World) (b off : Nat) (o : OpV) : Prop :=
 w.cell? ⟨b,off,none⟩ = some (.int .i64 o.kind) /\ w.cell? ⟨b,off + 1,none⟩ = some (.int .i64 o.at') /\ w.cell? ⟨b,off + 2,none⟩ = some (.int .i64 o.x) /\ w.cell? ⟨b,off + 3,none⟩ = some (.int .i64 o.y) /\
 w.cell? ⟨b,off + 4,none⟩ = some (.string o.s) /\ w.cell? ⟨b,off + 5,none⟩ = some (.string o.t) /\ w.cell? ⟨b,off + 6,none⟩ = some (.string o.u) /\
 w.cell? ⟨b,off + 7,none⟩ = some (.int .i64 o.c0) /\ w.cell? ⟨b,off + 8,none⟩ = some (.int .i64 o.c1) /\ w.cell? ⟨b,off + 9,none⟩ = some (.int .i64 o.c2)
theorem OpAt.below {w w' : World} {b off : Nat} {o : OpV} (h : OpAt w b off o) {n : Nat} (hb : Below n w w') (hl : b < n) : OpAt w' b off o := by
 obtain ⟨h0,h1,h2,h3,h4,h5,h6,h7,h8,h9⟩ := h
 have f : ∀ i v,w.cell? ⟨b,i,none⟩ = some v -> w'.cell? ⟨b,i,none⟩ = some v := fun i v hv => (hb.cell (p := ⟨b,i,none⟩) hl).trans hv
 exact ⟨f _ _ h0,f _ _ h1,f _ _ h2,f _ _ h3,f _ _ h4,f _ _ h5,f _ _ h6,f _ _ h7,f _ _ h8,f _ _ h9⟩

theorem add_is_xor {b : Nat} (k c : Nat) (h : b < 2 ^ k) : b + 2 ^ k * c = b ^^^ (2 ^ k * c) := by
 have h1 := Nat.two_pow_add_eq_or_of_lt h c
 have h2 : 2 ^ k * c ||| b = 2 ^ k * c ^^^ b := by
  apply Nat.eq_of_testBit_eq
  intro j
  rw [Nat.testBit_or,Nat.testBit_xor]
  by_cases hj : j < k
  ·have : (2 ^ k * c).testBit j = false := by
    rw [Nat.testBit_two_pow_mul]; simp; omega
   rw [this]; simp
  ·have : b.testBit j = false := by
    apply Nat.testBit_lt_two_pow
    exact Nat.lt_of_lt_of_le h (Nat.pow_le_pow_right (by omega) (by omega))
   rw [this]; simp
 rw [Nat.add_comm,h1,h2,Nat.xor_comm]
theorem crcBits_pow (q c : Nat) : crcBits q (2 ^ q * c) = c := by
 induction q generalizing c with
 | zero => simp [crcBits]
 | succ q ih =>
  show crcBit (crcBits q (2 ^ (q + 1) * c)) = c
  rw [Nat.pow_succ,Nat.mul_assoc,ih,crcBit_even]
theorem highL_cons_xor (b : UInt8) (l : List UInt8) : highL (b :: l) = b.toNat ^^^ (256 * highL l) := by
 have := b.toNat_lt
 show b.toNat + 256 * highL l = _
 exact add_is_xor 8 (highL l) (by omega)
theorem run_bits (l : List UInt8) (s : Nat) : l.foldl crcByte s = crcBits (8 * l.length) (s ^^^ highL l) := by
 induction l generalizing s with
 | nil => simp [highL,crcBits]
 | cons b l ih =>
  rw [List.foldl_cons,ih,highL_cons_xor,List.length_cons,Nat.mul_add,crcBits_add,<- Nat.xor_assoc,crcBits_xor (8 * 1) (s ^^^ b.toNat),show 256 = 2 ^ (8 * 1) from rfl,crcBits_pow]
  rfl
theorem crcBit_pos {c : Nat} (h : c < 4294967296) (h0 : 0 < c) : 0 < crcBit c := by
 unfold crcBit
 by_cases ho : c % 2 = 1
 ·rw [if_pos ho]
  apply Nat.pos_of_ne_zero
  intro e
  have e1 : c / 2 = 3988292384 := by
   have : (c / 2 ^^^ 3988292384) ^^^ 3988292384 = 0 ^^^ 3988292384 := by rw [e]
   rwa [Nat.xor_assoc,Nat.xor_self,Nat.xor_zero,Nat.zero_xor] at this
  omega
 ·rw [if_neg ho]; omega
theorem crcBits_pos (n : Nat) {c : Nat} (h : c < 4294967296) (h0 : 0 < c) : 0 < crcBits n c := by
 induction n with
 | zero => exact h0
 | succ n ih => exact crcBit_pos (crcBits_lt h) ih
theorem run_sealed {l : List UInt8} (h : sealedB l = true) : crcRun l = crcBits 32 4294967295 := by
 have h4 : 4 <= l.length := by
  unfold sealedB at h
  simp at h
  exact h.1
 rw [sealed_by_number h4] at h
 have h := of_decide_eq_true h
 have e : l = l.take (l.length - 4) ++ l.drop (l.length - 4) := (List.take_append_drop _ _).symm
 have hd : (l.drop (l.length - 4)).length = 4 := by simp; omega
 generalize l.take (l.length - 4) = a at *
 generalize l.drop (l.length - 4) = b at *
 subst e
 unfold crcRun
 rw [List.foldl_append]
 show b.foldl crcByte (crcRun a) = _
 rw [run_bits,hd,h,crcN,<- Nat.xor_assoc,Nat.xor_self,Nat.zero_xor]
theorem burst {l m : List UInt8} (hlen : l.length = m.length) {q W : Nat} (hD : highL l ^^^ highL m = 2 ^ q * W) (hW : 0 < W) (hW2 : W < 4294967296) (hl : sealedB l = true) : sealedB m = false := by
 cases hm : sealedB m with
 | false => rfl
 | true =>
  exfalso
  have h1 := run_sealed hl
  have h2 := run_sealed hm
  have h3 : crcRun l ^^^ crcRun m = 0 := by rw [h1,h2,Nat.xor_self]
  unfold crcRun at h3
  rw [run_bits,run_bits,<- hlen,<- crcBits_xor] at h3
  have h4 : 4294967295 ^^^ highL l ^^^ (4294967295 ^^^ highL m) = 2 ^ q * W := by
   rw [<- hD,Nat.xor_comm 4294967295 (highL m),<- Nat.xor_assoc,Nat.xor_comm 4294967295 (highL l),Nat.xor_assoc (highL l),Nat.xor_comm 4294967295 (highL m),<- Nat.xor_assoc (highL l),Nat.xor_assoc,Nat.xor_self,Nat.xor_zero]
  rw [h4] at h3
  have hq : q <= 8 * l.length := by
   have b1 : highL l ^^^ highL m < 2 ^ (8 * l.length) := by
    have e1 : ∀ n : Nat,256 ^ n = 2 ^ (8 * n) := fun n => by rw [Nat.pow_mul]
    apply Nat.xor_lt_two_pow
    ·rw [<- e1]; exact highL_lt l
    ·rw [<- e1,hlen]; exact highL_lt m
   rw [hD] at b1
   have b2 : 2 ^ q <= 2 ^ q * W := Nat.le_mul_of_pos_right _ hW
   have b3 : 2 ^ q < 2 ^ (8 * l.length) := Nat.lt_of_le_of_lt b2 b1
   exact Nat.le_of_lt ((Nat.pow_lt_pow_iff_right (by omega)).1 b3)
  obtain ⟨d,hd⟩ : ∃ d,8 * l.length = d + q := ⟨8 * l.length - q,by omega⟩
  rw [hd,crcBits_add,crcBits_pow] at h3
  have := crcBits_pos d hW2 hW
  omega
theorem highL_turn (l : List UInt8) (p : Nat) (h : p / 8 < l.length) : highL (l.set (p / 8) (l[p / 8] ^^^ UInt8.ofNat (2 ^ (p % 8)))) = highL l ^^^ 2 ^ p := by
 have gen : ∀ (l : List UInt8) (j k : Nat) (hj : j < l.length) (hk : k < 8),highL (l.set j (l[j] ^^^ UInt8.ofNat (2 ^ k))) = highL l ^^^ 2 ^ (8 * j + k) := by
  intro l
  induction l with
  | nil => intro j k hj; simp at hj
  | cons b l ih =>
   intro j k hj hk
   cases j with
   | zero =>
    simp only [List.set_cons_zero,List.getElem_cons_zero,Nat.mul_zero,Nat.zero_add]
    rw [highL_cons_xor,highL_cons_xor,UInt8.toNat_xor,UInt8.toNat_ofNat',Nat.mod_eq_of_lt (Nat.lt_of_lt_of_le (Nat.pow_lt_pow_right (by omega) hk) (by decide : 2 ^ 8 <= 2 ^ 8))]
    rw [Nat.xor_assoc,Nat.xor_comm (2 ^ k),<- Nat.xor_assoc]
   | succ j =>
    simp only [List.set_cons_succ,List.getElem_cons_succ]
    rw [highL_cons_xor,highL_cons_xor,ih j k (by simpa using hj) hk]
    have e1 : 256 * (highL l ^^^ 2 ^ (8 * j + k)) = 256 * highL l ^^^ 2 ^ (8 * (j + 1) + k) := by
     rw [show 8 * (j + 1) + k = 8 + (8 * j + k) by omega,Nat.pow_add 2 8,show (256 : Nat) = 2 ^ 8 from rfl]
     simp only [Nat.mul_comm (2 ^ 8),<- Nat.shiftLeft_eq]
     rw [Nat.shiftLeft_xor_distrib]
    rw [e1,<- Nat.xor_assoc]
 have := gen l (p / 8) (p % 8) h (by omega)
 rw [this,Nat.div_add_mod]
theorem turn_next {a i W : Nat} (hW : W < 2 ^ i) : 2 ^ a * W ^^^ 2 ^ (a + i) = 2 ^ a * (W + 2 ^ i) := by
 have h1 : W + 2 ^ i = W ^^^ 2 ^ i := by have := add_is_xor i 1 hW; simpa using this
 rw [h1,Nat.pow_add]
 simp only [Nat.mul_comm (2 ^ a),<- Nat.shiftLeft_eq]
 rw [Nat.shiftLeft_xor_distrib]
structure Sd where
 put : Bool
 key : List UInt8
 val : List UInt8
 blk : Nat
 no : Nat
def saids (a : Nat) : Nat -> List Ent -> List Sd
 | _,[] => []
 | i,e :: es => ⟨e.put,e.key,e.val,a,i⟩ :: saids a (i + 1) es
theorem saids_length (a i : Nat) (es : List Ent) : (saids a i es).length = es.length := by
 induction es generalizing i with
 | nil => rfl
 | cons e es ih => simp [saids,ih]
theorem saids_snoc (a i : Nat) (es : List Ent) (e : Ent) : saids a i (es ++ [e]) = saids a i es ++ [⟨e.put,e.key,e.val,a,i + es.length⟩] := by
 induction es generalizing i with
 | nil => rfl
 | cons f es ih => simp [saids,ih]; omega
theorem saids_take {a : Nat} {es : List Ent} {k : Nat} (h : k < es.length) : saids a 0 (es.take (k + 1)) = saids a 0 (es.take k) ++ [⟨es[k].put,es[k].key,es[k].val,a,k⟩] := by
 rw [List.take_succ_eq_append_getElem h,saids_snoc]
 simp; omega
def readF : Nat -> List UInt8 -> Int -> Nat -> List Sd × Nat
 | 0,_,_,a => ([],a)
 | n + 1,log,blk,a => match blockP log a blk with
  | none => ([],a)
  | some (es,k) => (saids a 0 es ++ (readF n log blk (a + k)).1,(readF n log blk (a + k)).2)
def readL (log : List UInt8) (blk : Int) (a : Nat) : List Sd × Nat := readF (log.length - a) log blk a
theorem readF_fuel (log : List UInt8) (blk : Int) (n m a : Nat) (hn : log.length - a <= n) (hm : log.length - a <= m) : readF n log blk a = readF m log blk a := by
 induction n generalizing m a with
 | zero =>
  cases m with
  | zero => rfl
  | succ m =>
   rw [readF,readF]
   cases h : blockP log a blk with
   | none => rfl
   | some x =>
    have := blockP_some (es := x.1) (k := x.2) h
    omega
 | succ n ih =>
  cases m with
  | zero =>
   rw [readF,readF]
   cases h : blockP log a blk with
   | none => rfl
   | some x =>
    have := blockP_some (es := x.1) (k := x.2) h
    omega
  | succ m =>
   rw [readF,readF]
   cases h : blockP log a blk with
   | none => rfl
   | some x =>
    obtain ⟨es,k⟩ := x
    have := blockP_some h
    simp only
    rw [ih m (a + k) (by omega) (by omega)]
theorem readL_none {log : List UInt8} {blk : Int} {a : Nat} (h : blockP log a blk = none) : readL log blk a = ([],a) := by
 unfold readL
 cases log.length - a with
 | zero => rfl
 | succ n => rw [readF,h]
theorem readL_some {log : List UInt8} {blk : Int} {a k : Nat} {es : List Ent} (h : blockP log a blk = some (es,k)) : readL log blk a = (saids a 0 es ++ (readL log blk (a + k)).1,(readL log blk (a + k)).2) := by
 have := blockP_some h
 unfold readL
 obtain ⟨n,hn⟩ : ∃ n,log.length - a = n + 1 := ⟨log.length - a - 1,by omega⟩
 rw [hn,readF,h]
 simp only
 rw [readF_fuel log blk n (log.length - (a + k)) (a + k) (by omega) (Nat.le_refl _)]
def liveL : List Sd -> List Sd
 | [] => []
 | x :: l => if x.put = true /\ ∀ y ∈ l,y.key ≠ x.key then x :: liveL l else liveL l
theorem liveL_mem {l : List Sd} {x : Sd} (h : x ∈ liveL l) : x ∈ l /\ x.put = true := by
 induction l with
 | nil => simp [liveL] at h
 | cons y l ih =>
  rw [liveL] at h
  split at h
  ·rename_i hc
   rcases List.mem_cons.1 h with rfl | h
   ·exact ⟨List.mem_cons_self,hc.1⟩
   ·exact ⟨List.mem_cons_of_mem _ (ih h).1,(ih h).2⟩
  ·exact ⟨List.mem_cons_of_mem _ (ih h).1,(ih h).2⟩
theorem liveL_le (l : List Sd) : (liveL l).length <= l.length := by
 induction l with
 | nil => simp [liveL]
 | cons x l ih =>
  rw [liveL]
  split <;> simp <;> omega
theorem liveL_snoc (l : List Sd) (x : Sd) : liveL (l ++ [x]) = (liveL l).filter (fun y => decide (y.key ≠ x.key)) ++ (if x.put = true then [x] else []) := by
 induction l with
 | nil =>
  simp only [List.nil_append,liveL,List.filter_nil]
  by_cases h : x.put = true <;> simp [h]
 | cons y l ih =>
  rw [List.cons_append,liveL,liveL,ih]
  by_cases h1 : y.put = true /\ ∀ z ∈ l,z.key ≠ y.key
  ·rw [if_pos h1]
   by_cases h2 : x.key = y.key
   ·rw [if_neg (by rintro ⟨_,h⟩; exact h x (by simp) h2)]
    simp [h2]
   ·rw [if_pos ⟨h1.1,fun z hz => by
     rcases List.mem_append.1 hz with hz | hz
     ·exact h1.2 z hz
     ·simp at hz; subst hz; exact h2⟩]
    rw [List.filter_cons_of_pos (by simpa using fun h => h2 h.symm)]
    rfl
  ·rw [if_neg h1,if_neg (by rintro ⟨ha,hb⟩; exact h1 ⟨ha,fun z hz => hb z (by simp [hz])⟩)]
theorem liveL_keys (l : List Sd) : (liveL l).Pairwise (fun x y => x.key ≠ y.key) := by
 induction l with
 | nil => exact List.Pairwise.nil
 | cons x l ih =>
  rw [liveL]
  split
  ·rename_i h
   exact List.Pairwise.cons (fun y hy => fun e => h.2 y (liveL_mem hy).1 e.symm) ih
  ·exact ih
def placeLt (x y : Sd) : Prop := x.blk < y.blk \/ (x.blk = y.blk /\ x.no < y.no)
theorem saids_rise (a i : Nat) (es : List Ent) : (saids a i es).Pairwise placeLt /\ ∀ x ∈ saids a i es,x.blk = a /\ i <= x.no /\ x.no < i + es.length := by
 induction es generalizing i with
 | nil => exact ⟨List.Pairwise.nil,by simp [saids]⟩
 | cons e es ih =>
  obtain ⟨h1,h2⟩ := ih (i + 1)
  refine ⟨List.Pairwise.cons (fun y hy => .inr ⟨?_,?_⟩) h1,fun x hx => ?_⟩
  ·exact (h2 y hy).1.symm
  ·have := h2 y hy; simp; omega
  ·rcases List.mem_cons.1 hx with rfl | hx
   ·simp
   ·have := h2 x hx; simp; omega
theorem readF_rise (log : List UInt8) (blk : Int) (n a : Nat) : (readF n log blk a).1.Pairwise placeLt /\ (∀ x ∈ (readF n log blk a).1,a <= x.blk /\ x.blk < log.length /\ x.no < 255) /\ a <= (readF n log blk a).2 /\ (a <= log.length -> (readF n log blk a).2 <= log.length) := by
 induction n generalizing a with
 | zero => exact ⟨List.Pairwise.nil,by simp [readF],Nat.le_refl _,fun h => h⟩
 | succ n ih =>
  rw [readF]
  cases h : blockP log a blk with
  | none => exact ⟨List.Pairwise.nil,by simp,Nat.le_refl _,fun h => h⟩
  | some x =>
   obtain ⟨es,k⟩ := x
   have hb := blockP_some h
   obtain ⟨h1,h2,h3,h4⟩ := ih (a + k)
   obtain ⟨s1,s2⟩ := saids_rise a 0 es
   simp only
   refine ⟨?_,?_,by omega,fun _ => h4 (by omega)⟩
   ·rw [List.pairwise_append]
    refine ⟨s1,h1,fun x hx y hy => .inl ?_⟩
    have := s2 x hx
    have := h2 y hy
    omega
   ·intro x hx
    rcases List.mem_append.1 hx with hx | hx
    ·have := s2 x hx; omega
    ·have := h2 x hx; omega
theorem liveL_sub (l : List Sd) : (liveL l).Sublist l := by
 induction l with
 | nil => exact List.Sublist.refl _
 | cons x l ih =>
  rw [liveL]
  split
  ·exact ih.cons_cons x
  ·exact ih.cons x
theorem liveL_rise {l : List Sd} (h : l.Pairwise placeLt) : (liveL l).Pairwise placeLt := h.sublist (liveL_sub l)
structure Slt where
 num : Nat
 blk : Nat
 no : Nat
def awayN (n : Nat) (x : Slt) (a : Nat) : Nat := (a + n - x.num % n) % n
theorem awayN_lt {n : Nat} (h : 0 < n) (x : Slt) (a : Nat) : awayN n x a < n := Nat.mod_lt _ h
def sizeF : Nat -> Nat -> Nat -> Nat
 | 0,_,s => s
 | f + 1,n,s => if s <= 5 * n / 4 then sizeF f n (2 * s) else s
def sizeL (n : Nat) : Nat := sizeF 12 n 4
def putF : Nat -> List (Option Slt) -> Slt -> Nat -> List (Option Slt)
 | 0,t,_,_ => t
 | f + 1,t,x,a => match t[a]? with
  | some (some y) => if awayN t.length y a < awayN t.length x a then putF f (t.set a (some x)) y ((a + 1) % t.length) else putF f t x ((a + 1) % t.length)
  | _ => t.set a (some x)
def putL (t : List (Option Slt)) (x : Slt) : List (Option Slt) := putF t.length t x (x.num % t.length)
theorem putF_length (f : Nat) (t : List (Option Slt)) (x : Slt) (a : Nat) : (putF f t x a).length = t.length := by
 induction f generalizing t x a with
 | zero => rfl
 | succ f ih =>
  rw [putF]
  split
  ·split
   ·rw [ih]; simp
   ·rw [ih]
  ·simp
def gap (n e a : Nat) : Nat := (e + n - a) % n
theorem gap_step {n e a : Nat} (ha : a < n) (he : e < n) (hne : a ≠ e) : gap n e ((a + 1) % n) + 1 = gap n e a := by
 unfold gap
 by_cases h : a + 1 < n
 ·rw [Nat.mod_eq_of_lt h]
  by_cases h2 : a < e
  ·have e1 : e + n - (a + 1) = (e - (a + 1)) + n := by omega
   have e2 : e + n - a = (e - a) + n := by omega
   rw [e1,e2,Nat.add_mod_right,Nat.add_mod_right,Nat.mod_eq_of_lt (by omega),Nat.mod_eq_of_lt (by omega)]
   omega
  ·rw [Nat.mod_eq_of_lt (a := e + n - (a + 1)) (by omega),Nat.mod_eq_of_lt (a := e + n - a) (by omega)]
   omega
 ·have : a + 1 = n := by omega
  rw [this,Nat.mod_self,Nat.sub_zero,Nat.add_mod_right,Nat.mod_eq_of_lt he,Nat.mod_eq_of_lt (a := e + n - a) (by omega)]
  omega
theorem gap_lt {n e a : Nat} (hn : 0 < n) : gap n e a < n := Nat.mod_lt _ hn
def fullN (t : List (Option Slt)) : Nat := (t.filter Option.isSome).length
theorem fullN_set {t : List (Option Slt)} {a : Nat} {x : Slt} (h : t[a]? = some none) : fullN (t.set a (some x)) = fullN t + 1 := by
 induction t generalizing a with
 | nil => simp at h
 | cons y t ih =>
  cases a with
  | zero => simp at h; subst h; simp [fullN]
  | succ a =>
   have := ih (a := a) (by simpa using h)
   unfold fullN at this ⊢
   rw [List.set_cons_succ,List.filter_cons,List.filter_cons]
   split <;> simp [this]
theorem fullN_swap {t : List (Option Slt)} {a : Nat} {x y : Slt} (h : t[a]? = some (some y)) : fullN (t.set a (some x)) = fullN t := by
 induction t generalizing a with
 | nil => simp at h
 | cons z t ih =>
  cases a with
  | zero => simp at h; subst h; simp [fullN]
  | succ a =>
   have := ih (a := a) (by simpa using h)
   unfold fullN at this ⊢
   rw [List.set_cons_succ,List.filter_cons,List.filter_cons]
   split <;> simp [this]
theorem fullN_free {t : List (Option Slt)} (h : fullN t < t.length) : ∃ e,e < t.length /\ t[e]? = some none := by
 induction t with
 | nil => simp at h
 | cons y t ih =>
  cases y with
  | none => exact ⟨0,by simp,rfl⟩
  | some y =>
   obtain ⟨e,h1,h2⟩ := ih (by simp [fullN] at h ⊢; omega)
   exact ⟨e + 1,by simp; omega,by simpa using h2⟩
theorem fullN_put (n e : Nat) (he : e < n) : ∀ (f : Nat) (t : List (Option Slt)) (x : Slt) (a : Nat),t.length = n -> a < n -> t[e]? = some none -> gap n e a < f -> fullN (putF f t x a) = fullN t + 1 := by
 intro f
 induction f with
 | zero => intro t x a _ _ _ h; omega
 | succ f ih =>
  intro t x a hl ha hE hf
  rw [putF]
  split
  ·rename_i y hy
   have hne : a ≠ e := by
    intro h; subst h; rw [hE] at hy; cases hy
   have hs := gap_step ha he hne
   have ha' : (a + 1) % n < n := Nat.mod_lt _ (by omega)
   rw [hl]
   split
   ·rw [ih _ _ _ (by simp [hl]) ha' (by rw [List.getElem?_set_ne hne]; exact hE) (by omega),fullN_swap hy]
   ·rw [ih _ _ _ hl ha' hE (by omega)]
  ·rename_i hx
   have hsome : t[a]? = some t[a] := List.getElem?_eq_getElem (by omega)
   cases hy : t[a] with
   | none => exact fullN_set (by rw [hsome,hy])
   | some y => exact absurd (by rw [hsome,hy]) (hx y)
theorem sizeF_big (f n s : Nat) (h : 5 * n / 4 < s * 2 ^ f) : 5 * n / 4 < sizeF f n s := by
 induction f generalizing s with
 | zero => simpa [sizeF] using h
 | succ f ih =>
  rw [sizeF]
  split
  ·exact ih (2 * s) (by rw [Nat.pow_succ] at h; rw [Nat.mul_comm 2 s,Nat.mul_assoc,Nat.mul_comm 2]; exact h)
  ·omega
theorem sizeF_bound (f n s b : Nat) (h0 : s <= b) (h : 2 * (5 * n / 4) <= b) : sizeF f n s <= b := by
 induction f generalizing s with
 | zero => exact h0
 | succ f ih =>
  rw [sizeF]
  split
  ·exact ih (2 * s) (by omega)
  ·exact h0
theorem sizeF_ge (f n s : Nat) : s <= sizeF f n s := by
 induction f generalizing s with
 | zero => exact Nat.le_refl _
 | succ f ih =>
  rw [sizeF]
  split
  ·exact Nat.le_trans (by omega) (ih (2 * s))
  ·exact Nat.le_refl _
theorem sizeL_big {n : Nat} (h : n <= 2000) : 5 * n / 4 < sizeL n := sizeF_big 12 n 4 (by omega)
theorem sizeL_bound {n : Nat} (h : n <= 2000) : 4 <= sizeL n /\ sizeL n <= 5000 := ⟨sizeF_ge 12 n 4,sizeF_bound 12 n 4 5000 (by omega) (by omega)⟩
def sltOf (seed bits : Int) (x : Sd) : Slt := ⟨(numberI seed bits x.key).toNat,x.blk,x.no⟩
def fillL (n : Nat) (xs : List Slt) : List (Option Slt) := xs.foldl putL (List.replicate n none)
theorem fillL_snoc (n : Nat) (xs : List Slt) (x : Slt) : fillL n (xs ++ [x]) = putL (fillL n xs) x := by
 unfold fillL; rw [List.foldl_append]; rfl
theorem foldl_put_length (xs : List Slt) (t : List (Option Slt)) : (xs.foldl putL t).length = t.length := by
 induction xs generalizing t with
 | nil => rfl
 | cons x xs ih => rw [List.foldl_cons,ih,putL,putF_length]
theorem fillL_length (n : Nat) (xs : List Slt) : (fillL n xs).length = n := by
 unfold fillL; rw [foldl_put_length]; simp
theorem foldl_put_full (xs : List Slt) (t : List (Option Slt)) (h : fullN t + xs.length <= t.length) (hp : 0 < t.length) : fullN (xs.foldl putL t) = fullN t + xs.length := by
 induction xs generalizing t with
 | nil => rfl
 | cons x xs ih =>
  obtain ⟨e,h1,h2⟩ := fullN_free (t := t) (by simp at h; omega)
  have e1 : fullN (putL t x) = fullN t + 1 := fullN_put t.length e h1 t.length t x (x.num % t.length) rfl (Nat.mod_lt _ hp) h2 (gap_lt hp)
  have e2 : (putL t x).length = t.length := putF_length _ _ _ _
  rw [List.foldl_cons,ih (putL t x) (by rw [e1,e2]; simp at h; omega) (by omega),e1]
  simp; omega
theorem fillL_full {n : Nat} {xs : List Slt} (h : xs.length <= n) (hn : 0 < n) : fullN (fillL n xs) = xs.length := by
 have h0 : fullN (List.replicate n (none : Option Slt)) = 0 := by simp [fullN]
 unfold fillL
 rw [foldl_put_full xs _ (by rw [h0]; simp; omega) (by simp; omega),h0]
 omega
theorem fillL_free {n : Nat} {xs : List Slt} (h : xs.length < n) : ∃ e,e < n /\ (fillL n xs)[e]? = some none := by
 have := fullN_free (t := fillL n xs) (by rw [fillL_length,fillL_full (by omega) (by omega)]; exact h)
 rwa [fillL_length] at this
def farP (n : Nat) (t : List (Option Slt)) : Nat -> Nat
 | 0 => 0
 | k + 1 => match t.getD k none with
  | none => farP n t k
  | some x => max (farP n t k) (awayN n x k)
theorem farP_none {n k : Nat} {t : List (Option Slt)} (h : t[k]? = some none) : farP n t (k + 1) = farP n t k := by
 rw [farP,List.getD,h]; rfl
theorem farP_some {n k : Nat} {t : List (Option Slt)} {x : Slt} (h : t[k]? = some (some x)) : farP n t (k + 1) = max (farP n t k) (awayN n x k) := by
 rw [farP,List.getD,h]; rfl
theorem farP_lt {n : Nat} (hn : 0 < n) (t : List (Option Slt)) (k : Nat) : farP n t k < n := by
 induction k with
 | zero => exact hn
 | succ k ih =>
  rw [farP]
  split
  ·exact ih
  ·have := awayN_lt hn (by assumption) k
   omega
def sltB : Option Slt -> List UInt8
 | none => lowL 0 10
 | some x => lowL 1 1 ++ lowL x.num 4 ++ lowL x.blk 4 ++ lowL x.no 1
theorem lowL_len (n k : Nat) : (lowL n k).length = k := by
 induction k generalizing n with
 | zero => rfl
 | succ k ih => simp [lowL,ih]
theorem sltB_length (x : Option Slt) : (sltB x).length = 10 := by
 cases x <;> simp [sltB,lowL_len]
def tabB (t : List (Option Slt)) : List UInt8 := t.flatMap sltB
theorem tabB_snoc (t : List (Option Slt)) (x : Option Slt) : tabB (t ++ [x]) = tabB t ++ sltB x := by simp [tabB]
theorem tabB_length (t : List (Option Slt)) : (tabB t).length = 10 * t.length := by
 induction t with
 | nil => rfl
 | cons x t ih =>
  show (sltB x ++ tabB t).length = _
  rw [List.length_append,ih,sltB_length,List.length_cons]; omega
def frontB (live slots far size sum : Nat) : List UInt8 := [73,88] ++ lowL live 2 ++ lowL slots 2 ++ lowL far 2 ++ lowL size 4 ++ lowL sum 4
theorem frontB_length (a b c d e : Nat) : (frontB a b c d e).length = 16 := by simp [frontB,lowL_len]
def tableOf (seed bits : Int) (live : List Sd) : List (Option Slt) := fillL (sizeL live.length) (live.map (sltOf seed bits))
def indexB (log : List UInt8) (seed bits : Int) (live : List Sd) : List UInt8 :=
 sealL (frontB live.length (sizeL live.length) (farP (sizeL live.length) (tableOf seed bits live) (sizeL live.length)) log.length (sumI log).toNat) ++ sealL (tabB (tableOf seed bits live))
def indexS (log : List UInt8) : Option (List UInt8) :=
 if 100000 < log.length then none
 else if headB log = false then none
 else if (readL log (hdBlk log) 14).2 < log.length then none
 else if 2000 < (liveL (readL log (hdBlk log) 14).1).length then none
 else some (indexB log (hdSeed log) (hdBits log) (liveL (readL log (hdBlk log) 14).1))
theorem awayN_ref {n a : Nat} (x : Slt) (ha : a < n) : awayN n x a = if a < x.num % n then a + n - x.num % n else a - x.num % n := by
 have hh : x.num % n < n := Nat.mod_lt _ (by omega)
 unfold awayN
 split
 ·rw [Nat.mod_eq_of_lt (by omega)]
 ·rw [show a + n - x.num % n = (a - x.num % n) + n by omega,Nat.add_mod_right,Nat.mod_eq_of_lt (by omega)]
theorem awayN_prog {n a : Nat} (x : Slt) (ha : a < n) : ((a : Int) - (x.num : Int) % (n : Int) + (n : Int)) % (n : Int) = (awayN n x a : Nat) := by
 have hh : x.num % n < n := Nat.mod_lt _ (by omega)
 have e : (a : Int) - (x.num : Int) % (n : Int) + (n : Int) = ((a + n - x.num % n : Nat) : Int) := by
  have : (x.num : Int) % (n : Int) = ((x.num % n : Nat) : Int) := by simp
  omega
 rw [e]
 unfold awayN
 simp
structure Ans where
 val : List UInt8
 num : Nat
 err : Int
def entStep (key : List UInt8) (k : Nat) (r : Option (List Ent × Nat)) (no : Nat) : Option Ans :=
 match r with
 | none => some ⟨[],0,3⟩
 | some (es,_) => match es[no]? with
  | none => some ⟨[],0,3⟩
  | some e => if e.put = false then some ⟨[],0,3⟩ else if e.key = key then some ⟨e.val,k + 1,0⟩ else none
def slotStep (log key : List UInt8) (want : Nat) (blk : Int) (k : Nat) (s : List UInt8) : Option Ans :=
 if (s.getD 0 0).toNat = 0 then some ⟨[],k + 1,2⟩
 else if (s.getD 0 0).toNat ≠ 1 \/ highL ((s.drop 1).take 4) ≠ want then none
 else entStep key k (blockP log (highL ((s.drop 5).take 4)) blk) (s.getD 9 0).toNat
theorem cellsE_get {es : List Ent} {i : Nat} (h : i < es.length) : (cellsE es)[i * 3]? = some (.bool es[i].put) /\ (cellsE es)[i * 3 + 1]? = some (.string (S es[i].key)) /\ (cellsE es)[i * 3 + 2]? = some (.string (S es[i].val)) := by
 induction es generalizing i with
 | nil => simp at h
 | cons e es ih =>
  cases i with
  | zero => exact ⟨rfl,rfl,rfl⟩
  | succ i =>
   have := ih (i := i) (by simpa using h)
   have e1 : ∀ j,(cellsE (e :: es))[(i + 1) * 3 + j]? = (cellsE es)[i * 3 + j]? := fun j => by
    show ([.bool e.put,.string (S e.key),.string (S e.val)] ++ cellsE es)[(i + 1) * 3 + j]? = _
    rw [List.getElem?_append_right (by simp; omega)]
    congr 1
    simp; omega
   exact ⟨(e1 0).trans this.1,(e1 1).trans this.2.1,(e1 2).trans this.2.2⟩
theorem numberI_range (seed bits : Int) (key : List UInt8) (h0 : 0 <= bits) (h1 : bits <= 32) : 0 <= numberI seed bits key /\ numberI seed bits key < 4294967296 := by
 unfold numberI
 have hp : (1 : Int) <= 2 ^ bits.toNat /\ (2 : Int) ^ bits.toNat <= 4294967296 := by
  have h1 : (1 : Nat) <= 2 ^ bits.toNat := Nat.one_le_two_pow
  have h2 : (2 : Nat) ^ bits.toNat <= 2 ^ 32 := Nat.pow_le_pow_right (by omega) (by omega)
  have h3 : ((2 ^ bits.toNat : Nat) : Int) = 2 ^ bits.toNat := by simp
  omega
 have a := Int.emod_nonneg (fnv F0 (lowL seed.toNat 4 ++ key)) (show (2 : Int) ^ bits.toNat ≠ 0 by omega)
 have b := Int.emod_lt_of_pos (fnv F0 (lowL seed.toNat 4 ++ key)) (show (0 : Int) < 2 ^ bits.toNat by omega)
 omega
def Full (t : List (Option Slt)) (p : Nat) : Prop := ∃ x,t[p]? = some (some x)
def Stored (t : List (Option Slt)) (z : Slt) : Prop := ∃ p : Nat,t[p]? = some (some z)
def Path (t : List (Option Slt)) (x : Slt) (a : Nat) : Prop := ∀ j,j < awayN t.length x a -> Full t ((x.num % t.length + j) % t.length)
def Run (t : List (Option Slt)) : Prop := ∀ (p : Nat) (x : Slt),t[p]? = some (some x) -> Path t x p
theorem full_set {t : List (Option Slt)} {a p : Nat} (x : Slt) (h : Full t p) : Full (t.set a (some x)) p := by
 obtain ⟨y,hy⟩ := h
 have hp := (List.getElem?_eq_some_iff.1 hy).1
 by_cases e : a = p
 ·subst e; exact ⟨x,by rw [List.getElem?_set_self hp]⟩
 ·exact ⟨y,by rw [List.getElem?_set_ne e]; exact hy⟩
theorem path_set {t : List (Option Slt)} {a p : Nat} {z : Slt} (x : Slt) (h : Path t z p) : Path (t.set a (some x)) z p := by
 intro j hj
 rw [List.length_set] at hj ⊢
 exact full_set x (h j hj)
theorem away_home {n a : Nat} {x : Slt} (ha : a < n) : (x.num % n + awayN n x a) % n = a := by
 have hx := Nat.mod_lt x.num (show 0 < n by omega)
 rw [awayN_ref x ha]
 split
 ·rw [show x.num % n + (a + n - x.num % n) = a + n by omega,Nat.add_mod_right,Nat.mod_eq_of_lt ha]
 ·rw [show x.num % n + (a - x.num % n) = a by omega,Nat.mod_eq_of_lt ha]
theorem away_next {n a : Nat} {x : Slt} (ha : a < n) {j : Nat} (hj : j < awayN n x ((a + 1) % n)) : j <= awayN n x a := by
 have hx := Nat.mod_lt x.num (show 0 < n by omega)
 have hb := Nat.mod_lt (a + 1) (show 0 < n by omega)
 rw [awayN_ref x hb] at hj
 rw [awayN_ref x ha]
 by_cases h : a + 1 < n
 ·rw [Nat.mod_eq_of_lt h] at hj
  split at hj <;> split <;> omega
 ·have e : a + 1 = n := by omega
  rw [e,Nat.mod_self] at hj
  split at hj <;> split <;> omega
theorem path_next {t : List (Option Slt)} {a : Nat} {x : Slt} (ha : a < t.length) (h : Path t x a) (hf : Full t a) : Path t x ((a + 1) % t.length) := by
 intro j hj
 have := away_next ha hj
 by_cases e : j = awayN t.length x a
 ·subst e; rw [away_home ha]; exact hf
 ·exact h j (by omega)
theorem run_set {t : List (Option Slt)} {a : Nat} {x : Slt} (h : Run t) (hp : Path t x a) (ha : a < t.length) : Run (t.set a (some x)) := by
 intro p z hz
 by_cases e : a = p
 ·subst e
  rw [List.getElem?_set_self ha] at hz
  cases hz
  exact path_set x hp
 ·rw [List.getElem?_set_ne e] at hz
  exact path_set x (h p z hz)
theorem stored_set {t : List (Option Slt)} {a : Nat} {x : Slt} (ha : a < t.length) (z : Slt) : Stored (t.set a (some x)) z ↔ z = x \/ ∃ p : Nat,p ≠ a /\ t[p]? = some (some z) := by
 constructor
 ·rintro ⟨p,hp⟩
  by_cases e : a = p
  ·subst e; rw [List.getElem?_set_self ha] at hp; cases hp; exact .inl rfl
  ·rw [List.getElem?_set_ne e] at hp; exact .inr ⟨p,fun h => e h.symm,hp⟩
 ·rintro (rfl | ⟨p,hp,h⟩)
  ·exact ⟨a,by rw [List.getElem?_set_self ha]⟩
  ·exact ⟨p,by rw [List.getElem?_set_ne (fun h => hp h.symm)]; exact h⟩
theorem put_run (n e : Nat) (he : e < n) : ∀ (f : Nat) (t : List (Option Slt)) (x : Slt) (a : Nat),t.length = n -> a < n -> t[e]? = some none -> gap n e a < f -> Run t -> Path t x a ->
  Run (putF f t x a) /\ ∀ z,Stored (putF f t x a) z ↔ z = x \/ Stored t z := by
 intro f
 induction f with
 | zero => intro t x a _ _ _ h; omega
 | succ f ih =>
  intro t x a hn ha hfree hg hr hp
  rw [putF]
  cases ht : t[a]? with
  | none => exfalso; rw [List.getElem?_eq_none_iff] at ht; omega
  | some o =>
   cases o with
   | none =>
    simp only
    refine ⟨run_set hr hp (by omega),fun z => ?_⟩
    rw [stored_set (by omega)]
    constructor
    ·rintro (h | ⟨p,_,h⟩)
     ·exact .inl h
     ·exact .inr ⟨p,h⟩
    ·rintro (h | ⟨p,h⟩)
     ·exact .inl h
     ·exact .inr ⟨p,(fun e => by subst e; rw [ht] at h; cases h),h⟩
   | some y =>
    simp only
    have hae : a ≠ e := fun h => by subst h; rw [ht] at hfree; cases hfree
    have hgs := gap_step ha he hae
    have hnx : (a + 1) % n < n := Nat.mod_lt _ (by omega)
    rw [hn]
    split
    ·have hr2 := run_set (x := x) hr hp (by omega)
     have hpy : Path (t.set a (some x)) y ((a + 1) % n) := by
      have h1 : Path t y ((a + 1) % t.length) := path_next (by omega) (hr a y ht) ⟨y,ht⟩
      rw [hn] at h1
      exact path_set x h1
     obtain ⟨h1,h2⟩ := ih (t.set a (some x)) y ((a + 1) % n) (by simp [hn]) hnx (by rw [List.getElem?_set_ne hae]; exact hfree) (by omega) hr2 hpy
     refine ⟨h1,fun z => ?_⟩
     rw [h2,stored_set (by omega)]
     constructor
     ·rintro (rfl | rfl | ⟨p,_,h⟩)
      ·exact .inr ⟨a,ht⟩
      ·exact .inl rfl
      ·exact .inr ⟨p,h⟩
     ·rintro (rfl | ⟨p,h⟩)
      ·exact .inr (.inl rfl)
      ·by_cases e : p = a
       ·subst e; rw [ht] at h; cases h; exact .inl rfl
       ·exact .inr (.inr ⟨p,e,h⟩)
    ·have h1 : Path t x ((a + 1) % t.length) := path_next (by omega) hp ⟨y,ht⟩
     rw [hn] at h1
     exact ih t x ((a + 1) % n) hn hnx hfree (by omega) hr h1
theorem path_home {t : List (Option Slt)} (x : Slt) (h : 0 < t.length) : Path t x (x.num % t.length) := by
 intro j hj
 rw [awayN_ref x (Nat.mod_lt _ h),if_neg (by omega),Nat.sub_self] at hj
 omega
theorem fill_run {n : Nat} (xs : List Slt) (h : xs.length < n) : Run (fillL n xs) /\ ∀ z,Stored (fillL n xs) z ↔ z ∈ xs := by
 have gen : ∀ (k : Nat),k <= xs.length -> Run (fillL n (xs.take k)) /\ ∀ z,Stored (fillL n (xs.take k)) z ↔ z ∈ xs.take k := by
  intro k
  induction k with
  | zero =>
   intro _
   refine ⟨fun p x hx => ?_,fun z => ⟨?_,fun hz => by simp at hz⟩⟩
   ·have := List.mem_of_getElem? hx; simp [fillL] at this
   ·rintro ⟨p,hp⟩; have := List.mem_of_getElem? hp; simp [fillL] at this
  | succ k ih =>
   intro hk
   obtain ⟨h1,h2⟩ := ih (by omega)
   rw [List.take_succ_eq_append_getElem (show k < xs.length by omega),fillL_snoc]
   obtain ⟨e,he,hf⟩ := fillL_free (n := n) (xs := xs.take k) (by simp; omega)
   have hl := fillL_length n (xs.take k)
   have := put_run n e he n (fillL n (xs.take k)) xs[k] (xs[k].num % n) hl (Nat.mod_lt _ (by omega)) hf (gap_lt (by omega)) h1 (by have := path_home (t := fillL n (xs.take k)) xs[k] (by omega); rwa [hl] at this)
   unfold putL
   rw [hl]
   refine ⟨this.1,fun z => ?_⟩
   rw [this.2,h2,List.mem_append]
   simp [or_comm]
 have := gen xs.length (Nat.le_refl _)
 rwa [List.take_length] at this
theorem slt_parts {x : Slt} (h1 : x.num < 4294967296) (h2 : x.blk < 4294967296) (h3 : x.no < 256) :
  ((sltB (some x)).getD 0 0).toNat = 1 /\ highL (((sltB (some x)).drop 1).take 4) = x.num /\ highL (((sltB (some x)).drop 5).take 4) = x.blk /\ ((sltB (some x)).getD 9 0).toNat = x.no := by
 have e : sltB (some x) = [1] ++ (lowL x.num 4 ++ (lowL x.blk 4 ++ lowL x.no 1)) := by simp [sltB,lowL]
 have l1 := lowL_len x.num 4
 have l2 := lowL_len x.blk 4
 rw [e]
 refine ⟨rfl,?_,?_,?_⟩
 ·rw [List.drop_append_of_le_length (by simp),List.drop_of_length_le (by simp),List.nil_append,List.take_append_of_le_length (by omega),List.take_of_length_le (by omega),highL_lowL _ _ (by omega)]
 ·have : ([1] ++ (lowL x.num 4 ++ (lowL x.blk 4 ++ lowL x.no 1))).drop 5 = lowL x.blk 4 ++ lowL x.no 1 := by
   rw [<- List.append_assoc,List.drop_append_of_le_length (by simp [l1]),List.drop_of_length_le (by simp [l1]),List.nil_append]
  rw [this,List.take_append_of_le_length (by omega),List.take_of_length_le (by omega),highL_lowL _ _ (by omega)]
 ·have : ([1] ++ (lowL x.num 4 ++ (lowL x.blk 4 ++ lowL x.no 1)))[9]? = some (UInt8.ofNat (x.no % 256)) := by
   rw [<- List.append_assoc,<- List.append_assoc,List.getElem?_append_right (by simp [l1,l2])]
   simp [l1,l2,lowL]
  rw [List.getD_eq_getElem?_getD,this]
  simp
  omega
def PlaceIs (log : List UInt8) (blk : Int) (x : Sd) : Prop := ∃ es k,blockP log x.blk blk = some (es,k) /\ es[x.no]? = some ⟨x.put,x.key,x.val⟩
theorem slot_says {log key : List UInt8} {blk : Int} {want k : Nat} {z : Slt} {x : Sd} (hp : PlaceIs log blk x) (hput : x.put = true) (hb : z.blk = x.blk) (hno : z.no = x.no) (hn : z.num < 4294967296) (hbl : z.blk < 4294967296) (hn2 : z.no < 256) :
  slotStep log key want blk k (sltB (some z)) = if z.num = want /\ x.key = key then some ⟨x.val,k + 1,0⟩ else none := by
 obtain ⟨p0,p1,p2,p3⟩ := slt_parts hn hbl hn2
 obtain ⟨es,kk,e1,e2⟩ := hp
 unfold slotStep
 rw [p0,p1,p2,p3,if_neg (by omega),hb,hno,e1]
 by_cases h : z.num = want
 ·rw [if_neg (by simp [h])]
  unfold entStep
  simp only [e2]
  rw [hput]
  by_cases hk : x.key = key <;> simp [h,hk]
 ·rw [if_pos (.inr h),if_neg (by simp [h])]
structure TabHolds (log : List UInt8) (seed bits : Int) (blk : Int) (live : List Sd) (t : List (Option Slt)) : Prop where
 run : Run t
 all : ∀ z,Stored t z ↔ z ∈ live.map (sltOf seed bits)
 keys : live.Pairwise (fun x y => x.key ≠ y.key)
 place : ∀ x ∈ live,PlaceIs log blk x /\ x.put = true /\ x.blk < 4294967296 /\ x.no < 256
 bits : 0 <= bits /\ bits <= 32
 pos : 0 < t.length
theorem TabHolds.slot {log : List UInt8} {seed bits blk : Int} {live : List Sd} {t : List (Option Slt)} (h : TabHolds log seed bits blk live t) {key : List UInt8} {p : Nat} {z : Slt} (hz : t[p]? = some (some z)) (want k : Nat) :
  ∃ x ∈ live,z = sltOf seed bits x /\ slotStep log key want blk k (sltB (some z)) = if z.num = want /\ x.key = key then some ⟨x.val,k + 1,0⟩ else none := by
 obtain ⟨x,hx,rfl⟩ := List.mem_map.1 ((h.all z).1 ⟨p,hz⟩)
 obtain ⟨h1,h2,h3,h4⟩ := h.place x hx
 have hr := numberI_range seed bits x.key h.bits.1 h.bits.2
 exact ⟨x,hx,rfl,slot_says h1 h2 rfl rfl (by show (numberI seed bits x.key).toNat < _; omega) h3 h4⟩
theorem low_cut (pre mid post : List UInt8) (k n : Nat) (hk : pre.length = k) (hm : mid.length = n) : ((pre ++ (mid ++ post)).drop k).take n = mid := by
 rw [List.drop_append_of_le_length (by omega),List.drop_of_length_le (by omega),List.nil_append,List.take_append_of_le_length (by omega),List.take_of_length_le (by omega)]
theorem sealL_sealed (l : List UInt8) : sealedB (sealL l) = true := by
 unfold sealedB
 rw [sealL_length,show l.length + 4 - 4 = l.length by omega]
 have : (sealL l).take l.length = l := by unfold sealL; rw [List.take_append_of_le_length (by omega),List.take_of_length_le (by omega)]
 rw [this]
 simp
theorem sumI_lt (l : List UInt8) : 0 <= sumI l /\ sumI l < 4294967296 := by unfold sumI; omega
end Go.Proofs.YtdhgebdbiehchaaGreatDoor
