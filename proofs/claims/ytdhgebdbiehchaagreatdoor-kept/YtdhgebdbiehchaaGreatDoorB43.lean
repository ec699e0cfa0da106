/- On the way: PCreate4, KpBegun. -/
import Derived.Test.YtdhgebdbiehchaaGreatDoorB38
namespace Go.Proofs.YtdhgebdbiehchaaGreatDoor
open Go.RowKit Go.Maps
set_option linter.unusedVariables false
theorem create_any (E : Sent) (n : Nat) (G : Nat -> Prop) (bs : Nat) (d : Dk) (q : StP) (a b c : Int) (w : World) (hE : Env0 n w E) (hG : ∀ k,G k -> n <= k /\ k < w.heap.size) (hS : StoreAt w G bs d q) (hok : DkOk d) :
  Calls Tryz.prog 36 #[.pointer (some ⟨bs,0,none⟩),.agg #[.int .i64 a,.int .i64 b,.int .i64 c]] w fun e w' => e = .returned (.int .i64 (d.create a b c).1) /\ Done E G bs w (d.create a b c).2 w' := by
 by_cases h : wellB a b c = false \/ d.down = true \/ d.f0.isSome = true
 ·exact create_not E n G bs d q a b c w hE hS h
 ·have hw : wellB a b c = true := by cases hh : wellB a b c; exact absurd (.inl hh) h; rfl
  have hd : d.down = false := by cases hh : d.down; rfl; exact absurd (.inr (.inl hh)) h
  have hf : d.f0.isSome = false := by cases hh : d.f0.isSome; rfl; exact absurd (.inr (.inr hh)) h
  have hwb := hw
  unfold wellB at hwb
  simp only [Bool.and_eq_true,decide_eq_true_eq] at hwb
  obtain ⟨a',rfl⟩ := Int.eq_ofNat_of_zero_le (show 0 <= a by omega)
  obtain ⟨b',rfl⟩ := Int.eq_ofNat_of_zero_le (show 0 <= b by omega)
  obtain ⟨c',rfl⟩ := Int.eq_ofNat_of_zero_le (show 0 <= c by omega)
  exact create_new E n G bs d q a' b' c' w hE hG hS hok hw hd hf
end Go.Proofs.YtdhgebdbiehchaaGreatDoor
namespace Go.Proofs.YtdhgebdbiehchaaGreatDoor
open Go.RowKit Go.Maps
set_option linter.unusedSimpArgs false
set_option linter.unusedVariables false
set_option maxRecDepth 100000
set_option maxHeartbeats 1600000
theorem below_of_chg {n : Nat} {w w2 w' : World} {G : Nat -> Prop} (hb : Below n w w2) (hc : Chg G w2 w') (hG : ∀ k,G k -> n <= k) (hn : n <= w2.heap.size) : Below n w w' :=
 hb.trans ⟨hc.os,hc.tape,hc.output,hc.size,fun k hk => hc.keep k (by omega) (fun hg => absurd (hG k hg) (by omega))⟩
theorem headL_front (blk seed bits : Nat) (post : List UInt8) : (headL blk seed bits ++ post).take 2 = [76,71] := by
 unfold headL sealL
 rfl
theorem kbegun_any (E : Sent) (n : Nat) (blk seed bits : Nat) (w : World) (hE : Env0 n w E) (h1 : 1 <= blk) (h2 : blk <= 400) (h3 : seed <= 4294967295) (h4 : bits <= 32) :
  Calls Tryz.prog 13 #[.agg #[.int .i64 (blk : Int),.int .i64 (seed : Int),.int .i64 (bits : Int)]] w fun e w' => ∃ bs q,e = .returned (.pointer (some ⟨bs,0,none⟩)) /\ StoreAt w' (Gnew w w') bs (kdk blk seed bits [] 14 none []) q /\ Below w.heap.size w w' := by
 obtain ⟨hcr,hK⟩ := k_begun h1 h2 h3 h4
 have HD : Hid (∀ w1 : World,Below w.heap.size w w1 -> Calls Tryz.prog 35 #[.int .i64 100000] w1 fun e w' => ∃ bs q,e = .returned (.tuple #[.pointer (some ⟨bs,0,none⟩),.int .i64 0]) /\ StoreAt w' (Gnew w w') bs (dk0 100000) q /\ Below w.heap.size w w' /\ Below w1.heap.size w1 w') := fun w1 hb => by
  refine (disk_good 100000 w1 (by omega)).mono ?_
  rintro e w' ⟨bs,q,rfl,a1,a2⟩
  exact ⟨bs,q,rfl,a1.mono (fun k hk => ⟨Nat.le_trans hb.size hk.1,hk.2⟩),hb.trans (a2.mono hb.size),a2⟩
 have HC : Hid (∀ (w2 : World) (bs : Nat) (q : StP),Below w.heap.size w w2 -> StoreAt w2 (Gnew w w2) bs (dk0 100000) q -> Calls Tryz.prog 36 #[.pointer (some ⟨bs,0,none⟩),.agg #[.int .i64 (blk : Int),.int .i64 (seed : Int),.int .i64 (bits : Int)]] w2 fun e w' => e = .returned (.int .i64 0) /\ (∃ q',StoreAt w' (Gnew w w') bs (kdk blk seed bits [] 14 none []) q') /\ Below w.heap.size w w') := fun w2 bs q hb hS => by
  have hok : DkOk (dk0 100000) := DkOk.disk (room := 100000) rfl
  have := create_any E n (Gnew w w2) bs (dk0 100000) q blk seed bits w2 (hE.below (hb.mono hE.le)) (fun k hk => ⟨Nat.le_trans hE.le hk.1,hk.2⟩) hS hok
  refine this.mono ?_
  have hcr' : (dk0 100000).create (blk : Int) (seed : Int) (bits : Int) = (0,kdk blk seed bits [] 14 none []) := hcr
  rw [hcr']
  rintro e w' ⟨rfl,⟨q',b1⟩,b2⟩
  have hz := b2.size
  refine ⟨rfl,⟨q',b1.mono ?_⟩,?_⟩
  ·rintro k (hk | hk)
   ·exact ⟨hk.1,Nat.lt_of_lt_of_le hk.2 hz⟩
   ·exact ⟨Nat.le_trans hb.size hk.1,hk.2⟩
  ·exact below_of_chg hb b2 (fun k hk => hk.1) hb.size
 have HF : Hid (∀ (w3 : World) (bs : Nat) (q : StP),Below w.heap.size w w3 -> StoreAt w3 (Gnew w w3) bs (kdk blk seed bits [] 14 none []) q -> Calls Tryz.prog 19 #[.pointer (some ⟨bs,0,none⟩),.string ⟨#[108,111,103]⟩] w3 fun e w' => e = .returned (.tuple #[.string (S (headL blk seed bits)),.int .i64 0]) /\ (∃ q',StoreAt w' (Gnew w w') bs (kdk blk seed bits [] 14 none []) q') /\ Below w.heap.size w w') := fun w3 bs q hb hS => by
  refine (fileS_any E n (Gnew w w3) bs _ q ⟨#[108,111,103]⟩ w3 (hE.below (hb.mono hE.le)) hS (by decide)).mono ?_
  rintro e w' ⟨rfl,b2⟩
  refine ⟨?_,⟨q,(hS.below b2).mono (fun k hk => ⟨hk.1,Nat.lt_of_lt_of_le hk.2 b2.size⟩)⟩,hb.trans (b2.mono hb.size)⟩
  show Ending.returned (.tuple #[.string (S (headL blk seed bits ++ blocksB [])),.int .i64 0]) = _
  rw [show blocksB [] = [] from rfl,List.append_nil]
 have hl := headL_length blk seed bits
 have zl : (S (headL blk seed bits)).size = 14 := by rw [S_size,hl]
 have HCU : ∀ wx : World,(Instr.slice 9 (.string (S (headL blk seed bits))) none (some (.int .i64 2)) none).run Tryz.prog wx = .ok (.string (S [76,71])) wx := by
  intro wx
  have := cut_upto (S (headL blk seed bits)) 2 (by omega) 2 rfl wx
  rw [show (S (headL blk seed bits)).data.toList = headL blk seed bits from rfl] at this
  have e := headL_front blk seed bits []
  rw [List.append_nil] at e
  rw [e] at this
  exact this
 have hcmp : ((S [76,71]).toList == [76,71]) = true := by rw [ByteArray.toList_eq,S_data]; rfl
 generalize headL blk seed bits = hd at *
 clear hcr hK
 go_enter Tryz.func13,Tryz.ntmps13
 go_wp2_with (first | (go_at_call 35; refine (HD.out _ ?_).mono ?_; exact (Below.refl _ _).alloc (Nat.le_refl _) _; rintro e w2 ⟨bs,q,rfl,hS2,hb2,hb3⟩; have hx := (bx_new w #[.int .i64 (blk : Int),.int .i64 (seed : Int),.int .i64 (bits : Int)] 29 rfl).below hb3 (by simp); have x0 := hx.cell (j := 0) rfl; have x1 := hx.cell (j := 1) rfl; have x2 := hx.cell (j := 2) rfl; have HS2 : Hid (StoreAt w2 (Gnew w w2) bs (dk0 100000) q) := hS2; have HB2 : Hid (Below w.heap.size w w2) := hb2; clear hS2 hb2 hb3 hx) | (go_at_call 36; refine (HC.out w2 bs q HB2.out HS2.out).mono ?_; rintro e w3 ⟨rfl,⟨q3,hS3⟩,hb3⟩; have HS3 : Hid (StoreAt w3 (Gnew w w3) bs (kdk blk seed bits [] 14 none []) q3) := hS3; have HB3 : Hid (Below w.heap.size w w3) := hb3; clear hS3 hb3 x0 x1 x2) | (go_at_call 19; refine (HF.out w3 bs q3 HB3.out HS3.out).mono ?_; rintro e w4 ⟨rfl,⟨q4,hS4⟩,hb4⟩; have HS4 : Hid (StoreAt w4 (Gnew w w4) bs (kdk blk seed bits [] 14 none []) q4) := hS4; have HB4 : Hid (Below w.heap.size w w4) := hb4; clear hS4 hb4))
 go_ret
 exact ⟨bs,q4,rfl,HS4.out,HB4.out⟩
end Go.Proofs.YtdhgebdbiehchaaGreatDoor
