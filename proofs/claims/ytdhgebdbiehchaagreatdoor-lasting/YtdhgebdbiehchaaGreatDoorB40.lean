/- On the way: KpVal, KpCfg. -/
import Derived.Test.YtdhgebdbiehchaaGreatDoorB07
import Derived.Test.YtdhgebdbiehchaaGreatDoorB19
import Derived.Test.YtdhgebdbiehchaaGreatDoorB03
namespace Go.Proofs.YtdhgebdbiehchaaGreatDoor
open Go.RowKit
set_option linter.unusedSimpArgs false
set_option linter.unusedVariables false
set_option maxRecDepth 100000
set_option maxHeartbeats 3200000
def letterK (c : Int) (i : Nat) : Nat := ((i : Int) + c.tmod 5 + 5).toNat % 5 + 97
def valueK (c : Int) : List UInt8 := (List.range (pickK c 31).toNat).map fun i => UInt8.ofNat (letterK c i)
theorem valueK_len (c : Int) : (valueK c).length <= 30 := by
 have := pickK_range (c := c) (n := 31) (by omega)
 unfold valueK
 simp
 omega
theorem conv1 (X : World) (a : Int) : (convert 43 9 (.slice (some ⟨X.heap.size,0,none⟩) 1 1)).run Tryz.prog (X.alloc (.cells #[.int .u8 a] 5)) = .ok (.string (strOfNums [a])) (X.alloc (.cells #[.int .u8 a] 5)) := by
 refine run_convert_bytes_arg (P := Tryz.prog) (X.alloc (.cells #[.int .u8 a] 5)) 43 5 Tryz.underlying43 Tryz.underlying5 X.heap.size 0 1 1 [a] rfl (fun i hi => ?_) 9 Tryz.underlying9
 rw [World.cell?_alloc_new]
 match i,hi with
 | 0,_ => rfl
theorem kvalue_any (c : Int) (w : World) (hc : IntR c) :
  Calls Tryz.prog 25 #[.int .i64 c] w fun e w' => e = .returned (.string (S (valueK c))) /\ Below w.heap.size w w' := by
 have hr := pickK_range (c := c) (n := 31) (by omega)
 have HP : Hid (∀ wx : World,Calls Tryz.prog 16 #[.int .i64 c,.int .i64 31] wx fun e w' => e = .returned (.int .i64 (((pickK c 31).toNat : Nat) : Int)) /\ w' = wx) := fun wx => by
  have := kpick_any c 31 wx (by omega) hc (by omega)
  rw [show (((pickK c 31).toNat : Nat) : Int) = pickK c 31 by omega]
  exact this
 have hv : valueK c = (List.range (pickK c 31).toNat).map fun i => UInt8.ofNat (letterK c i) := rfl
 rw [hv]
 have hn : (pickK c 31).toNat <= 30 := by omega
 generalize (pickK c 31).toNat = n at *
 have hm1 := Int.tmod_lt_of_pos c (show (0 : Int) < 5 by omega)
 have hm2 : -5 < c.tmod 5 := Int.lt_tmod_of_pos c (by omega)
 clear hr hv
 go_enter Tryz.func25,Tryz.ntmps25
 go_wp2
 go_loopw [3,4] (fun s i wr => ∃ (k : Nat),k <= n /\ i = .int .i64 k /\ s = .string (S ((List.range k).map fun i => UInt8.ofNat (letterK c i))) /\ Below w.heap.size w wr) (fun _ i _ => n - (intOf i).toNat)
 case atStart => exact ⟨0,by omega,rfl,rfl,Below.refl _ _⟩
 case round =>
  obtain ⟨k,hk,rfl,rfl,hb⟩ := hrel
  by_cases hlt : k < n
  ·have hcv := conv1 wr
   have zs : (S ((List.range k).map fun i => UInt8.ofNat (letterK c i))).size = k := by rw [S_size]; simp
   have HX : Hid (S ((List.range k).map fun i => UInt8.ofNat (letterK c i)) ++ strOfNums [97 + ((k : Int) + c.tmod 5) % 5] = S ((List.range (k + 1)).map fun i => UInt8.ofNat (letterK c i))) := by
    show _ = _
    rw [List.range_succ,List.map_append,<- S_append]
    congr 1
    unfold strOfNums S letterK
    congr 1
    have : (97 + ((k : Int) + c.tmod 5) % 5).toNat = ((k : Int) + c.tmod 5 + 5).toNat % 5 + 97 := by omega
    simp [this]
   have zn : ∀ v : Int,(strOfNums [v]).size = 1 := fun v => rfl
   generalize (S ((List.range k).map fun i => UInt8.ofNat (letterK c i))) = sk at *
   have hB : Below w.heap.size w (wr.alloc (.cells #[.int .u8 (97 + ((k : Int) + c.tmod 5) % 5)] 5)) := hb.alloc hb.size _
   go_wp2_with (first | (go_at_call 16; refine (HP.out _).mono ?_; rintro e wr ⟨rfl,rfl⟩))
   go_roundw
   case rel => exact ⟨k + 1,by omega,by go_num,by rw [HX.out],hB⟩
   case measure => simp [intOf]; omega
  ·go_wp2_with (first | (go_at_call 16; refine (HP.out _).mono ?_; rintro e wr ⟨rfl,rfl⟩))
   go_ret
   have e : k = n := by omega
   subst e
   exact ⟨rfl,hb⟩
def bitsK (n : Nat) : Nat := if n = 0 then 0 else if n = 1 then 1 else if n = 2 then 3 else if n = 3 then 8 else 32
def cfgBlk (g : List Int) : Nat := 1 + (pickK (rawK g 0) 400).toNat
def cfgSeed (g : List Int) : Nat := (pickK (rawK g 1) 4294967296).toNat
def cfgBits (g : List Int) : Nat := bitsK (pickK (rawK g 2) 5).toNat
theorem raw_range {g : List Int} (h : ∀ x ∈ g,IntR x) (i : Nat) : IntR (rawK g i) := by
 unfold rawK
 rw [List.getD_eq_getElem?_getD]
 cases hq : g[i % g.length]? with
 | none => exact ⟨by decide,by decide⟩
 | some x => exact h x (List.mem_of_getElem? hq)
theorem cfg_range (g : List Int) : 1 <= cfgBlk g /\ cfgBlk g <= 400 /\ cfgSeed g <= 4294967295 /\ cfgBits g <= 32 := by
 have h0 := pickK_range (c := rawK g 0) (n := 400) (by omega)
 have h1 := pickK_range (c := rawK g 1) (n := 4294967296) (by omega)
 refine ⟨by unfold cfgBlk; omega,by unfold cfgBlk; omega,by unfold cfgSeed; omega,?_⟩
 unfold cfgBits bitsK
 split
 ·omega
 ·split
  ·omega
  ·split
   ·omega
   ·split <;> omega
theorem kconfig_any (a : Option Addr) (g : List Int) (cap : Nat) (w : World) (h : IntsAt w a g) (hg : ∀ x ∈ g,IntR x) (hl : g.length <= 9223372036854775807) :
  Calls Tryz.prog 14 #[.slice a g.length cap] w fun e w' => e = .returned (.agg #[.int .i64 (cfgBlk g : Int),.int .i64 (cfgSeed g : Int),.int .i64 (cfgBits g : Int)]) /\ Below w.heap.size w w' := by
 have HR0 : Hid (∀ wx : World,Below w.heap.size w wx -> Calls Tryz.prog 37 #[.slice a g.length cap,.int .i64 0] wx fun e w' => e = .returned (.int .i64 (rawK g 0)) /\ w' = wx) := fun wx hb => kraw_any a g cap 0 wx (h.below hb) (by omega) hl
 have HR1 : Hid (∀ wx : World,Below w.heap.size w wx -> Calls Tryz.prog 37 #[.slice a g.length cap,.int .i64 1] wx fun e w' => e = .returned (.int .i64 (rawK g 1)) /\ w' = wx) := fun wx hb => kraw_any a g cap 1 wx (h.below hb) (by omega) hl
 have HR2 : Hid (∀ wx : World,Below w.heap.size w wx -> Calls Tryz.prog 37 #[.slice a g.length cap,.int .i64 2] wx fun e w' => e = .returned (.int .i64 (rawK g 2)) /\ w' = wx) := fun wx hb => kraw_any a g cap 2 wx (h.below hb) (by omega) hl
 have g0 := pickK_range (c := rawK g 0) (n := 400) (by omega)
 have g1 := pickK_range (c := rawK g 1) (n := 4294967296) (by omega)
 have g2 := pickK_range (c := rawK g 2) (n := 5) (by omega)
 have HP0 : Hid (∀ wx : World,Calls Tryz.prog 16 #[.int .i64 (rawK g 0),.int .i64 400] wx fun e w' => e = .returned (.int .i64 (((pickK (rawK g 0) 400).toNat : Nat) : Int)) /\ w' = wx) := fun wx => by
  have := kpick_any (rawK g 0) 400 wx (by omega) (raw_range hg 0) (by omega)
  rw [show (((pickK (rawK g 0) 400).toNat : Nat) : Int) = pickK (rawK g 0) 400 by omega]
  exact this
 have HP1 : Hid (∀ wx : World,Calls Tryz.prog 16 #[.int .i64 (rawK g 1),.int .i64 4294967296] wx fun e w' => e = .returned (.int .i64 (((pickK (rawK g 1) 4294967296).toNat : Nat) : Int)) /\ w' = wx) := fun wx => by
  have := kpick_any (rawK g 1) 4294967296 wx (by omega) (raw_range hg 1) (by omega)
  rw [show (((pickK (rawK g 1) 4294967296).toNat : Nat) : Int) = pickK (rawK g 1) 4294967296 by omega]
  exact this
 have HP2 : Hid (∀ wx : World,Calls Tryz.prog 16 #[.int .i64 (rawK g 2),.int .i64 5] wx fun e w' => e = .returned (.int .i64 (((pickK (rawK g 2) 5).toNat : Nat) : Int)) /\ w' = wx) := fun wx => by
  have := kpick_any (rawK g 2) 5 wx (by omega) (raw_range hg 2) (by omega)
  rw [show (((pickK (rawK g 2) 5).toNat : Nat) : Int) = pickK (rawK g 2) 5 by omega]
  exact this
 have e0 : cfgBlk g = 1 + (pickK (rawK g 0) 400).toNat := rfl
 have e1 : cfgSeed g = (pickK (rawK g 1) 4294967296).toNat := rfl
 have e2 : cfgBits g = bitsK (pickK (rawK g 2) 5).toNat := rfl
 rw [e0,e1,e2]
 clear e0 e1 e2 hg h
 have g0' : (pickK (rawK g 0) 400).toNat < 400 := by omega
 have g1' : (pickK (rawK g 1) 4294967296).toNat < 4294967296 := by omega
 have g2' : (pickK (rawK g 2) 5).toNat < 5 := by omega
 clear g0 g1 g2
 generalize (pickK (rawK g 0) 400).toNat = n0 at *
 generalize (pickK (rawK g 1) 4294967296).toNat = n1 at *
 generalize (pickK (rawK g 2) 5).toNat = n2 at *
 generalize rawK g 0 = r0 at *
 generalize rawK g 1 = r1 at *
 generalize rawK g 2 = r2 at *
 have hB : ∀ o : Obj,Below w.heap.size w (w.alloc o) := fun o => (Below.refl _ _).alloc (Nat.le_refl _) o
 rcases (show n2 = 0 \/ n2 = 1 \/ n2 = 2 \/ n2 = 3 \/ n2 = 4 by omega) with rfl | rfl | rfl | rfl | rfl
 all_goals
  go_enter Tryz.func14,Tryz.ntmps14
  go_wp2_with fail
  refine (HR0.out _ (hB _)).mono ?_
  rintro e w2 ⟨rfl,rfl⟩
  go_wp2_with fail
  refine (HP0.out _).mono ?_
  rintro e w2 ⟨rfl,rfl⟩
  go_wp2_with fail
  refine (HR1.out _ (hB _)).mono ?_
  rintro e w2 ⟨rfl,rfl⟩
  go_wp2_with fail
  refine (HP1.out _).mono ?_
  rintro e w2 ⟨rfl,rfl⟩
  go_wp2_with fail
  refine (HR2.out _ ((hB _).alloc (hB _).size _)).mono ?_
  rintro e w2 ⟨rfl,rfl⟩
  go_wp2_with fail
  refine (HP2.out _).mono ?_
  rintro e w2 ⟨rfl,rfl⟩
  go_wp2
  refine bodyPost_ret (v := .agg #[.int .i64 (1 + (n0 : Int)),.int .i64 (n1 : Int),.int .i64 (bitsK _ : Int)]) ?_ rfl ⟨by rw [show (1 + (n0 : Int)) = ((1 + n0 : Nat) : Int) by omega],?_⟩
  ·simp [results,Tryz.results14,go_sem,bitsK]
  ·exact (hB _).alloc (hB _).size _
end Go.Proofs.YtdhgebdbiehchaaGreatDoor
