/- On the way: Num. -/
import Derived.Test.YtdhgebdbiehchaaGreatDoorB02
import Derived.Deep.RegionWith
import Derived.Deep.RegionHeld3
import Derived.Deep.QuietTactic
import Derived.BigQuiet
namespace Go.Proofs.YtdhgebdbiehchaaGreatDoor
open Go.RowKit
set_option linter.unusedSimpArgs false
set_option linter.unusedVariables false
set_option maxRecDepth 100000
set_option maxHeartbeats 800000
theorem recNumber_any (blk seed bits : Int) (key : ByteArray) (w : World) (h0 : 0 <= seed) (h1 : seed <= 4294967295) (hb0 : 0 <= bits) (hb1 : bits <= 32) (hs : key.size <= 140737488351232) :
  Calls Tryz.prog 93 #[.agg #[.int .i64 blk,.int .i64 seed,.int .i64 bits],.string key] w fun e w' => e = .returned (.int .i64 (numberI seed bits key.data.toList)) /\ Below w.heap.size w w' := by
 go_enter Tryz.func93,Tryz.ntmps93
 go_wp2_with fail
 refine (appendLow_any _ [] seed 4 _ (w.heap.size + 1) h0 (by omega) (by omega) (World.ownsRow_nil _ _ _ _) (by simp) (by simp)).mono ?_
 rintro e w1 ⟨v,rfl,hown,hb⟩
 obtain ⟨g,cap,hv,hg0,hg1,hgc⟩ := own_shape hown (by simp)
 subst hv
 have hstr : strOfNums ((lowL seed.toNat 4).map fun b => (b.toNat : Int)) = S (lowL seed.toNat 4) := by unfold strOfNums S; rw [bytes_back]
 have hcv : ∀ (wx : World) (hx : ∀ j,wx.cell? ⟨g,j,none⟩ = w1.cell? ⟨g,j,none⟩),(convert 43 9 (.slice (some ⟨g,0,none⟩) 4 cap)).run Tryz.prog wx = .ok (.string (S (lowL seed.toNat 4))) wx := fun wx hx => hstr ▸ run_convert_bytes_arg (P := Tryz.prog) wx 43 5 Tryz.underlying43 Tryz.underlying5 g 0 4 cap ((lowL seed.toNat 4).map fun b => (b.toNat : Int)) (by simp [lowL_length]) (fun i hi => by
  rw [Nat.zero_add,hx,hgc i (by simpa using hi)]
  simp [cellsB,lowL_length,hi]) 9 Tryz.underlying9
 have hcv1 := hcv w1.drew (fun _ => rfl)
 clear hstr
 have hc0 : w1.cell? ⟨w.heap.size,2,none⟩ = some (.int .i64 bits) := by
  rw [hb.cell (p := ⟨w.heap.size,2,none⟩) (by simp)]
  simp
 have hz : w.heap.size + 1 <= w1.heap.size := by have := hb.size; simpa using this
 go_wp2_with fail
 have hz' : w.heap.size < w1.heap.size := by omega
 have hne : ¬ w.heap.size = w1.heap.size := by omega
 have hz4 : (S (lowL seed.toNat 4)).size = 4 := by rw [S_size,lowL_length]
 obtain ⟨bt,rfl⟩ := Int.eq_ofNat_of_zero_le hb0
 have hy1 : (bt : Int) <= 64 := by omega
 go_region_held3 (fun w' => w'.cell? ⟨w.heap.size,2,none⟩ = some (.int .i64 (bt : Int)) /\ (convert 43 9 (.slice (some ⟨g,0,none⟩) 4 cap)).run Tryz.prog w' = .ok (.string (S (lowL seed.toNat 4))) w') (first | (exact ⟨by simpa using hc0,hcv1⟩) | (exact ⟨(past_drew _ _ hz').trans hc0,hcv _ (fun j => past_drew _ _ hg1)⟩)) (first | (go_at_call 152; refine (hash2_any _ _ (S (lowL seed.toNat 4)) key _ ?_ ?_ ?_ ?_).mono ?_; (simp); (simp); (omega); (omega); rintro e w' ⟨H,rfl,hH0,hH1,hH,rfl⟩))
 go_wp2
 go_ret
 refine ⟨ret_int ?_,?_⟩
 ·rw [number_mask hH0 hH1 (by omega),hH.out,S_data]; simp [numberI]
 ·exact ((((Below.refl _ _).alloc (Nat.le_refl _) _).trans (hb.mono (by omega))).alloc (by have := hb.size; simp at this; omega) _).drew
end Go.Proofs.YtdhgebdbiehchaaGreatDoor
