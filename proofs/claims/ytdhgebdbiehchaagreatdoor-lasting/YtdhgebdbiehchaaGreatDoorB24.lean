/- On the way: SortLay. -/
import Derived.Test.YtdhgebdbiehchaaGreatDoorB22
import Derived.Shelf.SlSortCmp.WholeK
import Derived.Ground.SlsfProg
namespace Go.Proofs.YtdhgebdbiehchaaGreatDoor
open Go.RowKit
open Go.Shelf
set_option linter.unusedSimpArgs false
set_option linter.unusedVariables false
def Tryz.sortPl_ren : Go.Shelf.Ren := ⟨fun | 6 => 189 | 15 => 208 | 14 => 207 | 28 => 220 | 29 => 221 | 20 => 212 | 21 => 213 | 22 => 214 | 23 => 215 | 24 => 216 | 25 => 217 | 26 => 218 | 27 => 219 | 46 => 224 | 47 => 225 | 48 => 226 | 49 => 227 | 50 => 228 | 57 => 233 | n => n,fun | 22 => 166 | 24 => 165 | 25 => 248 | 3 => 3 | 39 => 308 | 0 => 0 | 53 => 227 | 55 => 251 | 4 => 4 | 46 => 319 | 45 => 318 | 50 => 323 | 5 => 5 | 9 => 9 | 66 => 328 | 70 => 332 | 76 => 338 | 77 => 339 | n => n,fun | n => n⟩
theorem Tryz.sortPl : Go.Proofs.SlLaysF0.n6 Tryz.prog Tryz.sortPl_ren := {
 mixed := by kernel_rfl,
 f6 := ⟨Tryz.f189.name,by decide,Tryz.func189.trans (congrArg some (by kernel_rfl))⟩,
 f14 := ⟨Tryz.f207.name,by decide,Tryz.func207.trans (congrArg some (by kernel_rfl))⟩,
 f15 := Tryz.func208.trans (congrArg some (by kernel_rfl)),
 f20 := ⟨Tryz.f212.name,by decide,Tryz.func212.trans (congrArg some (by kernel_rfl))⟩,
 f21 := ⟨Tryz.f213.name,by decide,Tryz.func213.trans (congrArg some (by kernel_rfl))⟩,
 f22 := ⟨Tryz.f214.name,by decide,Tryz.func214.trans (congrArg some (by kernel_rfl))⟩,
 f23 := ⟨Tryz.f215.name,by decide,Tryz.func215.trans (congrArg some (by kernel_rfl))⟩,
 f24 := ⟨Tryz.f216.name,by decide,Tryz.func216.trans (congrArg some (by kernel_rfl))⟩,
 f25 := ⟨Tryz.f217.name,by decide,Tryz.func217.trans (congrArg some (by kernel_rfl))⟩,
 f26 := ⟨Tryz.f218.name,by decide,Tryz.func218.trans (congrArg some (by kernel_rfl))⟩,
 f27 := ⟨Tryz.f219.name,by decide,Tryz.func219.trans (congrArg some (by kernel_rfl))⟩,
 f28 := Tryz.func220.trans (congrArg some (by kernel_rfl)),
 f29 := Tryz.func221.trans (congrArg some (by kernel_rfl)),
 f46 := ⟨Tryz.f224.name,by decide,Tryz.func224.trans (congrArg some (by kernel_rfl))⟩,
 f47 := Tryz.func225.trans (congrArg some (by kernel_rfl)),
 f48 := Tryz.func226.trans (congrArg some (by kernel_rfl)),
 f49 := ⟨Tryz.f227.name,by decide,Tryz.func227.trans (congrArg some (by kernel_rfl))⟩,
 f50 := ⟨Tryz.f228.name,by decide,Tryz.func228.trans (congrArg some (by kernel_rfl))⟩,
 f57 := ⟨Tryz.f233.name,by decide,Tryz.func233.trans (congrArg some (by kernel_rfl))⟩,
 t0 := Tryz.underlying0,
 a0 := Tryz.isAgg0,
 z0 := Tryz.sizeOf0,
 v0 := Tryz.zeroValue0,
 t3 := Tryz.underlying3,
 a3 := Tryz.isAgg3,
 z3 := Tryz.sizeOf3,
 v3 := Tryz.zeroValue3,
 t4 := Tryz.underlying4,
 a4 := Tryz.isAgg4,
 z4 := Tryz.sizeOf4,
 v4 := Tryz.zeroValue4,
 t5 := Tryz.underlying5,
 a5 := Tryz.isAgg5,
 z5 := Tryz.sizeOf5,
 v5 := Tryz.zeroValue5,
 t9 := Tryz.underlying9,
 a9 := Tryz.isAgg9,
 z9 := Tryz.sizeOf9,
 v9 := Tryz.zeroValue9,
 t22 := Tryz.underlying166,
 a22 := Tryz.isAgg166,
 z22 := Tryz.sizeOf166,
 v22 := Tryz.zeroValue166,
 t25 := Tryz.underlying248,
 a25 := Tryz.isAgg248,
 z25 := Tryz.sizeOf248,
 v25 := Tryz.zeroValue248,
 t39 := Tryz.underlying308,
 a39 := Tryz.isAgg308,
 z39 := Tryz.sizeOf308,
 v39 := Tryz.zeroValue308,
 t45 := Tryz.underlying318,
 a45 := Tryz.isAgg318,
 z45 := Tryz.sizeOf318,
 v45 := Tryz.zeroValue318,
 t46 := Tryz.underlying319,
 a46 := Tryz.isAgg319,
 z46 := Tryz.sizeOf319,
 v46 := Tryz.zeroValue319,
 t50 := Tryz.underlying323,
 a50 := Tryz.isAgg323,
 z50 := Tryz.sizeOf323,
 v50 := Tryz.zeroValue323,
 t53 := Tryz.underlying227,
 a53 := Tryz.isAgg227,
 z53 := Tryz.sizeOf227,
 v53 := Tryz.zeroValue227,
 t55 := Tryz.underlying251,
 a55 := Tryz.isAgg251,
 z55 := Tryz.sizeOf251,
 v55 := Tryz.zeroValue251,
 t66 := Tryz.underlying328,
 a66 := Tryz.isAgg328,
 z66 := Tryz.sizeOf328,
 v66 := Tryz.zeroValue328,
 t70 := Tryz.underlying332,
 a70 := Tryz.isAgg332,
 z70 := Tryz.sizeOf332,
 v70 := Tryz.zeroValue332,
 t76 := Tryz.underlying338,
 a76 := Tryz.isAgg338,
 z76 := Tryz.sizeOf338,
 v76 := Tryz.zeroValue338,
 t77 := Tryz.underlying339,
 a77 := Tryz.isAgg339,
 z77 := Tryz.sizeOf339,
 v77 := Tryz.zeroValue339 }
def encP (x : Int × Int) : List Value := [.int .i64 x.1,.int .i64 x.2]
def cmpP (x y : Int × Int) : Int := orI (cmpI x.1 y.1) (cmpI x.2 y.2)
theorem ltP (x y : Int × Int) : ltOf cmpP x y = decide (x.1 < y.1 \/ (x.1 = y.1 /\ x.2 < y.2)) := by
 unfold ltOf cmpP orI cmpI
 by_cases h1 : x.1 < y.1
 ·simp [h1]
 ·by_cases h2 : y.1 < x.1
  ·have : x.1 ≠ y.1 := by omega
   simp [h1,h2,this]
  ·have : x.1 = y.1 := by omega
   by_cases h3 : x.2 < y.2
   ·simp [this,h3]
   ·by_cases h4 : y.2 < x.2 <;> simp [this,h3,h4]
theorem swoP : Sort.SWO (ltOf cmpP) where
 irrefl x := by rw [ltP]; simp
 trans x y z h1 h2 := by rw [ltP] at *; simp at *; omega
 ntrans x y z h1 h2 := by rw [ltP] at *; simp at *; omega
theorem cmpLaysP (blk off size : Nat) (w : World) : CmpLays Tryz.prog 150 #[] encP 2 cmpP blk off size w :=
 fun _ _ _ _ x y => placeCmp_any x.1 x.2 y.1 y.2 _
theorem sortFunc_any (blk cap : Nat) (d : Array (Int × Int)) (w : World) (hH : Sort.HoldsK encP 2 w blk 0 d) (hblk : blk < w.heap.size) (hsz : d.size < 4611686018427387904) :
  Calls Tryz.prog 189 #[.slice (some ⟨blk,0,none⟩) d.size cap,.func (.func 150) #[] #[]] w fun e w' => e = .returned (.tuple #[]) /\ ∃ d' n os,Sort.PermIn 0 d.size d d' /\ Sort.SortedIn (ltOf cmpP) 0 d.size d' /\ w' = sortWorldK encP 2 w blk 0 n d' os :=
 AnyQ.slices_SortFunc Tryz.sortPl 2 Tryz.isAgg165 Tryz.sizeOf165 encP (fun _ => rfl) (fun x v hv => by simp [encP] at hv; rcases hv with rfl | rfl <;> rfl) cmpP swoP 150 #[] blk 0 cap d w
  (enters_of Tryz.func150 (by kernel_rfl) rfl) (cmpLaysP blk 0 d.size w) hH hblk hsz
end Go.Proofs.YtdhgebdbiehchaaGreatDoor
