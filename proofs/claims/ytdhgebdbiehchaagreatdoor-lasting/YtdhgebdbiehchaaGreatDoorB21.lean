/- On the way: RecKeys. -/
import Derived.Test.YtdhgebdbiehchaaGreatDoorB13
import Derived.Test.YtdhgebdbiehchaaGreatDoorB14
import Derived.Sort.MapsRangeIn
import Derived.Shelf.Abstract
import Derived.WalkKit
import Derived.OwnWalkIn
import Derived.TacticsInMore
import Derived.RegionIn
import Derived.LoopNIn
import Derived.LoopIn
import Derived.Maps.AppendAt
import Derived.RangeFuncBox
namespace Go.Proofs.YtdhgebdbiehchaaGreatDoor
open Go.RowKit Go.Shelf Go.Maps
set_option linter.unusedSimpArgs false
set_option linter.unusedVariables false
set_option maxRecDepth 100000
set_option maxHeartbeats 1600000
def plV (x : Sd) : Value := .agg #[.int .i64 x.blk,.int .i64 x.no]
def Come (L : List Sd) (left : Lit -> Bool) (ss : List Sd) : Prop := ss.Nodup /\ (∀ x ∈ ss,x ∈ L) /\ ∀ x ∈ L,(x ∈ ss ↔ left (pk x.blk x.no) = false)
theorem come_start {L : List Sd} {D : DataW Unit} (hL : Lives L) (v : View D (fI L)) : Come L (Maps.has D) [] :=
 ⟨List.nodup_nil,by simp,fun x hx => by rw [(v.2 _).2,fI_mem pkInj hL hx]; simp⟩
theorem come_step {L : List Sd} {left : Lit -> Bool} {ss : List Sd} (hL : Lives L) (h : Come L left ss) {x : Sd} (hx : x ∈ L) (hl : left (pk x.blk x.no) = true) : Come L (fun z => left z && !z.sameKey (pk x.blk x.no)) (ss ++ [x]) := by
 have hnew : x ∉ ss := fun hx' => by have := (h.2.2 x hx).1 hx'; rw [hl] at this; cases this
 refine ⟨List.nodup_append.2 ⟨h.1,by simp,fun a ha b hb => by simp at hb; subst hb; exact fun e => hnew (e ▸ ha)⟩,fun y hy => ?_,fun y hy => ?_⟩
 ·rcases List.mem_append.1 hy with hy | hy
  ·exact h.2.1 y hy
  ·simp at hy; subst hy; exact hx
 ·by_cases e : pk y.blk y.no = pk x.blk x.no
  ·have s1 := hL.small y hy
   have s2 := hL.small x hx
   obtain ⟨e1,e2⟩ := pkInj _ _ _ _ s1.1 s1.2 s2.1 s2.2 e
   have := hL.place_eq hy hx e1 e2
   subst this
   show _ ↔ (left _ && !(pk y.blk y.no).sameKey (pk y.blk y.no)) = false
   rw [WideAt.sameKey_self (a := pk y.blk y.no) (by trivial)]
   simp
  ·show _ ↔ (left _ && !(pk y.blk y.no).sameKey (pk x.blk x.no)) = false
   rw [sameKey_ne e]
   have : y ≠ x := fun h => e (by rw [h])
   simp [h.2.2 y hy,this]
theorem lives_nodup {L : List Sd} (hL : Lives L) : L.Nodup := hL.keys.imp (fun h e => h (by rw [e]))
theorem come_end {L : List Sd} {left : Lit -> Bool} {ss : List Sd} (hL : Lives L) (h : Come L left ss) (hl : ∀ k,left k = false) : ss.Perm L :=
 (List.perm_ext_iff_of_nodup h.1 (lives_nodup hL)).2 (fun x => ⟨h.2.1 x,fun hx => (h.2.2 x hx).2 (hl _)⟩)
theorem keys_tells (n : Nat) (hn : 2 <= n) (Bm b nn : Nat) (L : List Sd) (D : DataW Unit) (w : World) (hz : Bm < w.heap.size) (hm : w.cell? ⟨Bm,0,none⟩ = some (.map (some b))) (hown : w.ownsMap Tryz.prog 165 rIt b nn D) (hv : View D (fI L)) (hsz : Maps.size D = L.length) (hL : Lives L) :
  SeqTells Fence.wide n Tryz.prog 190 #[.pointer (some ⟨Bm,0,none⟩)] (fun x : Sd => #[plV x]) (fun pre x _ => x ∈ L /\ pre.length < L.length) KeepsWalks (fun ss => ss.Perm L) w := by
 intro l J W hW hJ hY h0
 have h1 : 1 <= n := by omega
 replace hm := (hW.cell (p := ⟨Bm,0,none⟩) hz).trans hm
 have hown' : W.ownsMap Tryz.prog 165 rIt b nn D := by
  have hbl := hown.lt
  obtain ⟨es,clock,hb,r⟩ := hown
  exact ⟨es,clock,(hW.block b hbl).trans hb,r⟩
 clear hown
 change CallsIn Fence.wide n Tryz.prog 190 #[.func (.yield l) #[] #[],.pointer (some ⟨Bm,0,none⟩)] W _
 refine callsIn_of_wp Tryz.func190 rfl trivial ?_ rfl
 simp only [Tryz.ntmps190,List.size_toArray,List.length_cons,List.length_nil,Nat.reduceAdd,Nat.reduceSub,Array.replicate_succ,Array.replicate_zero,List.push_toArray,List.append_toArray,List.nil_append,List.cons_append]
 gi_wp2_with (first
  | (gi_at_range; refine wpListIn_range_own _ rfl _ 97 rfl 165 54 keyedPl Tryz.underlying97 _ b nn _ rfl hown' ?_; intro w0 hrg0 hg0 hs0)
  | gi_in)
 try go_frame
 gi_loopw [6] (fun _ wr => ∃ (left : Lit -> Bool) (cnt : Nat) (ss : List Sd),wr.ranges Tryz.prog 165 rIt b W.heap.size nn D left cnt /\ ss.length + cnt <= L.length /\ Come L left ss /\ J ss wr)
  (fun _ wr => wr.rangeLeft b W.heap.size)
 case atStart =>
  exact ⟨_,_,[],hrg0,by simp [hsz],come_start hL hv,hJ [] W w0 none h0 hg0 (fun r e => by cases e)⟩
 case round =>
  obtain ⟨left,cnt,ss,hrg,hcs,hC,hJs⟩ := hrel
  gi_wp2_with (first
   | (gi_at_next; refine wpListIn_next_ranges _ rfl _ rfl 165 keyedPl rIt id id (fun key _ _ => ⟨key,rfl⟩) (fun v _ _ => ⟨v,rfl⟩) b W.heap.size nn _ _ _ rfl hrg ?_ ?_)
   | gi_in)
  ·intro hc0 hl0
   gi_wp2
   go_end0
   exact ⟨⟨_,rfl⟩,ss,come_end hL hC hl0,hJs⟩
  ·intro x c kl yd yp w2 cnt2 hkey hlk hvv hat hrg2 hlt hg2 hs2 hen
   have hhas : Maps.has D kl = true := has_true_of_atKey hat
   rw [(hv.2 kl).2] at hhas
   obtain ⟨z,hzL,rfl⟩ := fI_isSome hhas
   have s1 := hL.small z hzL
   have ez := keyedPl.inj hkey (keyOf_pk s1.1 s1.2)
   try simp only [id] at ez hen
   subst ez
   have hJ2 : J ss w2 := hJ ss wr w2 (some W.heap.size) hJs hg2 (fun r e => by cases e; exact ⟨Nat.le_refl _,hrg.iter_walk⟩)
   have hJ3 : J ss (w2.alloc (.cells #[.int .i64 z.blk,.int .i64 z.no] 165)) := hJ ss w2 _ none hJ2 (World.grownBy_alloc w2 _ none) (fun r e => by cases e)
   obtain ⟨fn,tmps,assign,body,hy,hR⟩ := hY ss z _ hJ3 ⟨hzL,by omega⟩
   have hrg3 := hrg2.of_walks (KeepsWalks.alloc w2 (.cells #[.int .i64 (z.blk : Int),.int .i64 (z.no : Int)] 165))
   clear hs2
   dsimp only [plV] at hy
   gi_wp2
   refine hR.mono ?_
   rintro e W3 ⟨rfl,hJ4,hk3⟩
   gi_wp2
   have hrg4 := hrg3.of_walks hk3
   go_roundw
   case rel => exact ⟨_,cnt2,ss ++ [z],hrg4,by simp; omega,come_step hL hC hzL hlk,hJ4⟩
   case measure => rw [hrg4.left_eq,hrg.left_eq]; exact hlt
theorem keys_in (n : Nat) (mb : Option Nat) (w : World) :
  CallsIn Fence.wide n Tryz.prog 149 #[.map mb] w fun e w' => e = .returned (.func (.func 190) #[] #[.pointer (some ⟨w.heap.size,0,none⟩)]) /\ w' = w.alloc (.cells #[.map mb] 97) := by
 refine callsIn_of_wp Tryz.func149 rfl trivial ?_ rfl
 simp only [Tryz.ntmps149,List.size_toArray,List.length_cons,List.length_nil,Nat.reduceAdd,Nat.reduceSub,Array.replicate_succ,Array.replicate_zero,List.push_toArray,List.append_toArray,List.nil_append,List.cons_append]
 gi_wp2
 go_ret
 exact ⟨rfl,rfl⟩
end Go.Proofs.YtdhgebdbiehchaaGreatDoor
