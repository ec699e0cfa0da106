/- On the way: PUsed, PFile, PDown, PDown2, PCount, PMap, PTake, PTake2, PTake3. -/
import Derived.Test.YtdhgebdbiehchaaGreatDoorB29
import Derived.Maps.RangeWalk
import Derived.Sort.MapsRangeIn
import Derived.Deep.DeepCutAuto
namespace Go.Proofs.YtdhgebdbiehchaaGreatDoor
open Go.RowKit Go.Maps
set_option linter.unusedSimpArgs false
set_option linter.unusedVariables false
set_option maxRecDepth 100000
set_option maxHeartbeats 3200000
structure LeftOk (d : Dk) (left : Lit -> Bool) (c : Nat -> Bool) : Prop where
 yes : ∀ k,left k = true -> ∃ i,i <= 2 /\ k = .string (nm i) /\ (d.file i).isSome = true /\ c i = false
 no : ∀ i,i <= 2 -> (d.file i).isSome = true -> c i = false -> left (.string (nm i)) = true
def come (c : Nat -> Bool) (i : Nat) : Nat -> Bool := fun j => if j = i then true else c j
theorem nm_inj {i j : Nat} (hi : i <= 2) (hj : j <= 2) (h : nm i = nm j) : i = j := by rw [<- nameN_nm hi,<- nameN_nm hj,h]
theorem leftOk_start {d : Dk} {D : DataW Unit} {B : Nat -> Nat} (v : View D (fM B d)) : LeftOk d (Maps.has D) (fun _ => false) := by
 refine ⟨fun k hk => ?_,fun i hi hf _ => ?_⟩
 ·rw [(v.2 k).2] at hk
  unfold fM at hk
  split at hk
  ·rename_i s
   rw [Option.isSome_map] at hk
   obtain ⟨f,hf⟩ := Option.isSome_iff_exists.1 hk
   have hl := file_le hf
   exact ⟨nameN s,hl,by rw [nm_nameN hl],hk,rfl⟩
  ·cases hk
 ·rw [(v.2 _).2]
  show (((d.file (nameN (nm i))).map _).isSome) = true
  rw [nameN_nm hi,Option.isSome_map]
  exact hf
theorem leftOk_step {d : Dk} {left : Lit -> Bool} {c : Nat -> Bool} (h : LeftOk d left c) {i : Nat} (hi : i <= 2) : LeftOk d (fun z => left z && !z.sameKey (.string (nm i))) (come c i) := by
 refine ⟨fun k hk => ?_,fun j hj hf hc => ?_⟩
 ·simp only [Bool.and_eq_true] at hk
  obtain ⟨j,h1,rfl,h3,h4⟩ := h.yes k hk.1
  refine ⟨j,h1,rfl,h3,?_⟩
  unfold come
  by_cases e : j = i
  ·subst e
   rw [WideAt.sameKey_self (a := .string (nm j)) (by trivial)] at hk
   simp at hk
  ·rw [if_neg e]; exact h4
 ·unfold come at hc
  split at hc
  ·cases hc
  ·rename_i e
   have h1 := h.no j hj hf hc
   simp only [h1,Bool.true_and]
   rw [sameKey_ne (by intro h2; injection h2 with h2; exact e (nm_inj hj hi h2))]
   rfl
theorem leftOk_end {d : Dk} {left : Lit -> Bool} {c : Nat -> Bool} (h : LeftOk d left c) (hl : ∀ k,left k = false) : ∀ i,i <= 2 -> (d.file i).isSome = true -> c i = true := by
 intro i hi hf
 cases hc : c i with
 | true => rfl
 | false => have := h.no i hi hf hc; rw [hl] at this; cases this
def sumC (d : Dk) (c : Nat -> Bool) : Nat := (if c 0 = true then lenF d.f0 else 0) + (if c 1 = true then lenF d.f1 else 0) + (if c 2 = true then lenF d.f2 else 0)
theorem sumC_le (d : Dk) (c : Nat -> Bool) : sumC d c <= d.used := by
 unfold sumC Dk.used
 split <;> split <;> split <;> omega
theorem sumC_step {d : Dk} {c : Nat -> Bool} {i : Nat} (hi : i <= 2) (hc : c i = false) : sumC d (come c i) = sumC d c + lenF (d.file i) := by
 unfold sumC come Dk.file
 match i,hi with
 | 0,_ => simp [hc]; omega
 | 1,_ => simp [hc]; omega
 | 2,_ => simp [hc]
theorem sumC_end {d : Dk} {c : Nat -> Bool} (h : ∀ i,i <= 2 -> (d.file i).isSome = true -> c i = true) : sumC d c = d.used := by
 have h0 := h 0 (by omega)
 have h1 := h 1 (by omega)
 have h2 := h 2 (by omega)
 rw [file_0] at h0
 rw [file_1] at h1
 rw [file_2] at h2
 have f : ∀ (o : Option Fl) (b : Bool),(o.isSome = true -> b = true) -> (if b = true then lenF o else 0) = lenF o := by
  intro o b hb
  cases o with
  | none => simp [lenF]
  | some x => rw [if_pos (hb rfl)]
 unfold sumC Dk.used
 rw [f _ _ h0,f _ _ h1,f _ _ h2]
theorem keyStr_inv (key : Value) (kl : Lit) (h : keyOf Tryz.prog 9 key = some kl) : ∃ x : ByteArray,key = .string x := by
 exact Maps.keyOf_string_inv Tryz.underlying9 h
theorem rFp_shape (v : Value) (y : DataW Unit × List MemPlace) (h : rFp v = some y) : ∃ o : Option Addr,v = .pointer o := by
 unfold rFp at h
 split at h
 ·exact ⟨_,rfl⟩
 ·exact ⟨_,rfl⟩
 ·cases h
theorem used_any (F : Nat -> Prop) (bd : Nat) (d : Dk) (p : Pr) (w : World) (hD : DiskAt w F bd d p) (hok : d.used <= 100000) :
  Calls Tryz.prog 104 #[.pointer (some ⟨bd,0,none⟩)] w fun e w' => e = .returned (.int .i64 (d.used : Nat)) /\ Below w.heap.size w w' := by
 have c1 := hD.dk.cell (j := 1) rfl
 obtain ⟨D,h1,h2,h3⟩ := hD.map
 have HD : Hid (DiskAt w F bd d p) := hD
 have HV : Hid (View D (fM p.B d)) := h2
 have HO : Hid (w.ownsMap Tryz.prog 9 rFp p.bm 3 D) := h1
 clear hD h2 h3 h1
 go_enter Tryz.func104,Tryz.ntmps104
 go_wp2_with (at_range; refine wpList_range_own _ rfl _ 180 rfl 9 134 keyedStr Tryz.underlying180 rFp p.bm 3 D rfl HO.out ?_; intro w0 hrg0 hg0 hs0)
 try go_frame
 have HB0 : Hid (Below w.heap.size w w0) := (Below.refl _ _).grown hg0 (Nat.le_refl _) (fun k e => by cases e)
 go_loopw [3] (fun m wr => ∃ (left : Lit -> Bool) (cnt : Nat) (c : Nat -> Bool),m = .int .i64 (sumC d c : Nat) /\ Hid (wr.ranges Tryz.prog 9 rFp p.bm w.heap.size 3 D left cnt) /\ Hid (LeftOk d left c) /\ Hid (Below w.heap.size w wr)) (fun _ wr => wr.rangeLeft p.bm w.heap.size)
 case atStart => exact ⟨_,_,fun _ => false,rfl,hrg0,leftOk_start HV.out,HB0⟩
 case round =>
  obtain ⟨left,cnt,c,rfl,HRG,HL,HB⟩ := hrel
  have hsl := sumC_le d c
  clear hrg0 hg0 hs0 c1
  go_wp2_with (at_next; refine wpList_next_ranges _ rfl _ rfl 9 keyedStr rFp Value.string Value.pointer keyStr_inv rFp_shape p.bm w.heap.size 3 _ _ _ rfl HRG.out ?_ ?_)
  ·intro hc0 hl0
   go_wp2
   go_ret
   exact ⟨by rw [sumC_end (leftOk_end HL.out hl0)]; rfl,HB.out⟩
  ·intro x o kl y1 y2 w2 cnt2 hkey hlk hv hat hrg2 hlt hg2 hs2 hen
   obtain ⟨i,hi,rfl,hfi,hci⟩ := HL.out.yes kl hlk
   obtain ⟨f,hf⟩ := Option.isSome_iff_exists.1 hfi
   have hD2 : Below w.heap.size w w2 := HB.out.grown hg2 HB.out.size (fun k e => by cases e; exact Nat.le_refl _)
   have hat1 := hat (.lit (.int .i64 (-1)))
   rw [(HV.out.2 _).1] at hat1
   unfold fM at hat1
   simp only [nameN_nm hi,hf,Option.map_some,Option.getD_some] at hat1
   subst hat1
   obtain rfl := Value.pointer.inj (rFp_inv hv)
   obtain ⟨hfb,hfr⟩ := HD.out.files i f hf
   have hfl := hfb.lt
   have k0 := (hfb.below hD2 hfl).cell (j := 0) rfl
   obtain ⟨a0,cp,hvv⟩ := own_len hfr
   rw [hvv] at k0
   have HRG2 : Hid (w2.ranges Tryz.prog 9 rFp p.bm w.heap.size 3 D (fun z => left z && !z.sameKey (.string (nm i))) cnt2) := hrg2
   have HB2 : Hid (Below w.heap.size w w2) := hD2
   have HL2 : Hid (LeftOk d (fun z => left z && !z.sameKey (.string (nm i))) (come c i)) := leftOk_step HL.out hi
   have HS : Hid (sumC d (come c i) = sumC d c + f.text.length) := by
    show _ = _
    rw [sumC_step hi hci,hf]; rfl
   have hsl2 := sumC_le d (come c i)
   rw [HS.out] at hsl2
   have HLT : Hid (wr.rangeLeft p.bm w.heap.size = cnt) := HRG.out.left_eq
   clear hat hkey hrg2 hg2 hs2 hfb hfr hvv hD2
   go_wp2
   go_roundw
   case rel => exact ⟨_,cnt2,come c i,by rw [HS.out]; go_num,HRG2,HL2,HB2⟩
   case measure => rw [HRG2.out.left_eq,HLT.out]; exact hlt
theorem grown_drew {X Y : World} {b : Option Nat} (h : X.grownBy Y b) : X.grownBy Y.drew b := ⟨h.os,h.tape,h.output,h.size,h.block⟩
theorem FileAt.set1 {W : World} {b : Nat} {v : Value} {f : Fl} (h : FileAt W b v f) (m : Nat) : FileAt (W.setCell ⟨b,1,none⟩ (.int .i64 (m : Int))) b v ⟨f.text,m⟩ := by
 refine ⟨h.1.setj 1 _,h.2.kept (grown_setB W b 1 _) ?_⟩
 rcases h.2.2 with ⟨e,_⟩ | ⟨g,cap,cur,e,_,hg,_⟩
 ·exact .inl (by rw [e]; rfl)
 ·refine .inr fun e' => ?_
  rw [e] at e'
  have : g = b := by simpa [Value.ownBlock] using e'
  subst this
  rw [show W.heap[g]? = _ from h.1] at hg
  simp at hg
theorem sync_any (b : Nat) (v : Value) (f : Fl) (w : World) (h : FileAt w b v f) :
  Calls Tryz.prog 79 #[.pointer (some ⟨b,0,none⟩)] w fun e w' => e = .returned (.tuple #[]) /\ FileAt w' b v ⟨f.text,f.text.length⟩ /\ w.grownBy w' (some b) := by
 have c0 := h.1.cell (j := 0) rfl
 have c1 := h.1.cell (j := 1) rfl
 have f1 := h.1.frozen 1
 obtain ⟨a,cp,hv⟩ := own_len h.2
 have HS : Hid (FileAt (w.setCell ⟨b,1,none⟩ (.int .i64 (f.text.length : Int))) b v ⟨f.text,f.text.length⟩) := h.set1 _
 rw [hv] at c0
 clear h hv
 go_enter Tryz.func79,Tryz.ntmps79
 go_wp2
 refine bodyPost_end (v := .tuple #[]) ?_ rfl ⟨rfl,HS.out,grown_setB _ _ _ _⟩
 simp [results,Tryz.results79,go_sem]
theorem own_cut {w : World} {g cap n q : Nat} {l : List UInt8} (h : w.ownsRow 0 5 1 (.slice (some ⟨g,0,none⟩) n cap) n (cellsB l)) (hn : l.length = n) (hq : q <= n) : w.ownsRow 0 5 1 (.slice (some ⟨g,0,none⟩) q cap) q (cellsB (l.take q)) := by
 rcases h.2 with ⟨e,_⟩ | ⟨g',cap',cur,e,hb,hg,h1,h2,h3,h4⟩
 ·cases e
 ·cases e
  refine ⟨by rw [cellsB_length]; simp; omega,.inr ⟨g,cap,cur,rfl,hb,hg,by omega,h2,h3,?_⟩⟩
  have : cellsB (l.take q) = (cellsB l).take q := by simp [cellsB,List.map_take]
  rw [this,<- h4,List.take_take]
  congr 1
  omega
theorem FileAt.cutTo {W : World} {b g cap : Nat} {f : Fl} (h : FileAt W b (.slice (some ⟨g,0,none⟩) f.text.length cap) f) {q s : Nat} (hq : q <= f.text.length) :
  FileAt ((W.setCell ⟨b,0,none⟩ (.slice (some ⟨g,0,none⟩) q cap)).setCell ⟨b,1,none⟩ (.int .i64 (s : Int))) b (.slice (some ⟨g,0,none⟩) q cap) ⟨f.text.take q,s⟩ := by
 have h1 : FileAt (W.setCell ⟨b,0,none⟩ (.slice (some ⟨g,0,none⟩) q cap)) b (.slice (some ⟨g,0,none⟩) q cap) ⟨f.text.take q,f.sync⟩ := by
  refine ⟨h.1.setj 0 _,?_⟩
  have h2 := own_cut h.2 rfl hq
  rw [show (f.text.take q).length = q by simp; omega]
  refine h2.kept (grown_setB W b 0 _) (.inr fun e' => ?_)
  have : g = b := by simpa [Value.ownBlock] using e'
  subst this
  rcases h.2.2 with ⟨e,_⟩ | ⟨g',cap',cur,e,_,hg,_⟩
  ·cases e
  ·cases e
   rw [show W.heap[g]? = _ from h.1] at hg
   simp at hg
 exact h1.set1 s
theorem cut_any (b : Nat) (v : Value) (f : Fl) (m : Nat) (w : World) (h : FileAt w b v f) (hm : m <= 9223372036854775807) :
  Calls Tryz.prog 193 #[.pointer (some ⟨b,0,none⟩),.int .i64 m] w fun e w' => e = .returned (.tuple #[]) /\ ∃ v',FileAt w' b v' ⟨f.text.take m,min f.sync (min m f.text.length)⟩ /\ v'.ownBlock = v.ownBlock /\ w.grownBy w' (some b) := by
 have c0 := h.1.cell (j := 0) rfl
 have c1 := h.1.cell (j := 1) rfl
 have f0 := h.1.frozen 0
 have f1 := h.1.frozen 1
 have H : Hid (FileAt w b v f) := h
 rcases h.2.2 with ⟨rfl,h0⟩ | ⟨g,cap,cur,rfl,hb,hg,h1,h2,h3,h4⟩
 ·have ht : f.text = [] := List.length_eq_zero_iff.1 h0
  have hmin : (min (m : Int) 0) = 0 := by omega
  have HE : Hid (FileAt ((w.setCell ⟨b,0,none⟩ (.slice none 0 0)).setCell ⟨b,1,none⟩ (.int .i64 0)) b (.slice none 0 0) ⟨f.text.take m,min f.sync (min m f.text.length)⟩) := by
   have e1 : (⟨f.text.take m,min f.sync (min m f.text.length)⟩ : Fl) = ⟨[],0⟩ := by rw [ht]; simp
   rw [e1]
   exact ⟨(H.out.1.setj 0 _).setj 1 _,World.ownsRow_nil _ _ _ _⟩
  have hmin2 : (min (f.sync : Int) 0) = 0 := by omega
  clear h h0 ht
  go_enter Tryz.func193,Tryz.ntmps193
  go_wp2_with fail
  go_region
  all_goals
   go_wp2_with fail
   go_region
   all_goals
    go_wp2
    refine bodyPost_end (v := .tuple #[]) ?_ rfl ⟨rfl,_,HE.out,rfl,?_⟩
    ·simp [results,Tryz.results193,go_sem]
    ·exact grown_drew (grown_drew (grown_trans (grown_setB w b 0 _) (grown_setB _ b 1 _)))
 ·have hcap : (f.text.length : Int) <= cap := by omega
  have hmin : (min (m : Int) (f.text.length : Int)) = ((min m f.text.length : Nat) : Int) := by omega
  have hmc : min m f.text.length <= cap := by omega
  have hmin2 : (min (f.sync : Int) ((min m f.text.length : Nat) : Int)) = ((min f.sync (min m f.text.length) : Nat) : Int) := by omega
  have HE : Hid (FileAt ((w.setCell ⟨b,0,none⟩ (.slice (some ⟨g,0,none⟩) (min m f.text.length) cap)).setCell ⟨b,1,none⟩ (.int .i64 ((min f.sync (min m f.text.length) : Nat) : Int))) b (.slice (some ⟨g,0,none⟩) (min m f.text.length) cap) ⟨f.text.take m,min f.sync (min m f.text.length)⟩) := by
   have e1 : f.text.take m = f.text.take (min m f.text.length) := by
    by_cases hml : m <= f.text.length
    ·rw [Nat.min_eq_left hml]
    ·rw [Nat.min_eq_right (by omega),List.take_of_length_le (by omega),List.take_of_length_le (by omega)]
   rw [e1]
   exact H.out.cutTo (by omega)
  generalize min f.sync (min m f.text.length) = s at *
  generalize min m f.text.length = q at *
  clear h hb hg h1 h3 h4
  go_enter Tryz.func193,Tryz.ntmps193
  go_wp2_with fail
  go_region
  all_goals
   go_wp2_with fail
   go_region
   all_goals
    go_wp2
    refine bodyPost_end (v := .tuple #[]) ?_ rfl ⟨rfl,_,HE.out,rfl,?_⟩
    ·simp [results,Tryz.results193,go_sem]
    ·exact grown_drew (grown_drew (grown_trans (grown_setB w b 0 _) (grown_setB _ b 1 _)))
theorem lose_any (b : Nat) (v : Value) (f : Fl) (k : Nat) (w : World) (h : FileAt w b v f) (hk : k <= 9223372036854775807) (hs : f.sync <= f.text.length) (hl : f.text.length <= 1000000) :
  Calls Tryz.prog 157 #[.pointer (some ⟨b,0,none⟩),.int .i64 k] w fun e w' => e = .returned (.tuple #[]) /\ ∃ v',FileAt w' b v' (f.fall k) /\ v'.ownBlock = v.ownBlock /\ w.grownBy w' (some b) := by
 have c0 := h.1.cell (j := 0) rfl
 have c1 := h.1.cell (j := 1) rfl
 obtain ⟨a,cp,hv⟩ := own_len h.2
 rw [hv] at c0
 have hmin : (min (k : Int) ((f.text.length : Int) - (f.sync : Int))) = ((min k (f.text.length - f.sync) : Nat) : Int) := by omega
 have hq1 : f.sync + min k (f.text.length - f.sync) <= f.text.length := by omega
 have HFA : Hid (f.fall k = ⟨f.text.take (f.sync + min k (f.text.length - f.sync)),f.sync + min k (f.text.length - f.sync)⟩) := rfl
 have HC : Hid (∀ (q : Nat) (wx : World),q <= f.text.length -> FileAt wx b v f -> _) := fun q wx hq hx => cut_any b v f q wx hx (by omega)
 have H : Hid (FileAt w b v f) := h
 have hq0 : min k (f.text.length - f.sync) <= 1000000 := by omega
 generalize min k (f.text.length - f.sync) = q at *
 have HCQ : Hid (∀ wx : World,FileAt wx b v f -> Calls Tryz.prog 193 #[.pointer (some ⟨b,0,none⟩),.int .i64 ((f.sync : Int) + (q : Int))] wx fun e w' => e = .returned (.tuple #[]) /\ ∃ v',FileAt w' b v' ⟨f.text.take (f.sync + q),min f.sync (min (f.sync + q) f.text.length)⟩ /\ v'.ownBlock = v.ownBlock /\ wx.grownBy w' (some b)) := by
  intro wx hx
  have := HC.out (f.sync + q) wx hq1 hx
  rwa [show ((f.sync + q : Nat) : Int) = (f.sync : Int) + (q : Int) by omega] at this
 have hw1 : IntKind.i64.wrap ((f.text.length : Int) - (f.sync : Int)) = (f.text.length : Int) - (f.sync : Int) := by rw [IntKind.wrap_i64]; omega
 have hw2 : IntKind.i64.wrap ((f.sync : Int) + (q : Int)) = (f.sync : Int) + (q : Int) := by rw [IntKind.wrap_i64]; omega
 clear h HC
 go_enter Tryz.func157,Tryz.ntmps157
 go_wp2_with fail
 go_cut [] (fun wd => ∃ v1,FileAt wd b v1 ⟨f.text.take (f.sync + q),min f.sync (min (f.sync + q) f.text.length)⟩ /\ v1.ownBlock = v.ownBlock /\ w.grownBy wd (some b))
 case first =>
  go_region_with (first | (go_at_call 193; refine (HCQ.out _ ?_).mono ?_; exact H.out; rintro e w1 ⟨rfl,v1,hF1,hv1,hg1⟩))
  all_goals
   go_wp2_with fail
   go_meet
   exact ⟨v1,hF1,hv1,hg1.os,hg1.tape,hg1.output,hg1.size,hg1.block⟩
 case rest =>
  obtain ⟨v1,hF1,hv1,hg1⟩ := hcut
  have HF1 : Hid _ := hF1
  have HS : Hid _ := sync_any b v1 _ _ HF1.out
  clear hF1 c0 c1 hw1 hw2 hmin
  go_wp2_with fail
  refine Calls.mono HS.out ?_
  rintro e w2 ⟨rfl,hF2,hg2⟩
  go_wp2
  refine bodyPost_end (v := .tuple #[]) ?_ rfl ⟨rfl,v1,?_,hv1,grown_trans hg1 hg2⟩
  ·simp [results,Tryz.results157,go_sem]
  ·rw [HFA.out]
   rw [show (f.text.take (f.sync + q)).length = f.sync + q by simp; omega] at hF2
   exact hF2
def Dk.fell (d : Dk) (k : Nat) (c : Nat -> Bool) : Dk := { d with f0 := if c 0 = true then d.f0.map (Fl.fall k) else d.f0,f1 := if c 1 = true then d.f1.map (Fl.fall k) else d.f1,f2 := if c 2 = true then d.f2.map (Fl.fall k) else d.f2 }
theorem fell_file (d : Dk) (k : Nat) (c : Nat -> Bool) (i : Nat) : (d.fell k c).file i = if c i = true then (d.file i).map (Fl.fall k) else d.file i := by
 unfold Dk.fell Dk.file
 by_cases h0 : i = 0
 ·subst h0; simp
 ·by_cases h1 : i = 1
  ·subst h1; simp
  ·by_cases h2 : i = 2
   ·subst h2; simp
   ·simp [h0,h1,h2]
theorem fell_some (d : Dk) (k : Nat) (c : Nat -> Bool) (i : Nat) : ((d.fell k c).file i).isSome = (d.file i).isSome := by
 rw [fell_file]; split <;> simp
theorem fell_fM (B : Nat -> Nat) (d : Dk) (k : Nat) (c : Nat -> Bool) (l : Lit) : fM B (d.fell k c) l = fM B d l := by
 unfold fM
 split
 ·rename_i s
  have := fell_some d k c (nameN s)
  cases h1 : (d.fell k c).file (nameN s) <;> cases h2 : d.file (nameN s) <;> rw [h1,h2] at this <;> simp at this ⊢
 ·rfl
theorem fell_none (d : Dk) (k : Nat) : d.fell k (fun _ => false) = d := by unfold Dk.fell; simp
theorem fell_cnt (d : Dk) (k : Nat) (c : Nat -> Bool) : (d.fell k c).cnt = d.cnt := by
 have f : ∀ (o : Option Fl) (b : Bool),(if b = true then o.map (Fl.fall k) else o).toList.length = o.toList.length := by
  intro o b; cases o <;> cases b <;> rfl
 unfold Dk.cnt Dk.fell
 simp only [f]
theorem fell_all {d : Dk} {k : Nat} {c : Nat -> Bool} (h : ∀ i,i <= 2 -> (d.file i).isSome = true -> c i = true) : (d.fell k c).f0 = d.f0.map (Fl.fall k) /\ (d.fell k c).f1 = d.f1.map (Fl.fall k) /\ (d.fell k c).f2 = d.f2.map (Fl.fall k) := by
 have f : ∀ (o : Option Fl) (b : Bool),(o.isSome = true -> b = true) -> (if b = true then o.map (Fl.fall k) else o) = o.map (Fl.fall k) := by
  intro o b hb
  cases o with
  | none => split <;> rfl
  | some x => rw [if_pos (hb rfl)]
 exact ⟨f _ _ (h 0 (by omega)),f _ _ (h 1 (by omega)),f _ _ (h 2 (by omega))⟩
theorem come_ne {c : Nat -> Bool} {i j : Nat} (h : j ≠ i) : come c i j = c j := by unfold come; rw [if_neg h]
theorem come_self (c : Nat -> Bool) (i : Nat) : come c i i = true := by unfold come; rw [if_pos rfl]
theorem DiskAt.fell1 {W W' : World} {F : Nat -> Prop} {bd : Nat} {d : Dk} {p : Pr} {k : Nat} {c : Nat -> Bool} {i : Nat} {f : Fl} {v' : Value} (h : DiskAt W F bd (d.fell k c) p) (hc : c i = false) (hf : d.file i = some f) (hv : v'.ownBlock = (p.V i).ownBlock) (hF : FileAt W' (p.B i) v' (f.fall k)) (hg : W.grownBy W' (some (p.B i))) :
  DiskAt W' F bd (d.fell k (come c i)) { p with V := fun j => if j = i then v' else p.V j } := by
 have hs : ∀ j,((d.fell k (come c i)).file j).isSome = ((d.fell k c).file j).isSome := fun j => by rw [fell_some,fell_some]
 have hfi : (d.fell k c).file i = some f := by rw [fell_file,if_neg (by rw [hc]; simp)]; exact hf
 have hBi : Bx W (p.B i) _ _ := (h.files i f hfi).1
 obtain ⟨D,h1,h2,h3⟩ := h.map
 have hmap : ∀ o,W.heap[p.bm]? = some o -> o.isCells = false := fun o ho => by
  obtain ⟨es,ck,hb,_⟩ := h1
  rw [hb] at ho; cases ho; rfl
 have hVo : ∀ j,(if j = i then v' else p.V j).ownBlock = (p.V j).ownBlock := fun j => by
  by_cases e : j = i
  ·subst e; rw [if_pos rfl]; exact hv
  ·rw [if_neg e]
 refine ⟨?_,⟨D,h1.kept hg ?_,?_,?_⟩,?_,?_,?_,?_,h.fd,h.fm,h.fc,?_,?_,h.small⟩
 ·refine (hg.block bd h.dk.lt (fun e => ?_)).trans h.dk
  have e : bd = p.B i := by simpa using e
  have h4 := h.dk
  rw [e] at h4
  unfold Bx at h4 hBi
  rw [hBi] at h4
  simp at h4
 ·intro e
  have e : p.bm = p.B i := by simpa using e
  have := hmap _ (by rw [e]; exact hBi)
  cases this
 ·exact h2.congr (fun l => by rw [fell_fM,fell_fM])
 ·rw [fell_cnt]; rw [fell_cnt] at h3; exact h3
 ·have hcm := h.coming
  show ComingAt W' d.left p.bc
  have hcm' : ComingAt W d.left p.bc := hcm
  unfold ComingAt at hcm' ⊢
  split
  ·trivial
  ·rename_i s k' b hl hb
   rw [hl,hb] at hcm'
   refine (hg.block b (Bx.lt hcm') (fun e => ?_)).trans hcm'
   have e : b = p.B i := by simpa using e
   rw [e] at hcm'
   have h5 : Bx W (p.B i) _ _ := hcm'
   unfold Bx at h5 hBi
   rw [hBi] at h5
   simp at h5
  ·rename_i a1 a2
   split at hcm'
   ·rename_i e1 e2; exact a1 e1 e2
   ·rename_i e1 e2; exact a2 _ _ _ e1 e2
   ·exact hcm'
 ·intro j g hj
  by_cases e : j = i
  ·subst e
   simp only [if_true]
   rw [fell_file,if_pos (come_self c j),hf] at hj
   simp at hj
   subst hj
   exact hF
  ·simp only [if_neg e]
   have hj' : (d.fell k c).file j = some g := by
    rw [fell_file] at hj ⊢
    rwa [come_ne e] at hj
   obtain ⟨a1,a2⟩ := h.files j g hj'
   refine ⟨(hg.block (p.B j) a1.lt (fun e2 => ?_)).trans a1,a2.kept hg ?_⟩
   ·have e2 : p.B j = p.B i := by simpa using e2
    exact h.dB j i e (by rw [hj']; rfl) (by rw [hfi]; rfl) e2
   ·rcases a2.2 with ⟨e3,_⟩ | ⟨g',cap,cur,e3,_,hgb,_⟩
    ·exact .inl (by rw [e3]; rfl)
    ·refine .inr fun e4 => ?_
     rw [e3] at e4
     have : g' = p.B i := by simpa [Value.ownBlock] using e4
     subst this
     unfold Bx at hBi
     rw [hBi] at hgb
     simp at hgb
 ·intro a b hab ha hb
  rw [hs] at ha hb
  exact h.dB a b hab ha hb
 ·intro a b hab ha hb q hq
  rw [hs] at ha hb
  simp only at hq ⊢
  rw [hVo] at hq ⊢
  exact h.dV a b hab ha hb q hq
 ·intro j hj; rw [hs] at hj; exact h.fB j hj
 ·intro j hj q hq
  rw [hs] at hj
  simp only at hq
  rw [hVo] at hq
  exact h.fV j hj q hq
theorem fM_congr {B : Nat -> Nat} {d d' : Dk} (h : ∀ i,d'.file i = d.file i) (l : Lit) : fM B d' l = fM B d l := by
 unfold fM
 split
 ·rw [h]
 ·rfl
theorem cnt_congr {d d' : Dk} (h : ∀ i,d'.file i = d.file i) : d'.cnt = d.cnt := by
 have h0 := h 0
 have h1 := h 1
 have h2 := h 2
 rw [file_0,file_0] at h0
 rw [file_1,file_1] at h1
 rw [file_2,file_2] at h2
 unfold Dk.cnt
 rw [h0,h1,h2]
theorem bx_unlike {W : World} {b b' : Nat} {cs cs' : Array Value} {t t' : TypeId} (h : Bx W b cs t) (h' : Bx W b' cs' t') (ht : t ≠ t') : b ≠ b' := by
 intro e
 subst e
 unfold Bx at h h'
 rw [h] at h'
 simp at h'
 exact ht h'.2
theorem own_unlike {W : World} {b base e size n : Nat} {cs : Array Value} {t : TypeId} {v : Value} {xs : List Value} (h : Bx W b cs t) (h' : W.ownsRow base e size v n xs) (ht : e ≠ t) : v.ownBlock = none \/ v.ownBlock ≠ some b := by
 rcases h'.2 with ⟨e3,_⟩ | ⟨g',cap,cur,e3,_,hgb,_⟩
 ·exact .inl (by rw [e3]; rfl)
 ·refine .inr fun e4 => ?_
  rw [e3] at e4
  have : g' = b := by simpa [Value.ownBlock] using e4
  subst this
  unfold Bx at h
  rw [h] at hgb
  simp at hgb
  exact ht hgb.2.symm
theorem ownMap_unlike {W : World} {b b' n : Nat} {cs : Array Value} {t k : TypeId} {R : Value -> Option (DataW Unit × List MemPlace)} {D : DataW Unit} (h : Bx W b cs t) (h' : W.ownsMap Tryz.prog k R b' n D) : b' ≠ b := by
 intro e
 subst e
 obtain ⟨es,ck,hb,_⟩ := h'
 unfold Bx at h
 rw [h] at hb
 cases hb
theorem DiskAt.setDk {W W' : World} {F : Nat -> Prop} {bd : Nat} {d d' : Dk} {p : Pr} {bc' : Option Nat} (h : DiskAt W F bd d p) (hg : W.grownBy W' (some bd)) (hf : ∀ i,d'.file i = d.file i) (hdk : Bx W' bd #[.int .i64 (d'.room : Int),.map (some p.bm),.bool d'.down,optP bc'] 183) (hcom : ComingAt W' d'.left bc') (hfc : ∀ c,bc' = some c -> F c) (hsm : ∀ s k,d'.left = some (s,k) -> s <= 9223372036854775807 /\ k <= 9223372036854775807) :
  DiskAt W' F bd d' { p with bc := bc' } := by
 obtain ⟨D,h1,h2,h3⟩ := h.map
 refine ⟨hdk,⟨D,h1.kept hg (fun e => ownMap_unlike h.dk h1 (by simpa using e)),h2.congr (fun l => (fM_congr hf l).symm),by rw [cnt_congr hf]; exact h3⟩,hcom,fun i f hi => ?_,fun i j hij ha hb => ?_,fun i j hij ha hb => ?_,h.fd,h.fm,hfc,fun i hi => ?_,fun i hi => ?_,hsm⟩
 ·rw [hf] at hi
  obtain ⟨a1,a2⟩ := h.files i f hi
  exact ⟨(hg.block _ a1.lt (fun e => bx_unlike a1 h.dk (by decide) (by simpa using e))).trans a1,a2.kept hg (own_unlike h.dk a2 (by decide))⟩
 ·rw [hf] at ha hb; exact h.dB i j hij ha hb
 ·rw [hf] at ha hb; exact h.dV i j hij ha hb
 ·rw [hf] at hi; exact h.fB i hi
 ·rw [hf] at hi; exact h.fV i hi
theorem goDown_any (F : Nat -> Prop) (bd : Nat) (d : Dk) (p : Pr) (s k : Nat) (w : World) (hD : DiskAt w F bd d p) (hl : d.left = some (s,k)) (hok : DkOk d) (hFz : ∀ q,F q -> q < w.heap.size) :
  Calls Tryz.prog 106 #[.pointer (some ⟨bd,0,none⟩)] w fun e w' => e = .returned (.tuple #[]) /\ (∃ p',DiskAt w' F bd (d.falls k) p') /\ Chg F w w' := by
 have c1 := hD.dk.cell (j := 1) rfl
 have hkk := (hD.small s k hl).2
 obtain ⟨D,h1,h2,h3⟩ := hD.map
 have HD : Hid (DiskAt w F bd d p) := hD
 have HV : Hid (View D (fM p.B d)) := h2
 have HO : Hid (w.ownsMap Tryz.prog 9 rFp p.bm 3 D) := h1
 have HL0 : Hid (d.left = some (s,k)) := hl
 have HOK : Hid (DkOk d) := hok
 have HFZ : Hid (∀ q,F q -> q < w.heap.size) := hFz
 obtain ⟨cb,hcb⟩ : ∃ cb,p.bc = some cb := by
  have := hD.coming
  rw [hl] at this
  unfold ComingAt at this
  cases hb : p.bc with
  | none => rw [hb] at this; exact this.elim
  | some c => exact ⟨c,rfl⟩
 have HCB : Hid (p.bc = some cb) := hcb
 clear hD h2 h3 h1 hl hok hFz hcb
 go_enter Tryz.func106,Tryz.ntmps106
 go_wp2_with (at_range; refine wpList_range_own _ rfl _ 180 rfl 9 134 keyedStr Tryz.underlying180 rFp p.bm 3 D rfl HO.out ?_; intro w0 hrg0 hg0 hs0)
 try go_frame
 have HC0 : Hid (Chg F w w0) := (Chg.refl F w).grown hg0 (fun k e => by cases e)
 have HD0 : Hid (DiskAt w0 F bd d p) := HD.out.keep (G := fun _ => False) ((Chg.refl _ w).grown hg0 (fun k e => by cases e)) (fun _ _ h => h)
 go_loopw [] (fun wr => ∃ (left : Lit -> Bool) (cnt : Nat) (c : Nat -> Bool) (V : Nat -> Value),Hid (wr.ranges Tryz.prog 9 rFp p.bm w.heap.size 3 D left cnt) /\ Hid (LeftOk d left c) /\ Hid (Chg F w wr) /\ Hid (DiskAt wr F bd (d.fell k c) { p with V := V })) (fun wr => wr.rangeLeft p.bm w.heap.size)
 case atStart => exact ⟨_,_,fun _ => false,p.V,hrg0,leftOk_start HV.out,HC0,by show DiskAt _ _ _ _ _; rw [fell_none]; exact HD0.out⟩
 case round =>
  obtain ⟨left,cnt,c,V,HRG,HL,HC,HDr⟩ := hrel
  have hzr := HC.out.size
  clear hrg0 hg0 hs0 c1
  go_wp2_with (at_next; refine wpList_next_ranges _ rfl _ rfl 9 keyedStr rFp Value.string Value.pointer keyStr_inv rFp_shape p.bm w.heap.size 3 _ _ _ rfl HRG.out ?_ ?_)
  ·intro hc0 hl0
   have hDr := HDr.out
   have d2 := hDr.dk.cell (j := 2) rfl
   have d3 := hDr.dk.cell (j := 3) rfl
   have z2 := hDr.dk.frozen 2
   have z3 := hDr.dk.frozen 3
   have HE : Hid (∀ W',W' = (wr.setCell ⟨bd,3,none⟩ (.pointer none)).setCell ⟨bd,2,none⟩ (.bool true) -> DiskAt W' F bd (d.falls k) { { p with V := V } with bc := none }) := by
    rintro W' rfl
    refine hDr.setDk (grown_trans (grown_setB wr bd 3 _) (grown_setB _ bd 2 _)) ?_ ((hDr.dk.setj 3 _).setj 2 _) trivial (fun c e => by cases e) (fun s k e => by cases e)
    have fa := fell_all (k := k) (leftOk_end HL.out hl0)
    intro i
    unfold Dk.file
    rw [fa.1,fa.2.1,fa.2.2]
    rfl
   have HCE : Hid (Chg F w ((wr.setCell ⟨bd,3,none⟩ (.pointer none)).setCell ⟨bd,2,none⟩ (.bool true))) := (HC.out.set bd 3 _ (.inl hDr.fd)).set bd 2 _ (.inl hDr.fd)
   clear hDr
   go_wp2
   refine bodyPost_end (v := .tuple #[]) ?_ rfl ⟨rfl,⟨_,HE.out _ rfl⟩,HCE.out⟩
   simp [results,Tryz.results106,go_sem]
  ·intro x o kl y1 y2 w2 cnt2 hkey hlk hv hat hrg2 hlt hg2 hs2 hen
   obtain ⟨i,hi,rfl,hfi,hci⟩ := HL.out.yes kl hlk
   obtain ⟨f,hf⟩ := Option.isSome_iff_exists.1 hfi
   have hC2 : Chg F w w2 := HC.out.grown hg2 (fun q e => by cases e; exact .inr (Nat.le_refl _))
   have hD2 : DiskAt w2 F bd (d.fell k c) { p with V := V } := HDr.out.keep (G := fun q => q = w.heap.size) ((Chg.refl _ wr).grown hg2 (fun q e => by cases e; exact .inl rfl)) (fun q hq e => by have := HFZ.out q hq; omega)
   have hat1 := hat (.lit (.int .i64 (-1)))
   rw [(HV.out.2 _).1] at hat1
   unfold fM at hat1
   simp only [nameN_nm hi,hf,Option.map_some,Option.getD_some] at hat1
   subst hat1
   obtain rfl := Value.pointer.inj (rFp_inv hv)
   have hfi2 : (d.fell k c).file i = some f := by rw [fell_file,if_neg (by rw [hci]; simp)]; exact hf
   have HFA : Hid (FileAt w2 (p.B i) (V i) f) := hD2.files i f hfi2
   have hsy := HOK.out.sync i f hf
   have hlen : f.text.length <= 1000000 := by
    have h5 := HOK.out.used
    have h6 := HOK.out.room
    have h7 := used_put d i none hi
    rw [hf] at h7
    simp only [lenF] at h7
    omega
   have HLO : Hid _ := lose_any (p.B i) (V i) f k w2 HFA.out (by omega) hsy hlen
   have d3 := hD2.dk.cell (j := 3) rfl
   simp only [HCB.out,optP] at d3
   have k1 : w2.cell? ⟨cb,1,none⟩ = some (.int .i64 k) := by
    have hcm : ComingAt w2 d.left p.bc := hD2.coming
    rw [HL0.out,HCB.out] at hcm
    exact Bx.cell (j := 1) hcm rfl
   have HRG2 : Hid (w2.ranges Tryz.prog 9 rFp p.bm w.heap.size 3 D (fun z => left z && !z.sameKey (.string (nm i))) cnt2) := hrg2
   have HC2 : Hid (Chg F w w2) := hC2
   have HD2 : Hid (DiskAt w2 F bd (d.fell k c) { p with V := V }) := hD2
   have HL2 : Hid (LeftOk d (fun z => left z && !z.sameKey (.string (nm i))) (come c i)) := leftOk_step HL.out hi
   have HLT : Hid (wr.rangeLeft p.bm w.heap.size = cnt) := HRG.out.left_eq
   have HFI : Hid (d.file i = some f) := hf
   clear hat hkey hrg2 hg2 hs2 hD2 hC2 hfi2 hf hfi
   go_wp2_with fail
   refine Calls.mono HLO.out ?_
   rintro e w3 ⟨rfl,v',hF3,hv3,hg3⟩
   have hrow : ∀ (j : Nat) (o : Obj),some (p.B i) = some j -> w2.heap[j]? = some o -> o.isWalk = false := fun j o e ho => by
    cases e
    have h5 : Bx w2 (p.B i) _ _ := HFA.out.1
    unfold Bx at h5
    rw [h5] at ho; cases ho; rfl
   have HRG3 : Hid (w3.ranges Tryz.prog 9 rFp p.bm w.heap.size 3 D (fun z => left z && !z.sameKey (.string (nm i))) cnt2) := HRG2.out.of_walks (KeepsWalks.of_grownBy hg3 hrow)
   have HD3 : Hid (DiskAt w3 F bd (d.fell k (come c i)) { p with V := fun j => if j = i then v' else V j }) := HD2.out.fell1 hci HFI.out hv3 hF3 hg3
   have HC3 : Hid (Chg F w w3) := HC2.out.grown hg3 (fun q e => by cases e; exact .inl (HD2.out.fB i (by rw [fell_some,HFI.out]; rfl)))
   clear hF3 hv3 hg3 hrow d3 k1
   go_wp2
   go_roundw
   case rel => exact ⟨_,cnt2,come c i,_,HRG3,HL2,HC3,HD3⟩
   case measure => rw [HRG3.out.left_eq,HLT.out]; exact hlt
def countE (d : Dk) : Int := if d.count.1 = true then 0 else 8
theorem countE_ok {d d' : Dk} (h : d.count = (true,d')) : countE d = 0 := by unfold countE; rw [h]; rfl
theorem countE_no {d d' : Dk} (h : d.count = (false,d')) : countE d = 8 := by unfold countE; rw [h]; rfl
theorem coming_some {W : World} {s k : Nat} {o : Option Nat} (h : ComingAt W (some (s,k)) o) : ∃ c,o = some c /\ Bx W c #[.int .i64 (s : Int),.int .i64 (k : Int)] 185 := by
 unfold ComingAt at h
 cases o with
 | none => exact h.elim
 | some c => exact ⟨c,rfl,h⟩
theorem coming_none {W : World} {o : Option Nat} (h : ComingAt W none o) : o = none := by
 unfold ComingAt at h
 cases o with
 | none => rfl
 | some c => exact h.elim
theorem count_any (E : Sent) (n : Nat) (F : Nat -> Prop) (bd : Nat) (d : Dk) (p : Pr) (w : World) (hE : Env0 n w E) (hF : ∀ q,F q -> n <= q /\ q < w.heap.size) (hD : DiskAt w F bd d p) (hok : DkOk d) (hup : d.down = false) :
  Calls Tryz.prog 184 #[.pointer (some ⟨bd,0,none⟩)] w fun e w' => e = .returned (errVal E (countE d)) /\ (∃ p',DiskAt w' F bd d.count.2 p') /\ Chg F w w' := by
 have c2 : w.cell? ⟨bd,2,none⟩ = some (.bool d.down) := hD.dk.cell (j := 2) rfl
 have c3 : w.cell? ⟨bd,3,none⟩ = some (optP p.bc) := hD.dk.cell (j := 3) rfl
 rw [hup] at c2
 cases hl : d.left with
 | none =>
  have HCT : Hid (d.count = (true,d)) := by show _ = _; unfold Dk.count; rw [hl]
  have hbc := coming_none (by have := hD.coming; rwa [hl] at this)
  rw [hbc] at c3
  unfold optP at c3
  have HD : Hid (DiskAt w F bd d p) := hD
  clear hD hl hE hok hbc
  go_enter Tryz.func184,Tryz.ntmps184
  go_wp2
  go_ret
  exact ⟨by rw [countE_ok HCT.out]; rfl,⟨p,by rw [HCT.out]; exact HD.out⟩,Chg.refl _ _⟩
 | some sk =>
  obtain ⟨s,k⟩ := sk
  obtain ⟨cb,hcb,hbx⟩ := coming_some (by have := hD.coming; rwa [hl] at this)
  rw [hcb] at c3
  unfold optP at c3
  dsimp only at c3
  have k0 := hbx.cell (j := 0) rfl
  have z0 := hbx.frozen 0
  cases s with
  | zero =>
   have HCT : Hid (d.count = (false,d.falls k)) := by show _ = _; unfold Dk.count; rw [hl]
   have HG : Hid _ := goDown_any F bd d p 0 k w hD hl hok (fun q hq => (hF q hq).2)
   have HEV : Hid (errVal E 8 = .iface 352 (.pointer (some E.power))) := by show _ = _; simp [errVal,errAd]
   have HE : Hid (∀ wx,Chg F w wx -> Env wx E) := fun wx hx => (hE.chg hx (fun q hq => (hF q hq).1)).env
   have k0' : w.cell? ⟨cb,0,none⟩ = some (.int .i64 0) := k0
   clear hD hl hE hok hbx k0 z0
   go_enter Tryz.func184,Tryz.ntmps184
   go_wp2_with fail
   refine Calls.mono HG.out ?_
   rintro e w1 ⟨rfl,⟨p1,hD1⟩,hC1⟩
   have gp := (HE.out w1 hC1).power
   have HD1 : Hid _ := hD1
   clear HG hD1 HE
   go_wp2
   go_ret
   exact ⟨by rw [countE_no HCT.out,HEV.out]; rfl,⟨p1,by rw [HCT.out]; exact HD1.out⟩,hC1⟩
  | succ s =>
   have HCT : Hid (d.count = (true,{ d with left := some (s,k) })) := by show _ = _; unfold Dk.count; rw [hl]
   have hsm := hD.small _ _ hl
   have hne : ((((s + 1 : Nat) : Int)) == 0) = false := by simp; omega
   have hsub : ((s + 1 : Nat) : Int) - 1 = (s : Int) := by omega
   have HE2 : Hid (∀ W',W' = w.setCell ⟨cb,0,none⟩ (.int .i64 (s : Int)) -> DiskAt W' F bd { d with left := some (s,k) } p) := by
    rintro W' rfl
    have hg := grown_setB w cb 0 (.int .i64 (s : Int))
    obtain ⟨D,h1,h2,h3⟩ := hD.map
    refine ⟨(hg.block _ hD.dk.lt (fun e => bx_unlike hD.dk hbx (by decide) (by simpa using e))).trans hD.dk,⟨D,h1.kept hg (fun e => ownMap_unlike hbx h1 (by simpa using e)),h2,h3⟩,?_,fun i f hi => ?_,hD.dB,hD.dV,hD.fd,hD.fm,hD.fc,hD.fB,hD.fV,fun s' k' e => ?_⟩
    ·show ComingAt _ (some (s,k)) p.bc
     rw [hcb]
     exact hbx.setj 0 _
    ·obtain ⟨a1,a2⟩ := hD.files i f hi
     exact ⟨(hg.block _ a1.lt (fun e => bx_unlike a1 hbx (by decide) (by simpa using e))).trans a1,a2.kept hg (own_unlike hbx a2 (by decide))⟩
    ·simp only [Option.some.injEq,Prod.mk.injEq] at e
     omega
   have HFC : Hid (F cb) := hD.fc cb hcb
   clear hD hl hE hok hbx
   go_enter Tryz.func184,Tryz.ntmps184
   go_wp2
   go_ret
   exact ⟨by rw [countE_ok HCT.out]; rfl,⟨p,by rw [HCT.out]; exact HE2.out _ rfl⟩,(Chg.refl _ _).set cb 0 _ (.inl HFC.out)⟩
theorem own_tight {W : World} {k : TypeId} {R : Value -> Option (DataW Unit × List MemPlace)} {b n m : Nat} {D : DataW Unit} (h : W.ownsMap Tryz.prog k R b n D) (hm : Maps.size D <= m) : W.ownsMap Tryz.prog k R b m D := by
 have hs : ∀ es clock,W.heap[b]? = some (.map es clock) -> D = .map ((es.toList.map (WideElems.rg Tryz.prog k R)).foldr DataW.insert []) -> es.size <= m := by
  intro es clock hb hD
  have h2 : W.ownsMap Tryz.prog k R b n D := h
  obtain ⟨es',ck',hb',F',hs',hD'⟩ := h2
  have hx : W.ownsMap Tryz.prog k R b es'.size D := ⟨es',ck',hb',F',Nat.le_refl _,hD'⟩
  rw [hb] at hb'
  cases hb'
  have : Maps.size D = es.size := by
   rw [hD]
   simp [Maps.size,length_sorted]
  omega
 obtain ⟨es,ck,hb,F',_,hD⟩ := h
 exact ⟨es,ck,hb,F',hs es ck hb hD,hD⟩
def upd {α : Type} (f : Nat -> α) (i : Nat) (x : α) : Nat -> α := fun j => if j = i then x else f j
theorem upd_self {α : Type} (f : Nat -> α) (i : Nat) (x : α) : upd f i x i = x := by unfold upd; rw [if_pos rfl]
theorem upd_ne {α : Type} (f : Nat -> α) {i j : Nat} (x : α) (h : j ≠ i) : upd f i x j = f j := by unfold upd; rw [if_neg h]
theorem cnt_le (d : Dk) : d.cnt <= 3 := by
 have : ∀ o : Option Fl,o.toList.length <= 1 := fun o => by cases o <;> simp
 have h0 := this d.f0
 have h1 := this d.f1
 have h2 := this d.f2
 unfold Dk.cnt; omega
theorem cnt_put (d : Dk) {i : Nat} (hi : i <= 2) (f : Option Fl) : (d.put i f).cnt + (d.file i).toList.length = d.cnt + f.toList.length := by
 rcases dk_cases d i f with ⟨rfl,h⟩ | ⟨rfl,h⟩ | ⟨rfl,h⟩ | ⟨h3,_⟩
 ·rw [h]; unfold Dk.cnt Dk.file; simp; omega
 ·rw [h]; unfold Dk.cnt Dk.file; simp; omega
 ·rw [h]; unfold Dk.cnt Dk.file; simp; omega
 ·omega
theorem nameN_eq {s : List UInt8} {i : Nat} (hi : i <= 2) : nameN s = i ↔ s = nm i := by
 constructor
 ·intro h; rw [<- nm_nameN (s := s) (by omega),h]
 ·intro h; rw [h,nameN_nm hi]
theorem fM_put {B : Nat -> Nat} {d : Dk} {i nb : Nat} (hi : i <= 2) (f : Fl) (l : Lit) : (if l = .string (nm i) then some (.lit (.int .i64 (nb : Int))) else fM B d l) = fM (upd B i nb) (d.put i (some f)) l := by
 cases l with
 | string s =>
  unfold fM
  simp only [file_put d i _ _ hi]
  by_cases h : s = nm i
  ·subst h
   rw [if_pos rfl,nameN_nm hi,if_pos rfl,upd_self]; rfl
  ·have h2 : nameN s ≠ i := fun e => h ((nameN_eq hi).1 e)
   rw [if_neg (by intro e; injection e with e; exact h e),if_neg h2,upd_ne _ _ h2]
 | _ => rw [if_neg (by intro e; cases e)]; rfl
theorem fM_del {B : Nat -> Nat} {d : Dk} {i : Nat} (hi : i <= 2) (l : Lit) : (if l = .string (nm i) then none else fM B d l) = fM B (d.put i none) l := by
 cases l with
 | string s =>
  unfold fM
  simp only [file_put d i _ _ hi]
  by_cases h : s = nm i
  ·subst h
   rw [if_pos rfl,nameN_nm hi,if_pos rfl]; rfl
  ·have h2 : nameN s ≠ i := fun e => h ((nameN_eq hi).1 e)
   rw [if_neg (by intro e; injection e with e; exact h e),if_neg h2]
 | _ => rw [if_neg (by intro e; cases e)]; rfl
theorem has_file {D : DataW Unit} {B : Nat -> Nat} {d : Dk} (v : View D (fM B d)) {i : Nat} (hi : i <= 2) : Maps.has D (.string (nm i)) = (d.file i).isSome := by
 rw [(v.2 _).2]
 show ((d.file (nameN (nm i))).map _).isSome = _
 rw [nameN_nm hi,Option.isSome_map]
theorem view_make {D : DataW Unit} {B : Nat -> Nat} {d : Dk} (v : View D (fM B d)) (hz : Maps.size D = d.cnt) {i nb : Nat} (hi : i <= 2) (f : Fl) : View (D.put (.string (nm i)) (.lit (.int .i64 (nb : Int)))) (fM (upd B i nb) (d.put i (some f))) /\ Maps.size (D.put (.string (nm i)) (.lit (.int .i64 (nb : Int)))) = (d.put i (some f)).cnt := by
 refine ⟨(v.put (by trivial) _).congr (fM_put hi f),?_⟩
 have h1 := cnt_put d hi (some f)
 have h2 := size_put (k := .string (nm i)) (d := .lit (.int .i64 (nb : Int))) v.1
 rw [has_file v hi] at h2
 rw [h2]
 cases h3 : d.file i with
 | none => rw [h3] at h1; simp at h1 ⊢; omega
 | some g => rw [h3] at h1; simp at h1 ⊢; omega
theorem view_gone {D : DataW Unit} {B : Nat -> Nat} {d : Dk} (v : View D (fM B d)) (hz : Maps.size D = d.cnt) {i : Nat} (hi : i <= 2) : View (D.del (.string (nm i))) (fM B (d.put i none)) /\ Maps.size (D.del (.string (nm i))) = (d.put i none).cnt := by
 refine ⟨(v.del _).congr (fM_del hi),?_⟩
 have h1 := cnt_put d hi none
 have h2 := size_del (k := .string (nm i)) v.1
 rw [has_file v hi] at h2
 cases h3 : d.file i with
 | none => rw [h3] at h1 h2; simp at h1 h2; omega
 | some g => rw [h3] at h1 h2; simp at h1 h2; omega
theorem ComingAt.kept {W W' : World} {l : Option (Nat × Nat)} {c : Option Nat} (h : ComingAt W l c) (hk : ∀ b cs,c = some b -> Bx W b cs 185 -> Bx W' b cs 185) : ComingAt W' l c := by
 unfold ComingAt at h ⊢
 split
 ·trivial
 ·exact hk _ _ rfl h
 ·rename_i h1 h2
  split at h
  ·exact h1 rfl rfl
  ·exact h2 _ _ _ rfl rfl
  ·exact h
theorem DiskAt.turn {W W' : World} {F F' : Nat -> Prop} {bd : Nat} {d : Dk} {p : Pr} {i : Nat} {f f' : Fl} {v' : Value} (h : DiskAt W F bd d p) (hi : d.file i = some f) (hF : ∀ k,F k -> F' k) (hFz : ∀ k,F k -> k < W.heap.size) (hc : Chg (fun k => k = p.B i \/ (p.V i).ownBlock = some k) W W') (hA : FileAt W' (p.B i) v' f') (hv : v'.ownBlock = (p.V i).ownBlock \/ ∃ g,v'.ownBlock = some g /\ W.heap.size <= g /\ F' g) :
  DiskAt W' F' bd (d.put i (some f')) { p with V := upd p.V i v' } := by
 have hil := file_le hi
 obtain ⟨bB,bR⟩ := h.files i f hi
 obtain ⟨D,h1,h2,h3⟩ := h.map
 have hp := put_same d i (some f')
 have hsm : ∀ j,((d.put i (some f')).file j).isSome = (d.file j).isSome := fun j => by
  rw [file_put d i j _ hil]
  split
  ·rename_i e; rw [e,hi]; rfl
  ·rfl
 have keepB : ∀ {b : Nat} {cs : Array Value} {t : TypeId},Bx W b cs t -> t ≠ 154 -> 5 ≠ t -> Bx W' b cs t := fun hb ht hu => hb.chg hc (by
  rintro (e | e)
  ·exact bx_unlike hb bB ht e
  ·rcases own_unlike hb bR hu with h5 | h5
   ·rw [h5] at e; cases e
   ·exact h5 e)
 refine ⟨?_,⟨D,ownMap_chg h1 hc ?_,?_,?_⟩,?_,?_,?_,?_,hF _ h.fd,hF _ h.fm,fun c e => hF _ (h.fc c e),fun j hj => hF _ (h.fB j (by rw [hsm] at hj; exact hj)),?_,?_⟩
 ·rw [hp.1,hp.2.1]; exact keepB h.dk (by decide) (by decide)
 ·rintro (e | e)
  ·exact ownMap_unlike bB h1 e
  ·have := own_lt bR _ e
   rcases bR.2 with ⟨e3,_⟩ | ⟨g',cap,cur,e3,_,hgb,_⟩
   ·rw [e3] at e; cases e
   ·rw [e3] at e
    have : g' = p.bm := by simpa [Value.ownBlock] using e
    subst this
    obtain ⟨es,ck,hb,_⟩ := h1
    rw [hgb] at hb; cases hb
 ·refine h2.congr (fun l => ?_)
  unfold fM
  split
  ·rename_i s
   rw [file_put d i _ _ hil]
   split
   ·rename_i e; rw [e,hi]; rfl
   ·rfl
  ·rfl
 ·have := cnt_put d hil (some f')
  rw [hi] at this
  simp at this
  rw [h3]; exact this.symm
 ·rw [hp.2.2.1]
  exact h.coming.kept (fun b cs _ hb => keepB hb (by decide) (by decide))
 ·intro j g hj
  rw [file_put d i j _ hil] at hj
  by_cases e : j = i
  ·subst e
   rw [if_pos rfl] at hj
   cases hj
   simp only [upd_self]
   exact hA
  ·rw [if_neg e] at hj
   simp only [upd_ne _ _ e]
   obtain ⟨a1,a2⟩ := h.files j g hj
   refine ⟨a1.chg hc ?_,own_chg a2 hc ?_⟩
   ·rintro (e2 | e2)
    ·exact h.dB j i e (by rw [hj]; rfl) (by rw [hi]; rfl) e2
    ·rcases own_unlike a1 bR (by decide) with h5 | h5
     ·rw [h5] at e2; cases e2
     ·exact h5 e2
   ·rintro g' hg' (e2 | e2)
    ·subst e2
     rcases own_unlike bB a2 (by decide) with h5 | h5
     ·rw [h5] at hg'; cases hg'
     ·exact h5 hg'
    ·exact h.dV j i e (by rw [hj]; rfl) (by rw [hi]; rfl) g' hg' e2
 ·intro a b hab ha hb
  rw [hsm] at ha hb
  exact h.dB a b hab ha hb
 ·intro a b hab ha hb k hk
  rw [hsm] at ha hb
  simp only at hk ⊢
  by_cases e : a = i
  ·subst e
   rw [upd_self] at hk
   rw [upd_ne _ _ (Ne.symm hab)]
   rcases hv with hv | ⟨g,hg,hgz,_⟩
   ·rw [hv] at hk; exact h.dV a b hab ha hb k hk
   ·rw [hg] at hk
    cases hk
    intro e2
    have := hFz _ (h.fV b hb _ e2)
    omega
  ·rw [upd_ne _ _ e] at hk
   by_cases e2 : b = i
   ·subst e2
    rw [upd_self]
    rcases hv with hv | ⟨g,hg,hgz,_⟩
    ·rw [hv]; exact h.dV a b hab ha hb k hk
    ·rw [hg]
     intro e3
     cases e3
     have := hFz _ (h.fV a ha _ hk)
     omega
   ·rw [upd_ne _ _ e2]; exact h.dV a b hab ha hb k hk
 ·intro j hj k hk
  rw [hsm] at hj
  simp only at hk
  by_cases e : j = i
  ·subst e
   rw [upd_self] at hk
   rcases hv with hv | ⟨g,hg,_,hg2⟩
   ·rw [hv] at hk; exact hF _ (h.fV j hj k hk)
   ·rw [hg] at hk; cases hk; exact hg2
  ·rw [upd_ne _ _ e] at hk; exact hF _ (h.fV j hj k hk)
 ·intro s k e
  rw [hp.2.2.1] at e
  exact h.small s k e
theorem nm_small (i : Nat) : (S (nm i)).size <= 140737488351232 := by
 rw [S_size]; unfold nm
 split
 ·simp
 ·split <;> simp
theorem make1_any (F : Nat -> Prop) (bd : Nat) (d : Dk) (p : Pr) (i c : Nat) (w : World) (hD : DiskAt w F bd d p) (hi : i <= 2) (hc : w.cell? ⟨c,0,none⟩ = some (.string (S (nm i)))) (hFz : ∀ q,F q -> q < w.heap.size) :
  Calls Tryz.prog 102 #[.pointer (some ⟨bd,0,none⟩),.pointer (some ⟨c,0,none⟩)] w fun e w' => e = .returned .nilIface /\ (∃ p',DiskAt w' (Fx F w w') bd (d.put i (some ⟨[],0⟩)) p') /\ Chg F w w' := by
 have c1 : w.cell? ⟨bd,1,none⟩ = some (.map (some p.bm)) := hD.dk.cell (j := 1) rfl
 obtain ⟨D,h1,h2,h3⟩ := hD.map
 have hk := keyStr (S (nm i)) (nm_small i)
 rw [S_data] at hk
 obtain ⟨w1,hrun,hown1,hg1⟩ := World.ownsMap.update (w := (w.alloc (.cells #[.slice none 0 0,.int .i64 0] 154)).drew) ((h1.alloc _).drew) keyedStr Tryz.underlying180 (by unfold maxLen; omega) hk (rFp_mk w.heap.size)
 have HD : Hid (DiskAt w F bd d p) := hD
 have hc' : (w.alloc (.cells #[.slice none 0 0,.int .i64 0] 154)).cell? ⟨c,0,none⟩ = some (.string (S (nm i))) := (World.cell?_alloc_lt _ _ ⟨c,0,none⟩ (cell_lt (p := ⟨c,0,none⟩) hc)).trans hc
 have c1' : (w.alloc (.cells #[.slice none 0 0,.int .i64 0] 154)).cell? ⟨bd,1,none⟩ = some (.map (some p.bm)) := (World.cell?_alloc_lt _ _ ⟨bd,1,none⟩ (cell_lt (p := ⟨bd,1,none⟩) c1)).trans c1
 clear hD h1
 go_enter Tryz.func102,Tryz.ntmps102
 go_wp2_with fail
 go_region
 all_goals
  go_wp2
  go_ret
  have hz1 : w.heap.size < w1.heap.size := by have := hg1.size; simp at this; omega
  have hC : Chg (fun k => k = p.bm) w w1 := ((Chg.refl _ w).alloc _).drew.grown hg1 (fun k e => by cases e; exact .inl rfl)
  have hvm := view_make h2 h3 hi (nb := w.heap.size) ⟨[],0⟩
  have hD := HD.out
  obtain ⟨D0,o1,o2,o3⟩ := hD.map
  have hp := put_same d i (some ⟨[],0⟩)
  have nbm : ∀ {b : Nat} {cs : Array Value} {t : TypeId},Bx w b cs t -> ¬ b = p.bm := fun hb e => ownMap_unlike hb o1 e.symm
  have nrow : ∀ {v : Value} {n : Nat} {xs : List Value},w.ownsRow 0 5 1 v n xs -> ∀ g,v.ownBlock = some g -> ¬ g = p.bm := fun hr g hg e => by
   subst e
   rcases hr.2 with ⟨e3,_⟩ | ⟨g',cap,cur,e3,_,hgb,_⟩
   ·rw [e3] at hg; cases hg
   ·rw [e3] at hg
    have : g' = p.bm := by simpa [Value.ownBlock] using hg
    subst this
    obtain ⟨es,ck,hb,_⟩ := o1
    rw [hgb] at hb; cases hb
  have hnew : Bx w1 w.heap.size #[.slice none 0 0,.int .i64 0] 154 := (hg1.block w.heap.size (by simp) (fun e => by have := hFz _ hD.fm; simp at e; omega)).trans (bx_new w _ _ rfl)
  refine ⟨rfl,⟨{ p with B := upd p.B i w.heap.size,V := upd p.V i (.slice none 0 0) },?_⟩,hC.mono (fun k _ e => by subst e; exact hD.fm)⟩
  refine ⟨?_,⟨_,own_tight hown1 ?_,hvm.1,hvm.2⟩,?_,?_,?_,?_,.inl hD.fd,.inl hD.fm,fun b e => .inl (hD.fc b e),?_,?_,?_⟩
  ·rw [hp.1,hp.2.1]; exact hD.dk.chg hC (nbm hD.dk)
  ·rw [hvm.2]; exact cnt_le _
  ·rw [hp.2.2.1]; exact hD.coming.kept (fun b cs _ hb => hb.chg hC (nbm hb))
  ·intro j f hj
   rw [file_put d i j _ hi] at hj
   by_cases e : j = i
   ·subst e
    rw [if_pos rfl] at hj
    cases hj
    simp only [upd_self]
    exact ⟨hnew,World.ownsRow_nil _ _ _ _⟩
   ·rw [if_neg e] at hj
    simp only [upd_ne _ _ e]
    obtain ⟨a1,a2⟩ := hD.files j f hj
    exact ⟨a1.chg hC (nbm a1),own_chg a2 hC (nrow a2)⟩
  ·intro a b hab ha hb
   rw [file_put d i _ _ hi] at ha hb
   by_cases e : a = i
   ·subst e
    rw [if_neg (Ne.symm hab)] at hb
    simp only [upd_self,upd_ne _ _ (Ne.symm hab)]
    have := hFz _ (hD.fB b hb)
    omega
   ·rw [if_neg e] at ha
    by_cases e2 : b = i
    ·subst e2
     simp only [upd_self,upd_ne _ _ e]
     have := hFz _ (hD.fB a ha)
     omega
    ·rw [if_neg e2] at hb
     simp only [upd_ne _ _ e,upd_ne _ _ e2]
     exact hD.dB a b hab ha hb
  ·intro a b hab ha hb k hk
   rw [file_put d i _ _ hi] at ha hb
   simp only at hk ⊢
   by_cases e : a = i
   ·subst e; rw [upd_self] at hk; cases hk
   ·rw [if_neg e] at ha
    rw [upd_ne _ _ e] at hk
    by_cases e2 : b = i
    ·subst e2; rw [upd_self]; intro e3; cases e3
    ·rw [if_neg e2] at hb
     rw [upd_ne _ _ e2]
     exact hD.dV a b hab ha hb k hk
  ·intro j hj
   rw [file_put d i _ _ hi] at hj
   by_cases e : j = i
   ·subst e; simp only [upd_self]; exact .inr ⟨Nat.le_refl _,hz1⟩
   ·rw [if_neg e] at hj
    simp only [upd_ne _ _ e]; exact .inl (hD.fB j hj)
  ·intro j hj k hk
   rw [file_put d i _ _ hi] at hj
   simp only at hk
   by_cases e : j = i
   ·subst e; rw [upd_self] at hk; cases hk
   ·rw [if_neg e] at hj
    rw [upd_ne _ _ e] at hk
    exact .inl (hD.fV j hj k hk)
  ·intro s k e; rw [hp.2.2.1] at e; exact hD.small s k e
theorem chg_one {F : Nat -> Prop} {W W' : World} {b : Nat} (h : W.grownBy W' (some b)) (hb : F b) : Chg F W W' := (Chg.refl F W).grown h (fun k e => by cases e; exact .inl hb)
theorem sync1_any (F : Nat -> Prop) (bd : Nat) (d : Dk) (p : Pr) (i : Nat) (f : Fl) (w : World) (hD : DiskAt w F bd d p) (hi : d.file i = some f) (hFz : ∀ q,F q -> q < w.heap.size) :
  Calls Tryz.prog 78 #[.pointer (some ⟨bd,0,none⟩),.pointer (some ⟨p.B i,0,none⟩)] w fun e w' => e = .returned .nilIface /\ (∃ p',DiskAt w' (Fx F w w') bd (d.put i (some ⟨f.text,f.text.length⟩)) p') /\ Chg F w w' := by
 have HC := sync_any (p.B i) (p.V i) f w (hD.files i f hi)
 have HD : Hid (DiskAt w F bd d p) := hD
 have HI : Hid (d.file i = some f) := hi
 have HZ : Hid (∀ q,F q -> q < w.heap.size) := hFz
 clear hD hi hFz
 go_enter Tryz.func78,Tryz.ntmps78
 go_wp2_with (first | (go_at_call 79; refine HC.mono ?_; rintro e w1 ⟨rfl,hA,hg⟩))
 go_ret
 have hB := HD.out.fB i (by rw [HI.out]; rfl)
 exact ⟨rfl,⟨_,HD.out.turn HI.out (fun k h => .inl h) HZ.out (chg_one hg (.inl rfl)) hA (.inl rfl)⟩,chg_one hg hB⟩
theorem cut1_any (F : Nat -> Prop) (bd : Nat) (d : Dk) (p : Pr) (i c m : Nat) (f : Fl) (w : World) (hD : DiskAt w F bd d p) (hi : d.file i = some f) (hc : w.cell? ⟨c,0,none⟩ = some (.int .i64 (m : Int))) (hm : m <= 9223372036854775807) (hFz : ∀ q,F q -> q < w.heap.size) :
  Calls Tryz.prog 194 #[.pointer (some ⟨bd,0,none⟩),.pointer (some ⟨p.B i,0,none⟩),.pointer (some ⟨c,0,none⟩)] w fun e w' => e = .returned .nilIface /\ (∃ p',DiskAt w' (Fx F w w') bd (d.put i (some ⟨f.text.take m,min f.sync (min m f.text.length)⟩)) p') /\ Chg F w w' := by
 have HC := cut_any (p.B i) (p.V i) f m w (hD.files i f hi) hm
 have HD : Hid (DiskAt w F bd d p) := hD
 have HI : Hid (d.file i = some f) := hi
 have HZ : Hid (∀ q,F q -> q < w.heap.size) := hFz
 clear hD hi hFz hm
 go_enter Tryz.func194,Tryz.ntmps194
 go_wp2_with (first | (go_at_call 193; refine HC.mono ?_; rintro e w1 ⟨rfl,v',hA,hv,hg⟩))
 go_ret
 have hB := HD.out.fB i (by rw [HI.out]; rfl)
 exact ⟨rfl,⟨_,HD.out.turn HI.out (fun k h => .inl h) HZ.out (chg_one hg (.inl rfl)) hA (.inl hv)⟩,chg_one hg hB⟩
theorem DiskAt.gone {W W' : World} {F F' : Nat -> Prop} {bd : Nat} {d : Dk} {p : Pr} {i : Nat} {D : DataW Unit} (h : DiskAt W F bd d p) (hi : i <= 2) (hF : ∀ k,F k -> F' k) (hc : Chg (fun k => k = p.bm) W W') (hm : W'.ownsMap Tryz.prog 9 rFp p.bm 3 D) (hv : View D (fM p.B (d.put i none))) (hz : Maps.size D = (d.put i none).cnt) :
  DiskAt W' F' bd (d.put i none) p := by
 obtain ⟨D0,o1,o2,o3⟩ := h.map
 have hp := put_same d i none
 have nbm : ∀ {b : Nat} {cs : Array Value} {t : TypeId},Bx W b cs t -> ¬ b = p.bm := fun hb e => ownMap_unlike hb o1 e.symm
 have nrow : ∀ {v : Value} {n : Nat} {xs : List Value},W.ownsRow 0 5 1 v n xs -> ∀ g,v.ownBlock = some g -> ¬ g = p.bm := fun hr g hg e => by
  subst e
  rcases hr.2 with ⟨e3,_⟩ | ⟨g',cap,cur,e3,_,hgb,_⟩
  ·rw [e3] at hg; cases hg
  ·rw [e3] at hg
   have : g' = p.bm := by simpa [Value.ownBlock] using hg
   subst this
   obtain ⟨es,ck,hb,_⟩ := o1
   rw [hgb] at hb; cases hb
 have hsub : ∀ j,((d.put i none).file j).isSome = true -> (d.file j).isSome = true := fun j hj => by
  rw [file_put d i j _ hi] at hj
  split at hj
  ·cases hj
  ·exact hj
 refine ⟨?_,⟨D,hm,hv,hz⟩,?_,?_,fun a b e ha hb => h.dB a b e (hsub a ha) (hsub b hb),fun a b e ha hb => h.dV a b e (hsub a ha) (hsub b hb),hF _ h.fd,hF _ h.fm,fun c e => hF _ (h.fc c e),fun j hj => hF _ (h.fB j (hsub j hj)),fun j hj k hk => hF _ (h.fV j (hsub j hj) k hk),?_⟩
 ·rw [hp.1,hp.2.1]; exact h.dk.chg hc (nbm h.dk)
 ·rw [hp.2.2.1]; exact h.coming.kept (fun b cs _ hb => hb.chg hc (nbm hb))
 ·intro j g hj
  rw [file_put d i j _ hi] at hj
  split at hj
  ·cases hj
  ·obtain ⟨a1,a2⟩ := h.files j g hj
   exact ⟨a1.chg hc (nbm a1),own_chg a2 hc (nrow a2)⟩
 ·intro s k e; rw [hp.2.2.1] at e; exact h.small s k e
theorem remove1_any (F : Nat -> Prop) (bd : Nat) (d : Dk) (p : Pr) (i c : Nat) (fv : Value) (w : World) (hD : DiskAt w F bd d p) (hi : i <= 2) (hc : w.cell? ⟨c,0,none⟩ = some (.string (S (nm i)))) (hFz : ∀ q,F q -> q < w.heap.size) :
  Calls Tryz.prog 195 #[.pointer (some ⟨bd,0,none⟩),fv,.pointer (some ⟨c,0,none⟩)] w fun e w' => e = .returned .nilIface /\ (∃ p',DiskAt w' (Fx F w w') bd (d.put i none) p') /\ Chg F w w' := by
 have c1 : w.cell? ⟨bd,1,none⟩ = some (.map (some p.bm)) := hD.dk.cell (j := 1) rfl
 obtain ⟨D,h1,h2,h3⟩ := hD.map
 have hk := keyStr (S (nm i)) (nm_small i)
 rw [S_data] at hk
 obtain ⟨w1,hrun,hown1,ht1⟩ := World.ownsMap.drop (w := w.drew) h1.drew keyedStr Tryz.underlying180 hk 0
 have HD : Hid (DiskAt w F bd d p) := hD
 clear hD h1
 go_enter Tryz.func195,Tryz.ntmps195
 go_wp2_with fail
 go_region
 all_goals
  go_wp2
  go_ret
  have hg1 := ht1.grown
  have hC : Chg (fun k => k = p.bm) w w1 := ((Chg.refl _ w).drew).grown hg1 (fun k e => by cases e; exact .inl rfl)
  have hv := view_gone h2 h3 hi
  exact ⟨rfl,⟨p,HD.out.gone hi (fun k h => .inl h) hC hown1 hv.1 hv.2⟩,hC.mono (fun k _ e => by subst e; exact HD.out.fm)⟩
theorem DiskAt.named {W W' : World} {F F' : Nat -> Prop} {bd : Nat} {d : Dk} {p : Pr} {j nb : Nat} {nv : Value} {f : Fl} {D : DataW Unit} (h : DiskAt W F bd d p) (hj : j <= 2) (hF : ∀ k,F k -> F' k) (hc : Chg (fun k => k = p.bm) W W') (hm : W'.ownsMap Tryz.prog 9 rFp p.bm 3 D) (hv : View D (fM (upd p.B j nb) (d.put j (some f)))) (hz : Maps.size D = (d.put j (some f)).cnt)
  (hA : FileAt W nb nv f) (hnB : ∀ a,(d.file a).isSome = true -> a ≠ j -> p.B a ≠ nb) (hnV : ∀ a,(d.file a).isSome = true -> a ≠ j -> ∀ k,(p.V a).ownBlock = some k -> nv.ownBlock ≠ some k) (fB : F' nb) (fV : ∀ k,nv.ownBlock = some k -> F' k) :
  DiskAt W' F' bd (d.put j (some f)) { p with B := upd p.B j nb,V := upd p.V j nv } := by
 obtain ⟨D0,o1,o2,o3⟩ := h.map
 have hp := put_same d j (some f)
 have nbm : ∀ {b : Nat} {cs : Array Value} {t : TypeId},Bx W b cs t -> ¬ b = p.bm := fun hb e => ownMap_unlike hb o1 e.symm
 have nrow : ∀ {v : Value} {n : Nat} {xs : List Value},W.ownsRow 0 5 1 v n xs -> ∀ g,v.ownBlock = some g -> ¬ g = p.bm := fun hr g hg e => by
  subst e
  rcases hr.2 with ⟨e3,_⟩ | ⟨g',cap,cur,e3,_,hgb,_⟩
  ·rw [e3] at hg; cases hg
  ·rw [e3] at hg
   have : g' = p.bm := by simpa [Value.ownBlock] using hg
   subst this
   obtain ⟨es,ck,hb,_⟩ := o1
   rw [hgb] at hb; cases hb
 have keepA : ∀ {b : Nat} {v : Value} {f : Fl},FileAt W b v f -> FileAt W' b v f := fun hx => ⟨hx.1.chg hc (nbm hx.1),own_chg hx.2 hc (nrow hx.2)⟩
 refine ⟨?_,⟨D,hm,hv,hz⟩,?_,?_,?_,?_,hF _ h.fd,hF _ h.fm,fun c e => hF _ (h.fc c e),?_,?_,?_⟩
 ·rw [hp.1,hp.2.1]; exact h.dk.chg hc (nbm h.dk)
 ·rw [hp.2.2.1]; exact h.coming.kept (fun b cs _ hb => hb.chg hc (nbm hb))
 ·intro a g ha
  rw [file_put d j a _ hj] at ha
  by_cases e : a = j
  ·subst e
   rw [if_pos rfl] at ha
   cases ha
   simp only [upd_self]
   exact keepA hA
  ·rw [if_neg e] at ha
   simp only [upd_ne _ _ e]
   exact keepA (h.files a g ha)
 ·intro a b hab ha hb
  rw [file_put d j _ _ hj] at ha hb
  by_cases e : a = j
  ·subst e
   rw [if_neg (Ne.symm hab)] at hb
   simp only [upd_self,upd_ne _ _ (Ne.symm hab)]
   exact (hnB b hb (Ne.symm hab)).symm
  ·rw [if_neg e] at ha
   by_cases e2 : b = j
   ·subst e2
    simp only [upd_self,upd_ne _ _ e]
    exact hnB a ha e
   ·rw [if_neg e2] at hb
    simp only [upd_ne _ _ e,upd_ne _ _ e2]
    exact h.dB a b hab ha hb
 ·intro a b hab ha hb k hk
  rw [file_put d j _ _ hj] at ha hb
  simp only at hk ⊢
  by_cases e : a = j
  ·subst e
   rw [if_neg (Ne.symm hab)] at hb
   rw [upd_self] at hk
   rw [upd_ne _ _ (Ne.symm hab)]
   intro e3
   exact hnV b hb (Ne.symm hab) k e3 hk
  ·rw [if_neg e] at ha
   rw [upd_ne _ _ e] at hk
   by_cases e2 : b = j
   ·subst e2
    rw [upd_self]
    exact hnV a ha e k hk
   ·rw [if_neg e2] at hb
    rw [upd_ne _ _ e2]
    exact h.dV a b hab ha hb k hk
 ·intro a ha
  rw [file_put d j _ _ hj] at ha
  by_cases e : a = j
  ·subst e; simp only [upd_self]; exact fB
  ·rw [if_neg e] at ha
   simp only [upd_ne _ _ e]; exact hF _ (h.fB a ha)
 ·intro a ha k hk
  rw [file_put d j _ _ hj] at ha
  simp only at hk
  by_cases e : a = j
  ·subst e; rw [upd_self] at hk; exact fV k hk
  ·rw [if_neg e] at ha
   rw [upd_ne _ _ e] at hk
   exact hF _ (h.fV a ha k hk)
 ·intro s k e; rw [hp.2.2.1] at e; exact h.small s k e
theorem rename1_any (F : Nat -> Prop) (bd : Nat) (d : Dk) (p : Pr) (i j c c2 : Nat) (f : Fl) (w : World) (hD : DiskAt w F bd d p) (hi : d.file i = some f) (hj : j <= 2) (hc : w.cell? ⟨c,0,none⟩ = some (.string (S (nm i)))) (hc2 : w.cell? ⟨c2,0,none⟩ = some (.string (S (nm j)))) (hFz : ∀ q,F q -> q < w.heap.size) (hF2 : ¬ F c2) :
  Calls Tryz.prog 105 #[.pointer (some ⟨bd,0,none⟩),.pointer (some ⟨p.B i,0,none⟩),.pointer (some ⟨c,0,none⟩),.pointer (some ⟨c2,0,none⟩)] w fun e w' => e = .returned .nilIface /\ (∃ p',DiskAt w' (Fx F w w') bd ((d.put i none).put j (some f)) p') /\ Chg F w w' := by
 have hil := file_le hi
 have c1 : w.cell? ⟨bd,1,none⟩ = some (.map (some p.bm)) := hD.dk.cell (j := 1) rfl
 obtain ⟨D,h1,h2,h3⟩ := hD.map
 have hk := keyStr (S (nm i)) (nm_small i)
 have hk2 := keyStr (S (nm j)) (nm_small j)
 rw [S_data] at hk hk2
 obtain ⟨w1,hrun,hown1,ht1⟩ := World.ownsMap.drop (w := w.drew) h1.drew keyedStr Tryz.underlying180 hk 0
 have hC1 : Chg (fun k => k = p.bm) w w1 := ((Chg.refl _ w).drew).grown ht1.grown (fun k e => by cases e; exact .inl rfl)
 have hv1 := view_gone h2 h3 hil
 have hD1 : DiskAt w1 F bd (d.put i none) p := hD.gone hil (fun k h => h) hC1 hown1 hv1.1 hv1.2
 have nbm1 : ∀ {b : Nat} {cs : Array Value} {t : TypeId},Bx w b cs t -> ¬ b = p.bm := fun hb e => ownMap_unlike hb h1 e.symm
 have hA1 : FileAt w1 (p.B i) (p.V i) f := by
  obtain ⟨a1,a2⟩ := hD.files i f hi
  refine ⟨a1.chg hC1 (nbm1 a1),own_chg a2 hC1 ?_⟩
  intro g hg e
  subst e
  rcases a2.2 with ⟨e3,_⟩ | ⟨g',cap,cur,e3,_,hgb,_⟩
  ·rw [e3] at hg; cases hg
  ·rw [e3] at hg
   have : g' = p.bm := by simpa [Value.ownBlock] using hg
   subst this
   obtain ⟨es,ck,hb,_⟩ := h1
   rw [hgb] at hb; cases hb
 have c11 : w1.cell? ⟨bd,1,none⟩ = some (.map (some p.bm)) := hD1.dk.cell (j := 1) rfl
 have hc21 : w1.cell? ⟨c2,0,none⟩ = some (.string (S (nm j))) := by
  have hlt := cell_lt (p := ⟨c2,0,none⟩) hc2
  have := hC1.keep c2 hlt (fun e => hF2 (by rw [e]; exact hD.fm))
  rw [<- hc2]
  unfold World.cell?
  rw [this]
 obtain ⟨w2,hrun2,hown2,ht2⟩ := World.ownsMap.update (w := w1.drew) hown1.drew keyedStr Tryz.underlying180 (by unfold maxLen; omega) hk2 (rFp_mk (p.B i))
 have hC2 : Chg (fun k => k = p.bm) w1 w2 := ((Chg.refl _ w1).drew).grown ht2 (fun k e => by cases e; exact .inl rfl)
 have hv2 := view_make hv1.1 hv1.2 hj (nb := p.B i) f
 have hown3 := own_tight hown2 (m := 3) (by rw [hv2.2]; exact cnt_le _)
 have hi1 : (d.file i).isSome = true := by rw [hi]; rfl
 have hno : ∀ a,((d.put i none).file a).isSome = true -> a ≠ i /\ (d.file a).isSome = true := fun a ha => by
  rw [file_put d i a _ hil] at ha
  split at ha
  ·cases ha
  ·rename_i e; exact ⟨e,ha⟩
 have HE : Hid (∃ p',DiskAt w2 (Fx F w w2) bd ((d.put i none).put j (some f)) p') := ⟨_,hD1.named hj (fun k h => .inl h) hC2 hown3 hv2.1 hv2.2 hA1 (fun a ha _ => hD.dB a i (hno a ha).1 (hno a ha).2 hi1) (fun a ha _ => hD.dV a i (hno a ha).1 (hno a ha).2 hi1) (.inl (hD.fB i hi1)) (fun k hk => .inl (hD.fV i hi1 k hk))⟩
 have HG : Hid (Chg F w w2) := (hC1.mono (fun k _ e => by subst e; exact hD.fm)).trans (hC2.mono (fun k _ e => by subst e; exact .inl hD.fm))
 clear hD h1 hi hD1 hA1 hno hi1 hv1 hv2 hC1 hC2 hown3 hown2 ht2 hown1 ht1 h2 h3 nbm1
 go_enter Tryz.func105,Tryz.ntmps105
 go_wp2_with fail
 go_region
 all_goals
  go_wp2_with fail
  go_region
  all_goals
   go_wp2
   go_ret
   exact ⟨rfl,HE.out,HG.out⟩
end Go.Proofs.YtdhgebdbiehchaaGreatDoor
