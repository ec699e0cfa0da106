/- On the way: RfMend, RfMend2, LwFail3. -/
import Derived.Test.YtdhgebdbiehchaaGreatDoorB40
import Derived.Test.YtdhgebdbiehchaaGreatDoorB45
import Derived.Test.YtdhgebdbiehchaaGreatDoorB12
namespace Go.Proofs.YtdhgebdbiehchaaGreatDoor
open Go.RowKit Go.Maps
set_option linter.unusedSimpArgs false
set_option linter.unusedVariables false
set_option maxRecDepth 100000
set_option maxHeartbeats 6400000
def restT (f2 : Option Fl) (l : List UInt8) : List St := match f2 with
 | none => []
 | some g => if saidE l g.text = 0 then [] else [stRemove 2]
theorem mending_rest (d : Dk) (log : List UInt8) : d.mending log = (if (readL log (hdBlk log) 14).2 < log.length then [stCut 0 (readL log (hdBlk log) 14).2] else []) ++ [stSync 0] ++ restT d.f2 (log.take (readL log (hdBlk log) 14).2) := rfl
def tailF (d : Dk) (blk : Nat) (t : List St) : Int × Dk :=
 if (d.one (stSync 0)).1 = 0 then (if ((d.one (stSync 0)).2.steps t).1 = 0 then (0,((d.one (stSync 0)).2.steps t).2.opens blk) else (d.one (stSync 0)).2.steps t) else d.one (stSync 0)
theorem opening_tail (d : Dk) (blk : Nat) (t : List St) : d.opening blk ([stSync 0] ++ t) = tailF d blk t := by
 rw [opening_eq,steps_cat,steps_one1]
 unfold tailF
 by_cases h1 : (d.one (stSync 0)).1 = 0
 ·rw [if_pos h1,if_pos h1]
 ·rw [if_neg h1,if_neg h1,if_neg h1]
theorem opening_cut (d : Dk) (blk : Nat) (s : St) (t : List St) : d.opening blk ([s] ++ [stSync 0] ++ t) = if (d.one s).1 = 0 then tailF (d.one s).2 blk t else d.one s := by
 rw [List.append_assoc,opening_eq,steps_cat,steps_one1]
 by_cases h1 : (d.one s).1 = 0
 ·rw [if_pos h1,if_pos h1,<- opening_tail,opening_eq]
 ·rw [if_neg h1,if_neg h1,if_neg h1]
theorem one_cut {d d' : Dk} {f : Fl} {m : Nat} (h : d.count = (true,d')) (h0 : d'.f0 = some f) (hm : m <= f.text.length) : d.one (stCut 0 m) = (0,d'.put 0 (some ⟨f.text.take m,min f.sync m⟩)) := by
 rw [one_yes h]
 unfold Dk.take
 have h' : d'.file (stCut 0 m).i = some f := h0
 rw [if_neg (by simp [stCut]),h']
 show ((0 : Int),d'.put 0 (some ⟨f.text.take m,min f.sync (min m f.text.length)⟩)) = _
 rw [Nat.min_eq_left hm]
theorem one_sync {d : Dk} {f : Fl} (h0 : d.f0 = some f) (h : (d.one (stSync 0)).1 = 0) : (d.one (stSync 0)).2.f0 = some ⟨f.text,f.text.length⟩ /\ (d.one (stSync 0)).2.f2 = d.f2 := by
 obtain ⟨bb,d',hct⟩ : ∃ b d',d.count = (b,d') := ⟨_,_,rfl⟩
 cases bb with
 | false => rw [one_no hct] at h; cases h
 | true =>
  have e := count_ok hct
  have h0' : d'.f0 = some f := by rw [e]; exact h0
  have h2' : d'.f2 = d.f2 := by rw [e]
  have h' : d'.file (stSync 0).i = some f := h0'
  rw [one_yes hct]
  unfold Dk.take
  rw [if_neg (by simp [stSync]),h']
  exact ⟨rfl,h2'⟩
theorem one_remove {d d' : Dk} {g : Fl} (h : d.count = (true,d')) (h2 : d.f2 = some g) : d.steps [stRemove 2] = (0,d'.put 2 none) := by
 have e := count_ok h
 have h' : d'.file (stRemove 2).i = some g := by rw [e]; exact h2
 rw [steps_one1,one_yes h]
 unfold Dk.take
 rw [if_neg (by simp [stRemove]),h']
 rfl
theorem RefAt.removed {W : World} {G : Nat -> Prop} {b : Nat} {d : Dk} {q : RfP} (h : RefAt W G b d q) : RefAt (((W.setCell ⟨b,8,none⟩ (.bool false)).setCell ⟨b,9,none⟩ (.string ⟨#[]⟩)).setCell ⟨b,10,none⟩ (.int .i64 0)) G b (d.put 2 none) q :=
 h.file (((h.box.setj 8 (.bool false)).setj 9 (.string ⟨#[]⟩)).setj 10 (.int .i64 0)) (grown_trans (grown_trans (grown_setB _ _ _ _) (grown_setB _ _ _ _)) (grown_setB _ _ _ _))
theorem RefAt.cut0 {W : World} {G : Nat -> Prop} {b : Nat} {d : Dk} {q : RfP} {f : Fl} {m : Nat} (h : RefAt W G b d q) (hf : d.f0 = some f) (hs : f.sync <= m) : RefAt (W.setCell ⟨b,3,none⟩ (.string (S (f.text.take m)))) G b (d.put 0 (some ⟨f.text.take m,min f.sync m⟩)) q := by
 rw [Nat.min_eq_left hs]
 exact h.text (i := 0) (by omega) hf _
theorem RefAt.cut1 {W : World} {G : Nat -> Prop} {b : Nat} {d : Dk} {q : RfP} {f : Fl} {m : Nat} (h : RefAt W G b d q) (hf : d.f0 = some f) (hs : m < f.sync) : RefAt ((W.setCell ⟨b,3,none⟩ (.string (S (f.text.take m)))).setCell ⟨b,4,none⟩ (.int .i64 (m : Int))) G b (d.put 0 (some ⟨f.text.take m,min f.sync m⟩)) q := by
 rw [Nat.min_eq_right (by omega)]
 exact (h.text (i := 0) (by omega) hf (f.text.take m)).synced (i := 0) (f := ⟨f.text.take m,f.sync⟩) (by omega) rfl m
def CfgC (W : World) (g k1 k2 k3 : Nat) : Prop := W.cell? ⟨g,0,none⟩ = some (.int .i64 (k1 : Int)) /\ W.cell? ⟨g,1,none⟩ = some (.int .i64 (k2 : Int)) /\ W.cell? ⟨g,2,none⟩ = some (.int .i64 (k3 : Int))
theorem rmend_go (G : Nat -> Prop) (b : Nat) (d : Dk) (q : RfP) (f : Fl) (w : World) (hR : RefAt w G b d q) (hok : DkOk d) (hGz : ∀ k,G k -> k < w.heap.size) (hd : d.down = false) (h0 : d.f0 = some f) (hh : headB f.text = true) :
  Calls Tryz.prog 124 #[.pointer (some ⟨b,0,none⟩)] w fun e w' => e = .returned (.int .i64 d.mend.1) /\ RDone G b w d.mend.2 w' := by
 have c1 : w.cell? ⟨b,1,none⟩ = some (.bool d.down) := hR.box.cell (j := 1) rfl
 have c2 : w.cell? ⟨b,2,none⟩ = some (.bool d.f0.isSome) := hR.box.cell (j := 2) rfl
 have c3 : w.cell? ⟨b,3,none⟩ = some (.string (S (txtO d.f0))) := hR.box.cell (j := 3) rfl
 have hgb := hR.gb
 rw [hd] at c1
 rw [h0] at c2 c3
 have c2' : w.cell? ⟨b,2,none⟩ = some (.bool true) := c2
 have c3' : w.cell? ⟨b,3,none⟩ = some (.string (S f.text)) := c3
 clear c2 c3
 have hfl : f.text.length <= 100000 := by have := txt_le hok 0; rw [file_0,h0] at this; exact this
 have hsy : f.sync <= f.text.length := hok.sync 0 f h0
 have hml := readL_le (log := f.text) (blk := (hdBlk f.text : Int)) (a := 14) (headB_len hh)
 have HV := mend_goes hd h0 hh
 rw [mending_rest] at HV
 have HRD : Calls Tryz.prog 163 #[.string (S f.text)] w fun e w' => ∃ v,e = .returned (.tuple #[v,.int .i64 ((f.text.length : Int) - ((readL f.text (hdBlk f.text) 14).2 : Int)),.agg #[.int .i64 (hdBlk f.text : Int),.int .i64 (hdSeed f.text : Int),.int .i64 (hdBits f.text : Int)],.bool true]) /\ Below w.heap.size w w' := by
  refine (refRead_any (S f.text) w (by rw [S_size]; omega)).mono ?_
  rintro e w' ⟨v,rest,p1,p2,p3,rfl,h2,h3⟩
  obtain ⟨rfl,rfl,rfl,rfl,_,_⟩ := h2.1 hh
  exact ⟨v,by rw [show headB (S f.text).data.toList = true from hh]; rfl,h3⟩
 generalize (readL f.text (hdBlk f.text) 14).2 = m at *
 generalize hdBlk f.text = k1 at *
 generalize hdSeed f.text = k2 at *
 generalize hdBits f.text = k3 at *
 have HST : Hid (∀ (dx : Dk) (W1 W : World),DkOk dx -> RDone G b W1 dx W -> Calls Tryz.prog 176 #[.pointer (some ⟨b,0,none⟩)] W fun e w' => e = .returned (.bool dx.count.1) /\ RDone G b W1 dx.count.2 w') := fun dx W1 W hx h => by
  have h' := h
  obtain ⟨⟨q1,a1⟩,a2⟩ := h'
  exact (rstep_any _ b dx q1 W a1 hx).mono fun e w' ⟨e1,e2⟩ => ⟨e1,h.then e2⟩
 have HSY : Hid (∀ (dx : Dk) (W1 W : World),DkOk dx -> dx.f0.isSome = true -> RDone G b W1 dx W -> Calls Tryz.prog 175 #[.pointer (some ⟨b,0,none⟩),.int .i64 0] W fun e w' => e = .returned (.int .i64 (dx.one (stSync 0)).1) /\ RDone G b W1 (dx.one (stSync 0)).2 w') := fun dx W1 W hx hs h => by
  have h' := h
  obtain ⟨⟨q1,a1⟩,a2⟩ := h'
  exact (syncs_any _ b dx q1 0 W a1 hx (by omega) hs).mono fun e w' ⟨e1,e2⟩ => ⟨e1,h.then e2⟩
 have HIX : Hid (∀ (t : List UInt8) (W : World),t.length <= 100000 -> Calls Tryz.prog 115 #[.string (S t)] W fun e w' => e = .returned (indexV (indexS t)) /\ Below W.heap.size W w') := fun t W ht => refIndex_any (S t) W (by rw [S_size]; omega)
 have HOP : Hid (∀ (dx : Dk) (W1 W : World),Below w.heap.size w W1 -> RDone G b W1 dx W -> Calls Tryz.prog 173 #[.pointer (some ⟨b,0,none⟩),.agg #[.int .i64 (k1 : Int),.int .i64 (k2 : Int),.int .i64 (k3 : Int)]] W fun e w' => e = .returned (.tuple #[]) /\ RDone G b w (dx.opens k1) w') := fun dx W1 W hb h => by
  have h' := h
  obtain ⟨⟨q1,a1⟩,a2⟩ := h'
  exact (opens_any _ b dx q1 k1 k2 k3 W a1).mono fun e w' ⟨e1,e2⟩ => ⟨e1,RDone.later hb (h.then e2)⟩
 have HC0 : Hid (∀ (dx : Dk) (W1 W : World) (t : List UInt8) (s : Nat),dx.f0 = some ⟨t,s⟩ -> RDone G b W1 dx W -> W.cell? ⟨b,3,none⟩ = some (.string (S t)) /\ W.cell? ⟨b,4,none⟩ = some (.int .i64 (s : Int)) /\ W.frozen? ⟨b,3,none⟩ = false /\ W.frozen? ⟨b,4,none⟩ = false) := fun dx W1 W t s hx h => by
  obtain ⟨⟨q1,a1⟩,a2⟩ := h
  have e3 : W.cell? ⟨b,3,none⟩ = some (.string (S (txtO dx.f0))) := a1.box.cell (j := 3) rfl
  have e4 : W.cell? ⟨b,4,none⟩ = some (.int .i64 (synO dx.f0 : Int)) := a1.box.cell (j := 4) rfl
  rw [hx] at e3 e4
  exact ⟨e3,e4,a1.box.frozen 3,a1.box.frozen 4⟩
 have HC2 : Hid (∀ (dx : Dk) (W1 W : World),RDone G b W1 dx W -> W.cell? ⟨b,8,none⟩ = some (.bool dx.f2.isSome) /\ W.cell? ⟨b,9,none⟩ = some (.string (S (txtO dx.f2))) /\ W.cell? ⟨b,10,none⟩ = some (.int .i64 (synO dx.f2 : Int)) /\ W.frozen? ⟨b,8,none⟩ = false /\ W.frozen? ⟨b,9,none⟩ = false /\ W.frozen? ⟨b,10,none⟩ = false) := fun dx W1 W h => by
  obtain ⟨⟨q1,a1⟩,a2⟩ := h
  exact ⟨a1.box.cell (j := 8) rfl,a1.box.cell (j := 9) rfl,a1.box.cell (j := 10) rfl,a1.box.frozen 8,a1.box.frozen 9,a1.box.frozen 10⟩
 have HRM : Hid (∀ (dx : Dk) (W1 W : World),RDone G b W1 dx W -> RDone G b W1 (dx.put 2 none) (((W.setCell ⟨b,8,none⟩ (.bool false)).setCell ⟨b,9,none⟩ (.string ⟨#[]⟩)).setCell ⟨b,10,none⟩ (.int .i64 0))) := fun dx W1 W h => by
  have h' := h
  obtain ⟨⟨q1,a1⟩,a2⟩ := h'
  exact h.at a1.removed (grown_trans (grown_trans (grown_setB _ _ _ _) (grown_setB _ _ _ _)) (grown_setB _ _ _ _)) hgb (by simp)
 have HBX : Hid (∀ w1 : World,Below w.heap.size w w1 -> Below w.heap.size w (w1.alloc (.cells #[.int .i64 (k1 : Int),.int .i64 (k2 : Int),.int .i64 (k3 : Int)] 29)) /\ RDone G b (w1.alloc (.cells #[.int .i64 (k1 : Int),.int .i64 (k2 : Int),.int .i64 (k3 : Int)] 29)) d (w1.alloc (.cells #[.int .i64 (k1 : Int),.int .i64 (k2 : Int),.int .i64 (k3 : Int)] 29)) /\
   ∀ (dx : Dk) (W : World),RDone G b (w1.alloc (.cells #[.int .i64 (k1 : Int),.int .i64 (k2 : Int),.int .i64 (k3 : Int)] 29)) dx W -> CfgC W w1.heap.size k1 k2 k3) := fun w1 hb => by
  have hb2 : Below w.heap.size w (w1.alloc (.cells #[.int .i64 (k1 : Int),.int .i64 (k2 : Int),.int .i64 (k3 : Int)] 29)) := hb.alloc hb.size _
  refine ⟨hb2,RDone.refl (hR.below hb2),fun dx W h => ?_⟩
  have := (bx_new w1 #[.int .i64 (k1 : Int),.int .i64 (k2 : Int),.int .i64 (k3 : Int)] 29 rfl).chg h.2 (fun hg => absurd (hGz _ hg) (by have := hb.size; omega))
  exact ⟨this.cell (j := 0) rfl,this.cell (j := 1) rfl,this.cell (j := 2) rfl⟩
 obtain ⟨T1,hT1⟩ : ∃ T1,T1 = f.text.take m := ⟨_,rfl⟩
 obtain ⟨t,ht⟩ : ∃ t : List St,t = restT d.f2 (f.text.take m) := ⟨_,rfl⟩
 rw [<- ht] at HV
 rw [<- hT1] at ht
 have hT1l : T1.length <= 100000 := by rw [hT1,List.length_take]; omega
 have zT : (S f.text).size = f.text.length := S_size _
 have HC1 : ∀ wx : World,(Instr.slice 9 (.string (S f.text)) none (some (.int .i64 (m : Int))) none).run Tryz.prog wx = .ok (.string (S (f.text.take m))) wx := cut_upto (S f.text) m (by rw [zT]; exact hml) (m : Int) rfl
 have e1 : (f.text.length : Int) - ((f.text.length : Int) - (m : Int)) = (m : Int) := by omega
 have FR : (¬ (0 : Int) < (f.text.length : Int) - (m : Int) /\ ∃ d1 s1,d1 = d /\ DkOk d1 /\ d1.f0 = some ⟨T1,s1⟩ /\ d1.f2 = d.f2 /\ d.mend = tailF d1 k1 t) \/
   ((0 : Int) < (f.text.length : Int) - (m : Int) /\ ∃ d',d.count = (false,d') /\ d.mend = (8,d')) \/
   ((0 : Int) < (f.text.length : Int) - (m : Int) /\ ∃ d1 s1 d',d.count = (true,d') /\ d'.f0 = some f /\ d1 = d'.put 0 (some ⟨f.text.take m,min f.sync m⟩) /\ DkOk d1 /\ d1.f0 = some ⟨T1,s1⟩ /\ d1.f2 = d.f2 /\ d.mend = tailF d1 k1 t) := by
  by_cases hc : m < f.text.length
  ·right
   rw [if_pos hc,opening_cut] at HV
   obtain ⟨bb,d',hct⟩ : ∃ b d',d.count = (b,d') := ⟨_,_,rfl⟩
   have hok' := hok.count
   rw [hct] at hok'
   change DkOk d' at hok'
   cases bb with
   | false =>
    left
    rw [one_no hct,if_neg (show ¬ (8 : Int) = 0 by decide)] at HV
    exact ⟨by omega,d',hct,HV⟩
   | true =>
    right
    have e := count_ok hct
    have h0' : d'.f0 = some f := by rw [e]; exact h0
    have h2' : d'.f2 = d.f2 := by rw [e]
    rw [one_cut hct h0' hml,if_pos rfl] at HV
    have hok1 := hok'.take (s := stCut 0 m) (fine_cut0 m (by omega))
    rw [<- one_yes hct,one_cut hct h0' hml] at hok1
    exact ⟨by omega,_,_,d',hct,h0',rfl,hok1,by rw [hT1]; rfl,h2',HV⟩
  ·left
   rw [if_neg hc,List.nil_append,opening_tail] at HV
   have e : T1 = f.text := by rw [hT1,List.take_of_length_le (by omega)]
   exact ⟨by omega,d,f.sync,rfl,hok,by rw [h0,e],rfl,HV⟩
 rcases FR with ⟨hrest,d1,s1,hd1,hok1,hf1,hf2,HV1⟩ | ⟨hrest,d',hct,HV1⟩ | ⟨hrest,d1,s1,d',hct,h0',hd1,hok1,hf1,hf2,HV1⟩
 case inr.inl =>
  have HST1 : Hid (∀ W1 W : World,RDone G b W1 d W -> Calls Tryz.prog 176 #[.pointer (some ⟨b,0,none⟩)] W fun e w' => e = .returned (.bool false) /\ RDone G b W1 d' w') := fun W1 W h => by
   have := HST.out d W1 W hok h
   rw [hct] at this
   exact this
  have HE : Hid (d.mend = (8,d')) := HV1
  clear hR hok hGz HV hh HV1 hct ht hT1 hT1l HC1 e1 hsy hml h0 hfl
  go_enter Tryz.func124,Tryz.ntmps124
  go_wp2_with (first | (go_at_call 163; refine HRD.mono ?_; rintro e w1 ⟨v,rfl,hb⟩; obtain ⟨hb1,hd1,hx1⟩ := HBX.out w1 hb; have HB1 : Hid (Below w.heap.size w (w1.alloc (.cells #[.int .i64 (k1 : Int),.int .i64 (k2 : Int),.int .i64 (k3 : Int)] 29))) := hb1; have HD1 : Hid (RDone G b (w1.alloc (.cells #[.int .i64 (k1 : Int),.int .i64 (k2 : Int),.int .i64 (k3 : Int)] 29)) d (w1.alloc (.cells #[.int .i64 (k1 : Int),.int .i64 (k2 : Int),.int .i64 (k3 : Int)] 29))) := hd1; have HX1 : Hid (∀ (dx : Dk) (W : World),RDone G b (w1.alloc (.cells #[.int .i64 (k1 : Int),.int .i64 (k2 : Int),.int .i64 (k3 : Int)] 29)) dx W -> CfgC W w1.heap.size k1 k2 k3) := hx1; clear hb hb1 hd1 hx1) | (go_at_call 176; refine (HST1.out _ _ HD1.out).mono ?_; rintro e w2 ⟨rfl,hd2⟩; have HD2 : Hid (RDone G b (w1.alloc (.cells #[.int .i64 (k1 : Int),.int .i64 (k2 : Int),.int .i64 (k3 : Int)] 29)) d' w2) := hd2; clear hd2))
  go_ret
  exact ⟨by rw [HE.out]; rfl,by rw [HE.out]; exact RDone.later HB1.out HD2.out⟩
 case' inl =>
  clear hR hok hGz HV hh HC1 e1 hsy hml h0 hfl
  go_enter Tryz.func124,Tryz.ntmps124
  go_wp2_with (first | (go_at_call 163; refine HRD.mono ?_; rintro e w1 ⟨v,rfl,hb⟩; obtain ⟨hb1,hd1,hx1⟩ := HBX.out w1 hb; have HB1 : Hid (Below w.heap.size w (w1.alloc (.cells #[.int .i64 (k1 : Int),.int .i64 (k2 : Int),.int .i64 (k3 : Int)] 29))) := hb1; have HD1 : Hid (RDone G b (w1.alloc (.cells #[.int .i64 (k1 : Int),.int .i64 (k2 : Int),.int .i64 (k3 : Int)] 29)) d (w1.alloc (.cells #[.int .i64 (k1 : Int),.int .i64 (k2 : Int),.int .i64 (k3 : Int)] 29))) := hd1; have HX1 : Hid (∀ (dx : Dk) (W : World),RDone G b (w1.alloc (.cells #[.int .i64 (k1 : Int),.int .i64 (k2 : Int),.int .i64 (k3 : Int)] 29)) dx W -> CfgC W w1.heap.size k1 k2 k3) := hx1; clear hb hb1 hd1 hx1))
  have HDa : Hid (RDone G b (w1.alloc (.cells #[.int .i64 (k1 : Int),.int .i64 (k2 : Int),.int .i64 (k3 : Int)] 29)) d1 (w1.alloc (.cells #[.int .i64 (k1 : Int),.int .i64 (k2 : Int),.int .i64 (k3 : Int)] 29))) := by show RDone G b _ d1 _; rw [hd1]; exact HD1.out
  clear hd1 HD1
 case' inr.inr =>
  have HST1 : Hid (∀ W1 W : World,RDone G b W1 d W -> Calls Tryz.prog 176 #[.pointer (some ⟨b,0,none⟩)] W fun e w' => e = .returned (.bool true) /\ RDone G b W1 d' w') := fun W1 W h => by
   have := HST.out d W1 W hok h
   rw [hct] at this
   exact this
  have HCT0 : Hid (∀ W1 W : World,RDone G b W1 d' W -> f.sync <= m -> RDone G b W1 d1 (W.setCell ⟨b,3,none⟩ (.string (S (f.text.take m))))) := fun W1 W h hs => by
   have h' := h
   obtain ⟨⟨q1,a1⟩,a2⟩ := h'
   rw [hd1]
   exact h.at (a1.cut0 h0' hs) (grown_setB _ _ _ _) hgb (by simp)
  have HCT1 : Hid (∀ W1 W : World,RDone G b W1 d' W -> m < f.sync -> RDone G b W1 d1 ((W.setCell ⟨b,3,none⟩ (.string (S (f.text.take m)))).setCell ⟨b,4,none⟩ (.int .i64 (m : Int)))) := fun W1 W h hs => by
   have h' := h
   obtain ⟨⟨q1,a1⟩,a2⟩ := h'
   rw [hd1]
   exact h.at (a1.cut1 h0' hs) (grown_trans (grown_setB _ _ _ _) (grown_setB _ _ _ _)) hgb (by simp)
  have HCD : Hid (∀ W1 W : World,RDone G b W1 d' W -> W.cell? ⟨b,3,none⟩ = some (.string (S f.text)) /\ W.cell? ⟨b,4,none⟩ = some (.int .i64 (f.sync : Int)) /\ W.frozen? ⟨b,3,none⟩ = false /\ W.frozen? ⟨b,4,none⟩ = false) := fun W1 W h => HC0.out d' W1 W f.text f.sync h0' h
  clear hR hok hGz HV hh hct h0 hd1 h0'
  generalize f.text = T at *
  generalize f.sync = Y at *
  go_enter Tryz.func124,Tryz.ntmps124
  go_wp2_with (first | (go_at_call 163; refine HRD.mono ?_; rintro e w1 ⟨v,rfl,hb⟩; obtain ⟨hb1,hd1,hx1⟩ := HBX.out w1 hb; have HB1 : Hid (Below w.heap.size w (w1.alloc (.cells #[.int .i64 (k1 : Int),.int .i64 (k2 : Int),.int .i64 (k3 : Int)] 29))) := hb1; have HD1 : Hid (RDone G b (w1.alloc (.cells #[.int .i64 (k1 : Int),.int .i64 (k2 : Int),.int .i64 (k3 : Int)] 29)) d (w1.alloc (.cells #[.int .i64 (k1 : Int),.int .i64 (k2 : Int),.int .i64 (k3 : Int)] 29))) := hd1; have HX1 : Hid (∀ (dx : Dk) (W : World),RDone G b (w1.alloc (.cells #[.int .i64 (k1 : Int),.int .i64 (k2 : Int),.int .i64 (k3 : Int)] 29)) dx W -> CfgC W w1.heap.size k1 k2 k3) := hx1; clear hb hb1 hd1 hx1) | (go_at_call 176; refine (HST1.out _ _ HD1.out).mono ?_; rintro e w2 ⟨rfl,hd2⟩; obtain ⟨k3c,k4c,kf3,kf4⟩ := HCD.out _ w2 hd2; have HD2 : Hid (RDone G b _ d' w2) := hd2; clear hd2 HD1))
  go_region
  by_cases hcs : m < Y
  all_goals go_wp2_with fail
  all_goals first | (have HDa := HCT1.out _ w2 HD2.out hcs) | (have HDa := HCT0.out _ w2 HD2.out (by omega))
  all_goals clear HCT0 HCT1 HD2 hcs
 all_goals
  have hs1 := one_sync hf1
  have hok2 : DkOk (d1.one (stSync 0)).2 := by
   have := hok1.steps [stSync 0] (by intro s hs; simp at hs; subst hs; exact fine_sync _)
   rw [steps_one1] at this
   exact this
  have HSY1 : Hid (∀ W1 W : World,RDone G b W1 d1 W -> Calls Tryz.prog 175 #[.pointer (some ⟨b,0,none⟩),.int .i64 0] W fun e w' => e = .returned (.int .i64 (d1.one (stSync 0)).1) /\ RDone G b W1 (d1.one (stSync 0)).2 w') := fun W1 W h => HSY.out d1 W1 W hok1 (by rw [hf1]; rfl) h
  unfold tailF at HV1
  generalize d1.one (stSync 0) = r at *
  obtain ⟨re,d2⟩ := r
  dsimp only at HV1 HSY1 hok2 hs1
  by_cases hre : re = 0
  ·subst hre
   obtain ⟨hf02,hf22⟩ := hs1 rfl
   rw [hf2] at hf22
   rw [if_pos rfl] at HV1
   clear hs1 hok1 hf1 hf2 hT1
   have HIX1 : Hid (∀ W : World,Calls Tryz.prog 115 #[.string (S T1)] W fun e w' => e = .returned (indexV (indexS T1)) /\ Below W.heap.size W w') := fun W => HIX.out T1 W hT1l
   refine (HSY1.out (w1.alloc (.cells #[.int .i64 (k1 : Int),.int .i64 (k2 : Int),.int .i64 (k3 : Int)] 29)) _ ?_).mono ?_
   ·first | (exact HDa) | (exact HDa.out) | (exact HDa.below (Below.refl _ _).drew)
   rintro e w3 ⟨rfl,hd3⟩
   have HD3 : Hid (RDone G b (w1.alloc (.cells #[.int .i64 (k1 : Int),.int .i64 (k2 : Int),.int .i64 (k3 : Int)] 29)) d2 w3) := hd3
   obtain ⟨k3d,_,_,_⟩ := HC0.out d2 _ w3 T1 _ hf02 hd3
   clear hd3
   cases hx : d.f2 with
   | none =>
    rw [hx] at ht hf22
    have HE : Hid (d.mend = (0,d2.opens k1)) := by
     have e : t = [] := ht
     rw [e] at HV1
     exact HV1
    have HC4 : Hid (∀ W1 W : World,RDone G b W1 d2 W -> W.cell? ⟨b,8,none⟩ = some (.bool false) /\ W.cell? ⟨b,9,none⟩ = some (.string (S [])) /\ W.cell? ⟨b,10,none⟩ = some (.int .i64 0) /\ True /\ True /\ True) := fun W1 W h => by
     have := HC2.out d2 W1 W h
     rw [hf22] at this
     exact ⟨this.1,this.2.1,this.2.2.1,trivial,trivial,trivial⟩
    obtain ⟨sx,ex,hV⟩ : ∃ sx ex,indexV (indexS T1) = .tuple #[.string sx,.int .i64 ex] := by
     unfold indexV; split <;> exact ⟨_,_,rfl⟩
    rw [hV] at HIX1
    clear HV1 hok2 hf02 hf22 ht hT1l hV
    go_wp2_with (first | (go_at_call 115; refine (HIX1.out _).mono ?_; rintro e w4 ⟨rfl,hb4⟩; have hd4 := HD3.out.below hb4; obtain ⟨k8,k9,k10,_,_,_⟩ := HC4.out _ w4 hd4; have HD4 : Hid (RDone G b (w1.alloc (.cells #[.int .i64 (k1 : Int),.int .i64 (k2 : Int),.int .i64 (k3 : Int)] 29)) d2 w4) := hd4; obtain ⟨x0,x1,x2⟩ := HX1.out d2 w4 hd4; clear hd4 hb4) | (go_at_call 173; refine (HOP.out d2 _ w4 HB1.out HD4.out).mono ?_; rintro e w5 ⟨rfl,hd5⟩; have HD5 : Hid (RDone G b w (d2.opens k1) w5) := hd5; clear hd5))
    go_ret
    exact ⟨by rw [HE.out]; rfl,by rw [HE.out]; exact HD5.out⟩
   | some g =>
    rw [hx] at ht hf22
    have hgl : g.text.length <= 100000 := by
     have := txt_le hok2 2
     rw [file_2,hf22] at this
     exact this
    have HC4 : Hid (∀ W1 W : World,RDone G b W1 d2 W -> W.cell? ⟨b,8,none⟩ = some (.bool true) /\ W.cell? ⟨b,9,none⟩ = some (.string (S g.text)) /\ W.cell? ⟨b,10,none⟩ = some (.int .i64 (g.sync : Int)) /\ True /\ True /\ True) := fun W1 W h => by
     have := HC2.out d2 W1 W h
     rw [hf22] at this
     exact ⟨this.1,this.2.1,this.2.2.1,trivial,trivial,trivial⟩
    by_cases hsame : indexS T1 = some g.text
    ·have HE : Hid (d.mend = (0,d2.opens k1)) := by
      have e : t = [] := by rw [ht]; unfold restT; simp only; rw [if_pos ((said_zero _ _).2 hsame)]
      rw [e] at HV1
      exact HV1
     rw [hsame] at HIX1
     unfold indexV at HIX1
     dsimp only at HIX1
     have hcmp : ((S g.text).toList == (S g.text).toList) = true := by simp
     clear HV1 hok2 hf02 hf22 ht hT1l hsame
     generalize g.text = gt at *
     go_wp2_with (first | (go_at_call 115; refine (HIX1.out _).mono ?_; rintro e w4 ⟨rfl,hb4⟩; have hd4 := HD3.out.below hb4; obtain ⟨k8,k9,k10,_,_,_⟩ := HC4.out _ w4 hd4; have HD4 : Hid (RDone G b (w1.alloc (.cells #[.int .i64 (k1 : Int),.int .i64 (k2 : Int),.int .i64 (k3 : Int)] 29)) d2 w4) := hd4; obtain ⟨x0,x1,x2⟩ := HX1.out d2 w4 hd4; clear hd4 hb4) | (go_at_call 173; refine (HOP.out d2 _ w4 HB1.out HD4.out).mono ?_; rintro e w5 ⟨rfl,hd5⟩; have HD5 : Hid (RDone G b w (d2.opens k1) w5) := hd5; clear hd5))
     go_ret
     exact ⟨by rw [HE.out]; rfl,by rw [HE.out]; exact HD5.out⟩
    ·have e : t = [stRemove 2] := by rw [ht]; unfold restT; simp only; rw [if_neg (fun h => hsame ((said_zero _ _).1 h))]
     rw [e] at HV1
     obtain ⟨bb,d5,hct⟩ : ∃ b d',d2.count = (b,d') := ⟨_,_,rfl⟩
     have HST2 : Hid (∀ W1 W : World,RDone G b W1 d2 W -> Calls Tryz.prog 176 #[.pointer (some ⟨b,0,none⟩)] W fun e w' => e = .returned (.bool bb) /\ RDone G b W1 d5 w') := fun W1 W h => by
      have := HST.out d2 W1 W hok2 h
      rw [hct] at this
      exact this
     obtain ⟨sx,ex,hV,hne⟩ : ∃ sx ex,indexV (indexS T1) = .tuple #[.string sx,.int .i64 ex] /\ (ex ≠ 0 \/ (ex = 0 /\ (sx.toList == (S g.text).toList) = false)) := by
      cases hi : indexS T1 with
      | none => exact ⟨_,3,rfl,.inl (by decide)⟩
      | some l =>
       refine ⟨S l,0,rfl,.inr ⟨rfl,?_⟩⟩
       rw [ByteArray.toList_eq,ByteArray.toList_eq,S_data,S_data,beq_eq_false_iff_ne]
       intro h; rw [hi,h] at hsame; exact hsame rfl
     rw [hV] at HIX1
     cases bb with
     | false =>
      have HE : Hid (d.mend = (8,d5)) := by
       rw [steps_one1,one_no hct,if_neg (show ¬ (8 : Int) = 0 by decide)] at HV1
       exact HV1
      clear HV1 hok2 hf02 hf22 ht hT1l hsame hV hct e
      generalize g.text = gt at *
      rcases hne with hne | ⟨rfl,hne⟩
      all_goals
       go_wp2_with (first | (go_at_call 115; refine (HIX1.out _).mono ?_; rintro e w4 ⟨rfl,hb4⟩; have hd4 := HD3.out.below hb4; obtain ⟨k8,k9,k10,_,_,_⟩ := HC4.out _ w4 hd4; have HD4 : Hid (RDone G b (w1.alloc (.cells #[.int .i64 (k1 : Int),.int .i64 (k2 : Int),.int .i64 (k3 : Int)] 29)) d2 w4) := hd4; obtain ⟨x0,x1,x2⟩ := HX1.out d2 w4 hd4; clear hd4 hb4) | (go_at_call 176; refine (HST2.out _ w4 HD4.out).mono ?_; rintro e w5 ⟨rfl,hd5⟩; have HD5 : Hid (RDone G b (w1.alloc (.cells #[.int .i64 (k1 : Int),.int .i64 (k2 : Int),.int .i64 (k3 : Int)] 29)) d5 w5) := hd5; clear hd5))
       go_ret
       exact ⟨by rw [HE.out]; rfl,by rw [HE.out]; exact RDone.later HB1.out HD5.out⟩
     | true =>
      have HE : Hid (d.mend = (0,(d5.put 2 none).opens k1)) := by
       rw [one_remove hct hf22] at HV1
       exact HV1
      clear HV1 hok2 hf02 hf22 ht hT1l hsame hV hct e
      generalize g.text = gt at *
      rcases hne with hne | ⟨rfl,hne⟩
      all_goals
       go_wp2_with (first | (go_at_call 115; refine (HIX1.out _).mono ?_; rintro e w4 ⟨rfl,hb4⟩; have hd4 := HD3.out.below hb4; obtain ⟨k8,k9,k10,_,_,_⟩ := HC4.out _ w4 hd4; have HD4 : Hid (RDone G b (w1.alloc (.cells #[.int .i64 (k1 : Int),.int .i64 (k2 : Int),.int .i64 (k3 : Int)] 29)) d2 w4) := hd4; obtain ⟨x0,x1,x2⟩ := HX1.out d2 w4 hd4; clear hd4 hb4) | (go_at_call 176; refine (HST2.out _ w4 HD4.out).mono ?_; rintro e w5 ⟨rfl,hd5⟩; obtain ⟨j8,j9,j10,jf8,jf9,jf10⟩ := HC2.out d5 _ w5 hd5; have HD6 := HRM.out d5 _ w5 hd5; obtain ⟨y0,y1,y2⟩ := HX1.out _ _ HD6; have HD6h : Hid (RDone G b (w1.alloc (.cells #[.int .i64 (k1 : Int),.int .i64 (k2 : Int),.int .i64 (k3 : Int)] 29)) (d5.put 2 none) _) := HD6; clear hd5 x0 x1 x2 HD6) | (go_at_call 173; refine (HOP.out (d5.put 2 none) _ _ HB1.out HD6h.out).mono ?_; rintro e w6 ⟨rfl,hd6⟩; have HD7 : Hid (RDone G b w ((d5.put 2 none).opens k1) w6) := hd6; clear hd6))
       go_ret
       exact ⟨by rw [HE.out]; rfl,by rw [HE.out]; exact HD7.out⟩
  ·rw [if_neg hre] at HV1
   have HE : Hid (d.mend = (re,d2)) := HV1
   clear HV1 hs1 hok2 hok1 hf1 hf2 ht hT1
   refine (HSY1.out (w1.alloc (.cells #[.int .i64 (k1 : Int),.int .i64 (k2 : Int),.int .i64 (k3 : Int)] 29)) _ ?_).mono ?_
   ·first | (exact HDa) | (exact HDa.out) | (exact HDa.below (Below.refl _ _).drew)
   rintro e w3 ⟨rfl,hd3⟩
   have HD3 : Hid (RDone G b (w1.alloc (.cells #[.int .i64 (k1 : Int),.int .i64 (k2 : Int),.int .i64 (k3 : Int)] 29)) d2 w3) := hd3
   clear hd3
   go_wp2
   go_ret
   exact ⟨by rw [HE.out]; rfl,by rw [HE.out]; exact RDone.later HB1.out HD3.out⟩
theorem rmend_any (G : Nat -> Prop) (b : Nat) (d : Dk) (q : RfP) (w : World) (hR : RefAt w G b d q) (hok : DkOk d) (hGz : ∀ k,G k -> k < w.heap.size) :
  Calls Tryz.prog 124 #[.pointer (some ⟨b,0,none⟩)] w fun e w' => e = .returned (.int .i64 d.mend.1) /\ RDone G b w d.mend.2 w' := by
 have c1 : w.cell? ⟨b,1,none⟩ = some (.bool d.down) := hR.box.cell (j := 1) rfl
 have c2 : w.cell? ⟨b,2,none⟩ = some (.bool d.f0.isSome) := hR.box.cell (j := 2) rfl
 have c3 : w.cell? ⟨b,3,none⟩ = some (.string (S (txtO d.f0))) := hR.box.cell (j := 3) rfl
 have HS0 : Hid (∀ w1 : World,Below w.heap.size w w1 -> RDone G b w d w1) := fun w1 hb => RDone.of_below hR hb
 cases hd : d.down with
 | true =>
  have HE : Hid (d.mend = (7,d)) := mend_down hd
  rw [hd] at c1
  clear hR hok hGz
  go_enter Tryz.func124,Tryz.ntmps124
  go_wp2
  go_ret
  exact ⟨by rw [HE.out]; rfl,by rw [HE.out]; exact HS0.out _ (Below.refl _ _)⟩
 | false =>
  cases h0 : d.f0 with
  | none =>
   have HE : Hid (d.mend = (2,d)) := mend_none hd h0
   rw [hd] at c1
   rw [h0] at c2
   have c2' : w.cell? ⟨b,2,none⟩ = some (.bool false) := c2
   clear hR hok hGz c2
   go_enter Tryz.func124,Tryz.ntmps124
   go_wp2
   go_ret
   exact ⟨by rw [HE.out]; rfl,by rw [HE.out]; exact HS0.out _ (Below.refl _ _)⟩
  | some f =>
   cases hh : headB f.text with
   | true => exact rmend_go G b d q f w hR hok hGz hd h0 hh
   | false =>
    have HE : Hid (d.mend = (3,d)) := mend_form hd h0 hh
    rw [hd] at c1
    rw [h0] at c2 c3
    have c2' : w.cell? ⟨b,2,none⟩ = some (.bool true) := c2
    have c3' : w.cell? ⟨b,3,none⟩ = some (.string (S f.text)) := c3
    have hfl : f.text.length <= 100000 := by have := txt_le hok 0; rw [file_0,h0] at this; exact this
    have HRD : Calls Tryz.prog 163 #[.string (S f.text)] w fun e w' => ∃ v rest p1 p2 p3,e = .returned (.tuple #[v,.int .i64 rest,.agg #[.int .i64 p1,.int .i64 p2,.int .i64 p3],.bool false]) /\ Below w.heap.size w w' := by
     refine (refRead_any (S f.text) w (by rw [S_size]; omega)).mono ?_
     rintro e w' ⟨v,rest,p1,p2,p3,rfl,h2,h3⟩
     exact ⟨v,rest,p1,p2,p3,by rw [show headB (S f.text).data.toList = false from hh],h3⟩
    clear hR hok hGz c2 c3 hfl hh h0
    go_enter Tryz.func124,Tryz.ntmps124
    go_wp2_with (first | (go_at_call 163; refine HRD.mono ?_; rintro e w1 ⟨v,rest,p1,p2,p3,rfl,hb⟩; have HB : Hid (Below w.heap.size w w1) := hb; clear hb))
    go_ret
    exact ⟨by rw [HE.out]; rfl,by rw [HE.out]; exact HS0.out _ (HB.out.alloc HB.out.size _)⟩
theorem does_mend (m : Bool) (o : OpV) (hk : o.kind = 16) : Does m o := by
 intro E n bw nd c Fr w κ ds P ls j d p h1 h2 h3 h4 h5 h6 h7 hcb hd hp
 obtain ⟨kind,at',x,y,s,t,u,c0,c1,c2⟩ := o
 dsimp only at hk
 subst hk
 have hok : DkOk d := (h3 _ (List.mem_of_getElem? hd)).2
 have hpr := h1.pairs j _ p hd hp
 obtain ⟨XD,hS0,hX,hY⟩ := does_two (d' := d.mend.2) ⟨16,at',x,y,s,t,u,c0,c1,c2⟩ h1 h2 h3 h4 h5 h6 h7 hd hp (hok.mend) 59 124
  #[.pointer (some ⟨p.2.1,0,none⟩)] #[.pointer (some ⟨p.2.2,0,none⟩)] d.mend.1
  (fun w1 G q e1 e2 e3 => smend_any E n G p.2.1 d q w1 e1 e2 e3 hok) (fun w1 G q e1 e2 => rmend_any G p.2.2 d q w1 e2 hok e1)
 generalize d.mend.1 = code at *
 clear h1 h2 h3 h4 h5 h6 h7 hok hd hp
 obtain ⟨pb,px,py⟩ := p
 dsimp only at *
 have HS0 : Hid (dS pb px py w.heap.size x y s t c0 c1 c2 (w.alloc (.cells (opC ⟨16,at',x,y,s,t,u,c0,c1,c2⟩) 68))) := hS0
 have HX : Hid (∀ w1 : World,Below (w.alloc (.cells (opC ⟨16,at',x,y,s,t,u,c0,c1,c2⟩) 68)).heap.size (w.alloc (.cells (opC ⟨16,at',x,y,s,t,u,c0,c1,c2⟩) 68)) w1 -> _) := hX
 have HY : Hid (∀ w2 : World,XD w2 -> _) := hY
 have pc0 : w.cell? ⟨pb,0,none⟩ = some (.pointer (some ⟨px,0,none⟩)) := hpr.box.cell (j := 0) rfl
 have plt : pb < w.heap.size := hpr.box.lt
 clear hS0 hX hY hpr
 unfold OpV.val
 dsimp only
 go_enter Tryz.func65,Tryz.ntmps65
 go_wp2_with (first | (go_at_call 59; refine (HX.out _ ?_).mono ?_; exact (Below.refl _ _); rintro e w2 ⟨rfl,hx⟩; obtain ⟨hS2,hy2⟩ := HY.out w2 hx; have HS2 : Hid (dS pb px py w.heap.size x y s t c0 c1 c2 w2) := hS2; have HY2 : Hid (∀ w3 : World,Below w2.heap.size w2 w3 -> _) := hy2; clear hx hy2; obtain ⟨⟨k0,k1⟩,_⟩ := hS2) | (go_at_call 124; refine (HY2.out _ ?_).mono ?_; exact (Below.refl _ _); rintro e w3 ⟨rfl,hS3,hl⟩; have HL : Hid (Left E n bw m nd c Fr (16 = (10 : Int)) P.pv w w3) := hl; clear hl; clear hS3) | (go_at_call 114; refine (num_any _ _).mono ?_; rintro e w3 ⟨rfl,rfl⟩))
 go_ret
 exact ⟨by simp,HL.out⟩
end Go.Proofs.YtdhgebdbiehchaaGreatDoor
