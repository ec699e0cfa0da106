/- On the way: PDoAll, PMake. -/
import Derived.Test.YtdhgebdbiehchaaGreatDoorB31
import Derived.Laws.EntriesVeiled
namespace Go.Proofs.YtdhgebdbiehchaaGreatDoor
open Go.RowKit Go.Maps
set_option linter.unusedSimpArgs false
set_option linter.unusedVariables false
set_option maxRecDepth 100000
set_option maxHeartbeats 3200000
theorem take_form {w : World} {F : Nat -> Prop} {st : St} {v : Value} (h : TakeAt w F st v) : ∃ k caps,v = .func (.func k) #[] caps := by
 cases h with
 | make c ht h1 hi => exact ⟨_,_,rfl⟩
 | on cn ct iv hn hi h1 h2 => exact ⟨_,_,rfl⟩
theorem steps_cons (d : Dk) (st : St) (ss : List St) : d.steps (st :: ss) = if (d.one st).1 = 0 then (d.one st).2.steps ss else d.one st := by
 show (match d.count with | (false,d') => (8,d') | (true,d') => match d'.take st with | (e,d'') => if e = 0 then d''.steps ss else (e,d'')) = _
 unfold Dk.one
 obtain ⟨b,d',hct⟩ : ∃ b d',d.count = (b,d') := ⟨_,_,rfl⟩
 rw [hct]
 cases b with
 | false => simp
 | true => rfl
theorem one_same {d : Dk} {st : St} (h : (d.one st).1 = 0) : (d.one st).2.down = d.down := by
 obtain ⟨b,d',hct⟩ : ∃ b d',d.count = (b,d') := ⟨_,_,rfl⟩
 cases b with
 | false => rw [one_no hct] at h; cases h
 | true =>
  rw [one_yes hct]
  have h1 := count_same (d := d) (by rw [hct])
  rw [hct] at h1
  exact (take_same st).1.trans h1.1
theorem DkOk.one {d : Dk} (h : DkOk d) {st : St} (hs : StFine st) : DkOk (d.one st).2 := by
 obtain ⟨b,d',hct⟩ : ∃ b d',d.count = (b,d') := ⟨_,_,rfl⟩
 have h1 := h.count
 rw [hct] at h1
 cases b with
 | false => rw [one_no hct]; exact h1
 | true => rw [one_yes hct]; exact DkOk.take h1 hs
structure StepsAt (w : World) (F : Nat -> Prop) (g : Nat) (cs : Array Value) (ss : List St) : Prop where
 box : w.heap[g]? = some (.cells cs 86 (0,0))
 out : ¬ F g
 each : ∀ j st,ss[j]? = some st -> ∃ s1 s2 tv,cs[j * 3]? = some (.string s1) /\ cs[j * 3 + 1]? = some (.string s2) /\ cs[j * 3 + 2]? = some tv /\ TakeAt w F st tv /\ StFine st
theorem StepsAt.turn {w w' : World} {F F' G : Nat -> Prop} {g : Nat} {cs : Array Value} {ss : List St} (h : StepsAt w F g cs ss) (hc : Chg G w w') (hG : ∀ k,G k -> F k) (hF : ∀ k,k < w.heap.size -> F' k -> F k) : StepsAt w' F' g cs ss := by
 have hlt : g < w.heap.size := (Array.getElem?_eq_some_iff.1 h.box).1
 refine ⟨(hc.keep g hlt (fun hg => h.out (hG g hg))).trans h.box,fun hf => h.out (hF g hlt hf),?_⟩
 intro j st hj
 obtain ⟨s1,s2,tv,a1,a2,a3,a4,a5⟩ := h.each j st hj
 exact ⟨s1,s2,tv,a1,a2,a3,a4.turn hc hG hF,a5⟩
def Did (E : Sent) (F : Nat -> Prop) (bd : Nat) (w : World) (r : Int × Dk) (v : Value) (w' : World) : Prop := FaultIs w' E r.1 v /\ (∃ p',DiskAt w' (Fx F w w') bd r.2 p') /\ Chg F w w'
theorem doAll_any (E : Sent) (n : Nat) (F : Nat -> Prop) (bd : Nat) (d : Dk) (p : Pr) (g cap : Nat) (cs : Array Value) (ss : List St) (w : World) (hE : Env0 n w E) (hF : ∀ q,F q -> n <= q /\ q < w.heap.size) (hD : DiskAt w F bd d p) (hok : DkOk d) (hup : d.down = false) (hS : StepsAt w F g cs ss) (hcap : ss.length <= cap) (hl : ss.length <= 1000) :
  Calls Tryz.prog 76 #[.pointer (some ⟨bd,0,none⟩),.slice (some ⟨g,0,none⟩) ss.length cap] w fun e w' => ∃ v,e = .returned v /\ Did E F bd w (d.steps ss) v w' := by
 have HS : Hid (StepsAt w F g cs ss) := hS
 have HE : Hid (Env0 n w E) := hE
 have HF : Hid (∀ q,F q -> n <= q /\ q < w.heap.size) := hF
 have HI : Hid (∃ p,DiskAt w (Fx F w w) bd d p) := ⟨p,hD.mono (fun k h => .inl h)⟩
 clear hS hD hE hF
 have HOK : Hid (DkOk d) := hok
 have HUP : Hid (d.down = false) := hup
 clear hok hup
 go_enter Tryz.func76,Tryz.ntmps76
 go_wp2
 go_loopw [10] (fun i wr => ∃ (k : Nat) (dk : Dk),k <= ss.length /\ i = .int .i64 k /\ (∃ p,DiskAt wr (Fx F w wr) bd dk p) /\ Chg F w wr /\ d.steps ss = dk.steps (ss.drop k) /\ DkOk dk /\ dk.down = false) (fun i _ => ss.length - (intOf i).toNat)
 case atStart => exact ⟨0,d,Nat.zero_le _,rfl,HI.out,Chg.refl _ _,rfl,HOK.out,HUP.out⟩
 case round =>
  obtain ⟨k,dk,hk,rfl,⟨pk,hDk⟩,hCk,hst,hokk,hupk⟩ := hrel
  clear HI HOK HUP
  by_cases hkn : k < ss.length
  ·obtain ⟨st,hj⟩ : ∃ st,ss[k]? = some st := ⟨ss[k],List.getElem?_eq_getElem hkn⟩
   have hSk : StepsAt wr (Fx F w wr) g cs ss := HS.out.turn hCk (fun _ h => h) (fun q hq h => by rcases h with h | h; exact h; omega)
   obtain ⟨s1,s2,tv,a1,a2,a3,hT,hfine⟩ := hSk.each k st hj
   obtain ⟨kf,caps,rfl⟩ := take_form hT
   have z0 : wr.cell? ⟨g,k * 3,none⟩ = some (.string s1) := by rw [cell_of_row wr g (k * 3) cs _ _ hSk.box]; exact a1
   have z1 : wr.cell? ⟨g,k * 3 + 1,none⟩ = some (.string s2) := by rw [cell_of_row wr g (k * 3 + 1) cs _ _ hSk.box]; exact a2
   have z2 : wr.cell? ⟨g,k * 3 + 2,none⟩ = some (.func (.func kf) #[] caps) := by rw [cell_of_row wr g (k * 3 + 2) cs _ _ hSk.box]; exact a3
   have hdrop : ss.drop k = st :: ss.drop (k + 1) := by
    obtain ⟨hlt,rfl⟩ := List.getElem?_eq_some_iff.1 hj
    exact List.drop_eq_getElem_cons hlt
   rw [hdrop,steps_cons] at hst
   obtain ⟨w0,hw0⟩ : ∃ w0 : World,w0 = wr.alloc (.cells #[.string s1,.string s2,.func (.func kf) #[] caps] 86) := ⟨_,rfl⟩
   have hB0 : Below wr.heap.size wr w0 := by rw [hw0]; exact (Below.refl _ _).alloc (Nat.le_refl _) _
   have hx0 : Bx w0 wr.heap.size #[.string s1,.string s2,.func (.func kf) #[] caps] 86 := by rw [hw0]; exact bx_new wr _ _ rfl
   have hn0 : n <= w.heap.size := HE.out.le
   have hF1 : ∀ q,Fx F w wr q -> n <= q /\ q < w0.heap.size := fun q hq => by
    have := hB0.size
    have := hCk.size
    rcases hq with h | h
    ·have := HF.out q h; omega
    ·omega
   have HDO := do_any E n (Fx F w wr) bd dk pk st s1 s2 (.func (.func kf) #[] caps) w0 ((HE.out.chg hCk (fun q hq => (HF.out q hq).1)).chg (Chg.of_below (F := fun _ => False) hB0) (fun _ h => h.elim)) hF1 (hDk.below hB0) hokk hupk (hT.turn (F' := Fx F w wr) (Chg.of_below (F := fun _ => False) hB0) (fun _ h => h.elim) (fun _ _ h => h))
   have HNEXT : Hid (∀ (e : Ending) (w2 : World),Took E (Fx F w wr) bd w0 (dk.one st) e w2 -> e = .returned (errVal E (dk.one st).1) /\ (∃ p',DiskAt w2 (Fx F w w2) bd (dk.one st).2 p') /\ Chg F w w2 /\ Bx w2 wr.heap.size #[.string s1,.string s2,.func (.func kf) #[] caps] 86) := fun e w2 ⟨t1,⟨p',t2⟩,t3⟩ => by
    have hz := hCk.size
    have hz0 := hB0.size
    have hz2 := t3.size
    refine ⟨t1,⟨p',t2.mono ?_⟩,?_,hx0.chg t3 ?_⟩
    ·rintro q ((h | h) | h)
     ·exact .inl h
     ·exact .inr (by omega)
     ·exact .inr (by omega)
    ·refine hCk.trans ((Chg.of_below hB0).trans (t3.mono ?_))
     intro q _ h; exact .inl h
    ·rintro (h | h)
     ·have := (HF.out _ h).2; omega
     ·omega
   have HOK2 : Hid (DkOk (dk.one st).2) := hokk.one hfine
   have HDN : Hid ((dk.one st).1 = 0 -> (dk.one st).2.down = false) := fun h => (one_same h).trans hupk
   have HST : Hid (d.steps ss = if (dk.one st).1 = 0 then (dk.one st).2.steps (ss.drop (k + 1)) else dk.one st) := hst
   subst hw0
   clear hSk hT hDk hCk hokk hupk hst hB0 hx0 hF1 hfine a1 a2 a3 hdrop hj
   generalize dk.one st = r at *
   obtain ⟨re,rd⟩ := r
   by_cases hr : re = 0
   ·subst hr
    go_wp2_with (first | (go_at_call 137; refine HDO.mono ?_; intro e w2 hT; obtain ⟨rfl,hD2,hC2,hx2⟩ := HNEXT.out _ _ hT; clear hT; rw [show errVal E 0 = .nilIface from rfl]))
    go_roundw
    case rel => exact ⟨k + 1,rd,by omega,by first | rfl | go_num,hD2,hC2,by rw [HST.out]; simp,HOK2.out,HDN.out (by first | trivial | rfl)⟩
    case measure => first | (simp [intOf]; omega) | (simp [intOf])
   ·have HV := errVal_pos (E := E) hr
    go_wp2_with (first | (go_at_call 137; refine HDO.mono ?_; intro e w2 hT; obtain ⟨rfl,hD2,hC2,hx2⟩ := HNEXT.out _ _ hT; clear hT; have t0 := hx2.cell (j := 0) rfl; have t1 := hx2.cell (j := 1) rfl; rw [HV]))
    go_ret
    have hs2 := HST.out
    rw [if_neg hr] at hs2
    refine ⟨_,rfl,?_⟩
    rw [hs2]
    obtain ⟨p',hD2⟩ := hD2
    refine ⟨.inr ⟨hr,_,rfl,?_⟩,⟨p',(hD2.alloc _).mono ?_⟩,hC2.alloc _⟩
    ·rw [HV]; exact (bx_new w2 _ _ rfl).cell (j := 2) rfl
    ·rintro q (h | h)
     ·exact .inl h
     ·exact .inr ⟨h.1,by simp; omega⟩
  ·have hke : k = ss.length := by omega
   subst hke
   go_wp2
   go_ret
   refine ⟨_,rfl,?_⟩
   rw [hst,List.drop_length]
   exact ⟨.inl ⟨rfl,rfl⟩,⟨pk,hDk⟩,hCk⟩
theorem onFile_any (s1 s2 : ByteArray) (k : Nat) (caps : Array Value) (w : World) :
  Calls Tryz.prog 77 #[.string s1,.string s2,.func (.func k) #[] caps] w fun e w' => e = .returned (.agg #[.string s1,.string s2,.func (.func 138) #[] #[.pointer (some ⟨w.heap.size,0,none⟩),.pointer (some ⟨w.heap.size + 1,0,none⟩)]]) /\ w'.cell? ⟨w.heap.size,0,none⟩ = some (.string s2) /\ w'.cell? ⟨w.heap.size + 1,0,none⟩ = some (.func (.func k) #[] caps) /\ Below w.heap.size w w' := by
 have hmf := hmf_any
 go_enter Tryz.func77,Tryz.ntmps77
 go_wp2
 refine bodyPost_ret (v := .agg #[.string s1,.string s2,.func (.func 138) #[] #[.pointer (some ⟨w.heap.size,0,none⟩),.pointer (some ⟨w.heap.size + 1,0,none⟩)]]) (by simp [results,Tryz.results77,go_sem]) rfl ⟨rfl,?_,?_,?_⟩
 ·exact (((bx_new w #[.string s2] 9 rfl).alloc _).alloc _).cell (j := 0) rfl
 ·exact ((bx_new (w.alloc _) #[.func (.func k) #[] caps] 135 (by simp)).alloc _).cell (j := 0) rfl
 ·exact (((Below.refl _ _).alloc (Nat.le_refl _) _).alloc (by simp) _).alloc (by simp; omega) _
theorem mk_step {w W w1 w2 : World} {F : Nat -> Prop} {rb cn ct : Nat} {st : St} {iv : Value} (hFz : ∀ q,F q -> q < w.heap.size) (hzW : w.heap.size <= W.heap.size) (hrb : rb < W.heap.size) (hI : InnerAt W (fun k => F k \/ k = rb) st iv) (hb : Below W.heap.size W w1) (hcn : cn = W.heap.size) (hct : ct = W.heap.size + 1) (c1 : w1.cell? ⟨cn,0,none⟩ = some (.string (S (nm st.i)))) (c2 : w1.cell? ⟨ct,0,none⟩ = some iv) (hi : st.i <= 2) (hc : Chg (fun k => k = rb) w1 w2) :
  TakeAt w2 F st (.func (.func 138) #[] #[.pointer (some ⟨cn,0,none⟩),.pointer (some ⟨ct,0,none⟩)]) := by
 have h1 : TakeAt w1 (fun k => F k \/ k = rb) st (.func (.func 138) #[] #[.pointer (some ⟨cn,0,none⟩),.pointer (some ⟨ct,0,none⟩)]) := by
  refine .on cn ct iv ⟨c1,?_⟩ hi ⟨c2,?_⟩ (hI.turn (Chg.of_below (F := fun _ => False) hb) (fun _ h => h.elim) (fun _ _ h => h))
  ·rintro (h | h)
   ·have := hFz _ h; omega
   ·omega
  ·rintro (h | h)
   ·have := hFz _ h; omega
   ·omega
 exact h1.turn hc (fun k h => .inr h) (fun k _ h => .inl h)
def Made (w : World) (st : St) (g : Option Nat) (e : Ending) (w' : World) : Prop := ∃ s1 s2 k caps,e = .returned (.agg #[.string s1,.string s2,.func (.func k) #[] caps]) /\ (∀ F : Nat -> Prop,(∀ q,F q -> q < w.heap.size) -> (∀ q,g = some q -> ¬ F q) -> TakeAt w' F st (.func (.func k) #[] caps)) /\ Below w.heap.size w w'
theorem set3_chg {w1 : World} {rb : Nat} (a b c : Value) : Chg (fun k => k = rb) w1 (((w1.setCell ⟨rb,0,none⟩ a).setCell ⟨rb,1,none⟩ b).setCell ⟨rb,2,none⟩ c) := (((Chg.refl (fun k => k = rb) w1).set rb 0 a (.inl rfl)).set rb 1 b (.inl rfl)).set rb 2 c (.inl rfl)
theorem below_set3 {w w1 : World} {n rb : Nat} (h : Below n w w1) (hr : n <= rb) (a b c : Value) : Below n w (((w1.setCell ⟨rb,0,none⟩ a).setCell ⟨rb,1,none⟩ b).setCell ⟨rb,2,none⟩ c) := ((h.setCell hr _).setCell hr _).setCell hr _
theorem syncS_any (i : Nat) (w : World) (hi : i <= 2) :
  Calls Tryz.prog 43 #[.string (S (nm i))] w (Made w (stSync i) none) := by
 have hmf := hmf_any
 obtain ⟨W,hW⟩ : ∃ W : World,W = (w.alloc (.cells #[.string ⟨#[]⟩,.string ⟨#[]⟩,.nilFunc] 86)) := ⟨_,rfl⟩
 have hBW : Below w.heap.size w W := by rw [hW]; exact Below.alloc (Below.refl _ _) (by simp <;> omega) _
 have hzW : W.heap.size = w.heap.size + 1 := by rw [hW]; simp
 have hx : Bx W (w.heap.size) #[.string ⟨#[]⟩,.string ⟨#[]⟩,.nilFunc] 86 := by rw [hW]; exact bx_new _ _ _ (by simp)
 have HC := onFile_any ⟨#[115,121,110,99]⟩ (S (nm i)) 78 #[] W
 have HIN : Hid (∀ F : Nat -> Prop,(∀ q,F q -> q < w.heap.size) -> (∀ q,(none : Option Nat) = some q -> ¬ F q) -> InnerAt W (fun k => F k \/ k = w.heap.size) (stSync i) (.func (.func 78) #[] #[])) := fun F hFz hgF => by
  exact .sync rfl
 have HEND : Hid (∀ w1 : World,w1.cell? ⟨W.heap.size,0,none⟩ = some (.string (S (nm i))) -> w1.cell? ⟨W.heap.size + 1,0,none⟩ = some (.func (.func 78) #[] #[]) -> Below W.heap.size W w1 -> ∀ (a b c : Value),Made w (stSync i) none (.returned (.agg #[.string ⟨#[115,121,110,99]⟩,.string (S (nm i)),.func (.func 138) #[] #[.pointer (some ⟨W.heap.size,0,none⟩),.pointer (some ⟨W.heap.size + 1,0,none⟩)]])) (((w1.setCell ⟨w.heap.size,0,none⟩ a).setCell ⟨w.heap.size,1,none⟩ b).setCell ⟨w.heap.size,2,none⟩ c)) := fun w1 c1 c2 hb a b c =>
  ⟨_,_,_,_,rfl,fun F hFz hgF => mk_step hFz (by rw [hzW]; omega) (by rw [hzW]; omega) (HIN.out F hFz hgF) hb rfl rfl c1 c2 hi (set3_chg a b c),below_set3 (hBW.trans (hb.mono (by rw [hzW]; omega))) (by omega) a b c⟩
 have HX : Hid (∀ w1 : World,Below W.heap.size W w1 -> Bx w1 (w.heap.size) #[.string ⟨#[]⟩,.string ⟨#[]⟩,.nilFunc] 86) := fun w1 hb => (hb.block _ hx.lt).trans hx
 rw [hzW] at HC HEND HX
 subst hW
 clear hx hBW hzW HIN
 go_enter Tryz.func43,Tryz.ntmps43
 go_wp2_with (first | (go_at_call 77; refine HC.mono ?_; rintro e w1 ⟨rfl,c1,c2,hb⟩; have hx1 := HX.out w1 hb; have x0 := hx1.cell (j := 0) rfl; have x1 := hx1.cell (j := 1) rfl; have x2 := hx1.cell (j := 2) rfl; have f0 := hx1.frozen 0; have f1 := hx1.frozen 1; have f2 := hx1.frozen 2))
 refine bodyPost_ret (by simp [results,Tryz.results43,go_sem,x0,x1,x2]) rfl (HEND.out w1 c1 c2 hb _ _ _)
theorem cutS_any (i m : Nat) (w : World) (hi : i <= 2) (hm : m <= 9223372036854775807) :
  Calls Tryz.prog 158 #[.string (S (nm i)),.int .i64 (m : Int)] w (Made w (stCut i m) none) := by
 have hmf := hmf_any
 obtain ⟨W,hW⟩ : ∃ W : World,W = ((w.alloc (.cells #[.int .i64 (m : Int)] 3)).alloc (.cells #[.string ⟨#[]⟩,.string ⟨#[]⟩,.nilFunc] 86)) := ⟨_,rfl⟩
 have hBW : Below w.heap.size w W := by rw [hW]; exact Below.alloc (Below.alloc (Below.refl _ _) (by simp <;> omega) _) (by simp <;> omega) _
 have hzW : W.heap.size = w.heap.size + 1 + 1 := by rw [hW]; simp
 have hx : Bx W (w.heap.size + 1) #[.string ⟨#[]⟩,.string ⟨#[]⟩,.nilFunc] 86 := by rw [hW]; exact bx_new _ _ _ (by simp)
 have HC := onFile_any ⟨#[99,117,116]⟩ (S (nm i)) 194 #[.pointer (some ⟨w.heap.size,0,none⟩)] W
 have HIN : Hid (∀ F : Nat -> Prop,(∀ q,F q -> q < w.heap.size) -> (∀ q,(none : Option Nat) = some q -> ¬ F q) -> InnerAt W (fun k => F k \/ k = w.heap.size + 1) (stCut i m) (.func (.func 194) #[] #[.pointer (some ⟨w.heap.size,0,none⟩)])) := fun F hFz hgF => by
  have b0 : Bx W (w.heap.size) #[.int .i64 (m : Int)] 3 := by rw [hW]; exact ((bx_new w #[.int .i64 (m : Int)] 3 (by simp)).alloc _)
  exact .cut _ rfl ⟨b0.cell (j := 0) rfl,fun h => by rcases h with h | h; exact absurd (hFz _ h) (by omega); omega⟩ hm
 have HEND : Hid (∀ w1 : World,w1.cell? ⟨W.heap.size,0,none⟩ = some (.string (S (nm i))) -> w1.cell? ⟨W.heap.size + 1,0,none⟩ = some (.func (.func 194) #[] #[.pointer (some ⟨w.heap.size,0,none⟩)]) -> Below W.heap.size W w1 -> ∀ (a b c : Value),Made w (stCut i m) none (.returned (.agg #[.string ⟨#[99,117,116]⟩,.string (S (nm i)),.func (.func 138) #[] #[.pointer (some ⟨W.heap.size,0,none⟩),.pointer (some ⟨W.heap.size + 1,0,none⟩)]])) (((w1.setCell ⟨w.heap.size + 1,0,none⟩ a).setCell ⟨w.heap.size + 1,1,none⟩ b).setCell ⟨w.heap.size + 1,2,none⟩ c)) := fun w1 c1 c2 hb a b c =>
  ⟨_,_,_,_,rfl,fun F hFz hgF => mk_step hFz (by rw [hzW]; omega) (by rw [hzW]; omega) (HIN.out F hFz hgF) hb rfl rfl c1 c2 hi (set3_chg a b c),below_set3 (hBW.trans (hb.mono (by rw [hzW]; omega))) (by omega) a b c⟩
 have HX : Hid (∀ w1 : World,Below W.heap.size W w1 -> Bx w1 (w.heap.size + 1) #[.string ⟨#[]⟩,.string ⟨#[]⟩,.nilFunc] 86) := fun w1 hb => (hb.block _ hx.lt).trans hx
 rw [hzW] at HC HEND HX
 subst hW
 clear hx hBW hzW HIN
 go_enter Tryz.func158,Tryz.ntmps158
 go_wp2_with (first | (go_at_call 77; refine HC.mono ?_; rintro e w1 ⟨rfl,c1,c2,hb⟩; have hx1 := HX.out w1 hb; have x0 := hx1.cell (j := 0) rfl; have x1 := hx1.cell (j := 1) rfl; have x2 := hx1.cell (j := 2) rfl; have f0 := hx1.frozen 0; have f1 := hx1.frozen 1; have f2 := hx1.frozen 2))
 refine bodyPost_ret (by simp [results,Tryz.results158,go_sem,x0,x1,x2]) rfl (HEND.out w1 c1 c2 hb _ _ _)
theorem appendS_any (i g cp : Nat) (t : List UInt8) (w : World) (hi : i <= 2) (hr : RowB w g t) (hp : 0 < t.length) (hl : t.length <= 1000000000) :
  Calls Tryz.prog 55 #[.string (S (nm i)),.slice (some ⟨g,0,none⟩) t.length cp] w (Made w (stAppend i t) (some g)) := by
 have hmf := hmf_any
 obtain ⟨W,hW⟩ : ∃ W : World,W = ((w.alloc (.cells #[.slice (some ⟨g,0,none⟩) t.length cp] 43)).alloc (.cells #[.string ⟨#[]⟩,.string ⟨#[]⟩,.nilFunc] 86)) := ⟨_,rfl⟩
 have hBW : Below w.heap.size w W := by rw [hW]; exact Below.alloc (Below.alloc (Below.refl _ _) (by simp <;> omega) _) (by simp <;> omega) _
 have hzW : W.heap.size = w.heap.size + 1 + 1 := by rw [hW]; simp
 have hx : Bx W (w.heap.size + 1) #[.string ⟨#[]⟩,.string ⟨#[]⟩,.nilFunc] 86 := by rw [hW]; exact bx_new _ _ _ (by simp)
 have HC := onFile_any ⟨#[97,112,112,101,110,100]⟩ (S (nm i)) 103 #[.pointer (some ⟨w.heap.size,0,none⟩)] W
 have HIN : Hid (∀ F : Nat -> Prop,(∀ q,F q -> q < w.heap.size) -> (∀ q,((some g) : Option Nat) = some q -> ¬ F q) -> InnerAt W (fun k => F k \/ k = w.heap.size + 1) (stAppend i t) (.func (.func 103) #[] #[.pointer (some ⟨w.heap.size,0,none⟩)])) := fun F hFz hgF => by
  have b0 : Bx W (w.heap.size) #[.slice (some ⟨g,0,none⟩) t.length cp] 43 := by rw [hW]; exact ((bx_new w #[.slice (some ⟨g,0,none⟩) t.length cp] 43 (by simp)).alloc _)
  exact .app _ g cp rfl ⟨b0.cell (j := 0) rfl,fun h => by rcases h with h | h; exact absurd (hFz _ h) (by omega); omega⟩ (hr.below hBW hr.1) (fun h => by rcases h with h | h; exact hgF g rfl h; exact absurd hr.1 (by omega)) hp hl
 have HEND : Hid (∀ w1 : World,w1.cell? ⟨W.heap.size,0,none⟩ = some (.string (S (nm i))) -> w1.cell? ⟨W.heap.size + 1,0,none⟩ = some (.func (.func 103) #[] #[.pointer (some ⟨w.heap.size,0,none⟩)]) -> Below W.heap.size W w1 -> ∀ (a b c : Value),Made w (stAppend i t) (some g) (.returned (.agg #[.string ⟨#[97,112,112,101,110,100]⟩,.string (S (nm i)),.func (.func 138) #[] #[.pointer (some ⟨W.heap.size,0,none⟩),.pointer (some ⟨W.heap.size + 1,0,none⟩)]])) (((w1.setCell ⟨w.heap.size + 1,0,none⟩ a).setCell ⟨w.heap.size + 1,1,none⟩ b).setCell ⟨w.heap.size + 1,2,none⟩ c)) := fun w1 c1 c2 hb a b c =>
  ⟨_,_,_,_,rfl,fun F hFz hgF => mk_step hFz (by rw [hzW]; omega) (by rw [hzW]; omega) (HIN.out F hFz hgF) hb rfl rfl c1 c2 hi (set3_chg a b c),below_set3 (hBW.trans (hb.mono (by rw [hzW]; omega))) (by omega) a b c⟩
 have HX : Hid (∀ w1 : World,Below W.heap.size W w1 -> Bx w1 (w.heap.size + 1) #[.string ⟨#[]⟩,.string ⟨#[]⟩,.nilFunc] 86) := fun w1 hb => (hb.block _ hx.lt).trans hx
 rw [hzW] at HC HEND HX
 subst hW
 clear hx hBW hzW HIN
 go_enter Tryz.func55,Tryz.ntmps55
 go_wp2_with (first | (go_at_call 77; refine HC.mono ?_; rintro e w1 ⟨rfl,c1,c2,hb⟩; have hx1 := HX.out w1 hb; have x0 := hx1.cell (j := 0) rfl; have x1 := hx1.cell (j := 1) rfl; have x2 := hx1.cell (j := 2) rfl; have f0 := hx1.frozen 0; have f1 := hx1.frozen 1; have f2 := hx1.frozen 2))
 refine bodyPost_ret (by simp [results,Tryz.results55,go_sem,x0,x1,x2]) rfl (HEND.out w1 c1 c2 hb _ _ _)
theorem renameS_any (i j : Nat) (w : World) (hi : i <= 2) (hj : j <= 2) :
  Calls Tryz.prog 56 #[.string (S (nm i)),.string (S (nm j))] w (Made w (stRename i j) none) := by
 have hmf := hmf_any
 obtain ⟨W,hW⟩ : ∃ W : World,W = (((w.alloc (.cells #[.string (S (nm i))] 9)).alloc (.cells #[.string (S (nm j))] 9)).alloc (.cells #[.string ⟨#[]⟩,.string ⟨#[]⟩,.nilFunc] 86)) := ⟨_,rfl⟩
 have hBW : Below w.heap.size w W := by rw [hW]; exact Below.alloc (Below.alloc (Below.alloc (Below.refl _ _) (by simp <;> omega) _) (by simp <;> omega) _) (by simp <;> omega) _
 have hzW : W.heap.size = w.heap.size + 1 + 1 + 1 := by rw [hW]; simp
 have hx : Bx W (w.heap.size + 1 + 1) #[.string ⟨#[]⟩,.string ⟨#[]⟩,.nilFunc] 86 := by rw [hW]; exact bx_new _ _ _ (by simp)
 have HC := onFile_any ⟨#[114,101,110,97,109,101]⟩ (S (nm i)) 105 #[.pointer (some ⟨w.heap.size,0,none⟩),.pointer (some ⟨w.heap.size + 1,0,none⟩)] W
 have HIN : Hid (∀ F : Nat -> Prop,(∀ q,F q -> q < w.heap.size) -> (∀ q,(none : Option Nat) = some q -> ¬ F q) -> InnerAt W (fun k => F k \/ k = w.heap.size + 1 + 1) (stRename i j) (.func (.func 105) #[] #[.pointer (some ⟨w.heap.size,0,none⟩),.pointer (some ⟨w.heap.size + 1,0,none⟩)])) := fun F hFz hgF => by
  have b0 : Bx W (w.heap.size) #[.string (S (nm i))] 9 := by rw [hW]; exact (((bx_new w #[.string (S (nm i))] 9 (by simp)).alloc _).alloc _)
  have b1 : Bx W (w.heap.size + 1) #[.string (S (nm j))] 9 := by rw [hW]; exact ((bx_new (w.alloc _) #[.string (S (nm j))] 9 (by simp)).alloc _)
  exact .rename _ _ rfl ⟨b0.cell (j := 0) rfl,fun h => by rcases h with h | h; exact absurd (hFz _ h) (by omega); omega⟩ ⟨b1.cell (j := 0) rfl,fun h => by rcases h with h | h; exact absurd (hFz _ h) (by omega); omega⟩ hj
 have HEND : Hid (∀ w1 : World,w1.cell? ⟨W.heap.size,0,none⟩ = some (.string (S (nm i))) -> w1.cell? ⟨W.heap.size + 1,0,none⟩ = some (.func (.func 105) #[] #[.pointer (some ⟨w.heap.size,0,none⟩),.pointer (some ⟨w.heap.size + 1,0,none⟩)]) -> Below W.heap.size W w1 -> ∀ (a b c : Value),Made w (stRename i j) none (.returned (.agg #[.string ⟨#[114,101,110,97,109,101]⟩,.string (S (nm i)),.func (.func 138) #[] #[.pointer (some ⟨W.heap.size,0,none⟩),.pointer (some ⟨W.heap.size + 1,0,none⟩)]])) (((w1.setCell ⟨w.heap.size + 1 + 1,0,none⟩ a).setCell ⟨w.heap.size + 1 + 1,1,none⟩ b).setCell ⟨w.heap.size + 1 + 1,2,none⟩ c)) := fun w1 c1 c2 hb a b c =>
  ⟨_,_,_,_,rfl,fun F hFz hgF => mk_step hFz (by rw [hzW]; omega) (by rw [hzW]; omega) (HIN.out F hFz hgF) hb rfl rfl c1 c2 hi (set3_chg a b c),below_set3 (hBW.trans (hb.mono (by rw [hzW]; omega))) (by omega) a b c⟩
 have HX : Hid (∀ w1 : World,Below W.heap.size W w1 -> Bx w1 (w.heap.size + 1 + 1) #[.string ⟨#[]⟩,.string ⟨#[]⟩,.nilFunc] 86) := fun w1 hb => (hb.block _ hx.lt).trans hx
 rw [hzW] at HC HEND HX
 subst hW
 clear hx hBW hzW HIN
 go_enter Tryz.func56,Tryz.ntmps56
 go_wp2_with (first | (go_at_call 77; refine HC.mono ?_; rintro e w1 ⟨rfl,c1,c2,hb⟩; have hx1 := HX.out w1 hb; have x0 := hx1.cell (j := 0) rfl; have x1 := hx1.cell (j := 1) rfl; have x2 := hx1.cell (j := 2) rfl; have f0 := hx1.frozen 0; have f1 := hx1.frozen 1; have f2 := hx1.frozen 2))
 refine bodyPost_ret (by simp [results,Tryz.results56,go_sem,x0,x1,x2]) rfl (HEND.out w1 c1 c2 hb _ _ _)
theorem removeS_any (i : Nat) (w : World) (hi : i <= 2) :
  Calls Tryz.prog 159 #[.string (S (nm i))] w (Made w (stRemove i) none) := by
 have hmf := hmf_any
 obtain ⟨W,hW⟩ : ∃ W : World,W = ((w.alloc (.cells #[.string (S (nm i))] 9)).alloc (.cells #[.string ⟨#[]⟩,.string ⟨#[]⟩,.nilFunc] 86)) := ⟨_,rfl⟩
 have hBW : Below w.heap.size w W := by rw [hW]; exact Below.alloc (Below.alloc (Below.refl _ _) (by simp <;> omega) _) (by simp <;> omega) _
 have hzW : W.heap.size = w.heap.size + 1 + 1 := by rw [hW]; simp
 have hx : Bx W (w.heap.size + 1) #[.string ⟨#[]⟩,.string ⟨#[]⟩,.nilFunc] 86 := by rw [hW]; exact bx_new _ _ _ (by simp)
 have HC := onFile_any ⟨#[114,101,109,111,118,101]⟩ (S (nm i)) 195 #[.pointer (some ⟨w.heap.size,0,none⟩)] W
 have HIN : Hid (∀ F : Nat -> Prop,(∀ q,F q -> q < w.heap.size) -> (∀ q,(none : Option Nat) = some q -> ¬ F q) -> InnerAt W (fun k => F k \/ k = w.heap.size + 1) (stRemove i) (.func (.func 195) #[] #[.pointer (some ⟨w.heap.size,0,none⟩)])) := fun F hFz hgF => by
  have b0 : Bx W (w.heap.size) #[.string (S (nm i))] 9 := by rw [hW]; exact ((bx_new w #[.string (S (nm i))] 9 (by simp)).alloc _)
  exact .remove _ rfl ⟨b0.cell (j := 0) rfl,fun h => by rcases h with h | h; exact absurd (hFz _ h) (by omega); omega⟩
 have HEND : Hid (∀ w1 : World,w1.cell? ⟨W.heap.size,0,none⟩ = some (.string (S (nm i))) -> w1.cell? ⟨W.heap.size + 1,0,none⟩ = some (.func (.func 195) #[] #[.pointer (some ⟨w.heap.size,0,none⟩)]) -> Below W.heap.size W w1 -> ∀ (a b c : Value),Made w (stRemove i) none (.returned (.agg #[.string ⟨#[114,101,109,111,118,101]⟩,.string (S (nm i)),.func (.func 138) #[] #[.pointer (some ⟨W.heap.size,0,none⟩),.pointer (some ⟨W.heap.size + 1,0,none⟩)]])) (((w1.setCell ⟨w.heap.size + 1,0,none⟩ a).setCell ⟨w.heap.size + 1,1,none⟩ b).setCell ⟨w.heap.size + 1,2,none⟩ c)) := fun w1 c1 c2 hb a b c =>
  ⟨_,_,_,_,rfl,fun F hFz hgF => mk_step hFz (by rw [hzW]; omega) (by rw [hzW]; omega) (HIN.out F hFz hgF) hb rfl rfl c1 c2 hi (set3_chg a b c),below_set3 (hBW.trans (hb.mono (by rw [hzW]; omega))) (by omega) a b c⟩
 have HX : Hid (∀ w1 : World,Below W.heap.size W w1 -> Bx w1 (w.heap.size + 1) #[.string ⟨#[]⟩,.string ⟨#[]⟩,.nilFunc] 86) := fun w1 hb => (hb.block _ hx.lt).trans hx
 rw [hzW] at HC HEND HX
 subst hW
 clear hx hBW hzW HIN
 go_enter Tryz.func159,Tryz.ntmps159
 go_wp2_with (first | (go_at_call 77; refine HC.mono ?_; rintro e w1 ⟨rfl,c1,c2,hb⟩; have hx1 := HX.out w1 hb; have x0 := hx1.cell (j := 0) rfl; have x1 := hx1.cell (j := 1) rfl; have x2 := hx1.cell (j := 2) rfl; have f0 := hx1.frozen 0; have f1 := hx1.frozen 1; have f2 := hx1.frozen 2))
 refine bodyPost_ret (by simp [results,Tryz.results159,go_sem,x0,x1,x2]) rfl (HEND.out w1 c1 c2 hb _ _ _)
theorem makeS_any (i : Nat) (w : World) (hi : i <= 2) :
  Calls Tryz.prog 54 #[.string (S (nm i))] w (Made w (stMake i) none) := by
 have hmf := hmf_any
 go_enter Tryz.func54,Tryz.ntmps54
 go_wp2
 refine bodyPost_ret (v := .agg #[.string ⟨#[109,97,107,101]⟩,.string (S (nm i)),.func (.func 102) #[] #[.pointer (some ⟨w.heap.size,0,none⟩)]]) (by simp [results,Tryz.results54,go_sem]) rfl ⟨_,_,_,_,rfl,fun F hFz _ => .make _ rfl ⟨((bx_new w #[.string (S (nm i))] 9 rfl).alloc _).cell (j := 0) rfl,fun h => absurd (hFz _ h) (by omega)⟩ hi,((Below.refl _ _).alloc (Nat.le_refl _) _).alloc (by simp) _⟩
end Go.Proofs.YtdhgebdbiehchaaGreatDoor
