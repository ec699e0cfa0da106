/- The contract of disk.Disk's Do: steps, one behind the other, up to the first that fails. The contracts of disk.Make, Append, Cut, Sync, Rename, Remove: the steps as they are made. The contract of record.Entry's appendTo: the row that it is appended to may be anywhere; where the new row lies. The contract of record.Entry's appendTo. What waits, in memory; the contracts of record.NewWaiting and of Waiting's Any, Clear; of Entry's size and IsRight. The contracts of Waiting's Add and Block, of Entry's IsRight, of record.Head and IsConfig. The contracts of Waiting's Block, of Entry's IsRight, of record.Head and IsConfig. -/
import Derived.Test.YtdhgebdbiehchaaGreatDoorB15
import Derived.Laws.EntriesVeiled
import Derived.Lib.AppendStr
namespace Go.Proofs.YtdhgebdbiehchaaGreatDoor
open Go.RowKit Go.Maps
set_option linter.unusedSimpArgs false
set_option linter.unusedVariables false

theorem take_form {w : World} {F : Nat → Prop} {st : St} {v : Value} (h : TakeAt w F st v) : ∃ k caps, v = .func (.func k) #[] caps := by
  cases h with
  | make c ht h1 hi => exact ⟨_, _, rfl⟩
  | on cn ct iv hn hi h1 h2 => exact ⟨_, _, rfl⟩
theorem steps_cons (d : Dk) (st : St) (ss : List St) : d.steps (st :: ss) = if (d.one st).1 = 0 then (d.one st).2.steps ss else d.one st := by
  show (match d.count with | (false, d') => (8, d') | (true, d') => match d'.take st with | (e, d'') => if e = 0 then d''.steps ss else (e, d'')) = _
  unfold Dk.one
  obtain ⟨b, d', hct⟩ : ∃ b d', d.count = (b, d') := ⟨_, _, rfl⟩
  rw [hct]
  cases b with
  | false => simp
  | true => rfl
theorem one_same {d : Dk} {st : St} (h : (d.one st).1 = 0) : (d.one st).2.down = d.down := by
  obtain ⟨b, d', hct⟩ : ∃ b d', d.count = (b, d') := ⟨_, _, rfl⟩
  cases b with
  | false => rw [one_no hct] at h; cases h
  | true =>
    rw [one_yes hct]
    have h1 := count_same (d := d) (by rw [hct])
    rw [hct] at h1
    exact (take_same st).1.trans h1.1
theorem DkOk.one {d : Dk} (h : DkOk d) {st : St} (hs : StFine st) : DkOk (d.one st).2 := by
  obtain ⟨b, d', hct⟩ : ∃ b d', d.count = (b, d') := ⟨_, _, rfl⟩
  have h1 := h.count
  rw [hct] at h1
  cases b with
  | false => rw [one_no hct]; exact h1
  | true => rw [one_yes hct]; exact DkOk.take h1 hs
/-- Steps in a row. -/
structure StepsAt (w : World) (F : Nat → Prop) (g : Nat) (cs : Array Value) (ss : List St) : Prop where
  box : w.heap[g]? = some (.cells cs 86 (0, 0))
  out : ¬ F g
  each : ∀ j st, ss[j]? = some st → ∃ s1 s2 tv, cs[j * 3]? = some (.string s1) ∧ cs[j * 3 + 1]? = some (.string s2) ∧ cs[j * 3 + 2]? = some tv ∧ TakeAt w F st tv ∧ StFine st
theorem StepsAt.turn {w w' : World} {F F' G : Nat → Prop} {g : Nat} {cs : Array Value} {ss : List St} (h : StepsAt w F g cs ss) (hc : Chg G w w') (hG : ∀ k, G k → F k) (hF : ∀ k, k < w.heap.size → F' k → F k) : StepsAt w' F' g cs ss := by
  have hlt : g < w.heap.size := (Array.getElem?_eq_some_iff.1 h.box).1
  refine ⟨(hc.keep g hlt (fun hg => h.out (hG g hg))).trans h.box, fun hf => h.out (hF g hlt hf), ?_⟩
  intro j st hj
  obtain ⟨s1, s2, tv, a1, a2, a3, a4, a5⟩ := h.each j st hj
  exact ⟨s1, s2, tv, a1, a2, a3, a4.turn hc hG hF, a5⟩
/-- What Do leaves. -/
def Did (E : Sent) (F : Nat → Prop) (bd : Nat) (w : World) (r : Int × Dk) (v : Value) (w' : World) : Prop := FaultIs w' E r.1 v ∧ (∃ p', DiskAt w' (Fx F w w') bd r.2 p') ∧ Chg F w w'
set_option maxRecDepth 100000 in
set_option maxHeartbeats 3200000 in
theorem doAll_any (E : Sent) (n : Nat) (F : Nat → Prop) (bd : Nat) (d : Dk) (p : Pr) (g cap : Nat) (cs : Array Value) (ss : List St) (w : World) (hE : Env0 n w E) (hF : ∀ q, F q → n ≤ q ∧ q < w.heap.size) (hD : DiskAt w F bd d p) (hok : DkOk d) (hup : d.down = false) (hS : StepsAt w F g cs ss) (hcap : ss.length ≤ cap) (hl : ss.length ≤ 1000) :
    Calls Tryz.prog 76 #[.pointer (some ⟨bd, 0, none⟩), .slice (some ⟨g, 0, none⟩) ss.length cap] w fun e w' => ∃ v, e = .returned v ∧ Did E F bd w (d.steps ss) v w' := by
  have HS : Hid (StepsAt w F g cs ss) := hS
  have HE : Hid (Env0 n w E) := hE
  have HF : Hid (∀ q, F q → n ≤ q ∧ q < w.heap.size) := hF
  have HI : Hid (∃ p, DiskAt w (Fx F w w) bd d p) := ⟨p, hD.mono (fun k h => .inl h)⟩
  clear hS hD hE hF
  have HOK : Hid (DkOk d) := hok
  have HUP : Hid (d.down = false) := hup
  clear hok hup
  go_enter Tryz.func76, Tryz.ntmps76
  go_wp2
  go_loopw [10] (fun i wr => ∃ (k : Nat) (dk : Dk), k ≤ ss.length ∧ i = .int .i64 k ∧ (∃ p, DiskAt wr (Fx F w wr) bd dk p) ∧ Chg F w wr ∧ d.steps ss = dk.steps (ss.drop k) ∧ DkOk dk ∧ dk.down = false) (fun i _ => ss.length - (intOf i).toNat)
  case atStart => exact ⟨0, d, Nat.zero_le _, rfl, HI.out, Chg.refl _ _, rfl, HOK.out, HUP.out⟩
  case round =>
    obtain ⟨k, dk, hk, rfl, ⟨pk, hDk⟩, hCk, hst, hokk, hupk⟩ := hrel
    clear HI HOK HUP
    by_cases hkn : k < ss.length
    · obtain ⟨st, hj⟩ : ∃ st, ss[k]? = some st := ⟨ss[k], List.getElem?_eq_getElem hkn⟩
      have hSk : StepsAt wr (Fx F w wr) g cs ss := HS.out.turn hCk (fun _ h => h) (fun q hq h => by rcases h with h | h; exact h; omega)
      obtain ⟨s1, s2, tv, a1, a2, a3, hT, hfine⟩ := hSk.each k st hj
      obtain ⟨kf, caps, rfl⟩ := take_form hT
      have z0 : wr.cell? ⟨g, k * 3, none⟩ = some (.string s1) := by rw [cell_of_row wr g (k * 3) cs _ _ hSk.box]; exact a1
      have z1 : wr.cell? ⟨g, k * 3 + 1, none⟩ = some (.string s2) := by rw [cell_of_row wr g (k * 3 + 1) cs _ _ hSk.box]; exact a2
      have z2 : wr.cell? ⟨g, k * 3 + 2, none⟩ = some (.func (.func kf) #[] caps) := by rw [cell_of_row wr g (k * 3 + 2) cs _ _ hSk.box]; exact a3
      have hdrop : ss.drop k = st :: ss.drop (k + 1) := by
        obtain ⟨hlt, rfl⟩ := List.getElem?_eq_some_iff.1 hj
        exact List.drop_eq_getElem_cons hlt
      rw [hdrop, steps_cons] at hst
      obtain ⟨w0, hw0⟩ : ∃ w0 : World, w0 = wr.alloc (.cells #[.string s1, .string s2, .func (.func kf) #[] caps] 86) := ⟨_, rfl⟩
      have hB0 : Below wr.heap.size wr w0 := by rw [hw0]; exact (Below.refl _ _).alloc (Nat.le_refl _) _
      have hx0 : Bx w0 wr.heap.size #[.string s1, .string s2, .func (.func kf) #[] caps] 86 := by rw [hw0]; exact bx_new wr _ _ rfl
      have hn0 : n ≤ w.heap.size := HE.out.le
      have hF1 : ∀ q, Fx F w wr q → n ≤ q ∧ q < w0.heap.size := fun q hq => by
        have := hB0.size
        have := hCk.size
        rcases hq with h | h
        · have := HF.out q h; omega
        · omega
      have HDO := do_any E n (Fx F w wr) bd dk pk st s1 s2 (.func (.func kf) #[] caps) w0 ((HE.out.chg hCk (fun q hq => (HF.out q hq).1)).chg (Chg.of_below (F := fun _ => False) hB0) (fun _ h => h.elim)) hF1 (hDk.below hB0) hokk hupk (hT.turn (F' := Fx F w wr) (Chg.of_below (F := fun _ => False) hB0) (fun _ h => h.elim) (fun _ _ h => h))
      have HNEXT : Hid (∀ (e : Ending) (w2 : World), Took E (Fx F w wr) bd w0 (dk.one st) e w2 → e = .returned (errVal E (dk.one st).1) ∧ (∃ p', DiskAt w2 (Fx F w w2) bd (dk.one st).2 p') ∧ Chg F w w2 ∧ Bx w2 wr.heap.size #[.string s1, .string s2, .func (.func kf) #[] caps] 86) := fun e w2 ⟨t1, ⟨p', t2⟩, t3⟩ => by
        have hz := hCk.size
        have hz0 := hB0.size
        have hz2 := t3.size
        refine ⟨t1, ⟨p', t2.mono ?_⟩, ?_, hx0.chg t3 ?_⟩
        · rintro q ((h | h) | h)
          · exact .inl h
          · exact .inr (by omega)
          · exact .inr (by omega)
        · refine hCk.trans ((Chg.of_below hB0).trans (t3.mono ?_))
          intro q _ h; exact .inl h
        · rintro (h | h)
          · have := (HF.out _ h).2; omega
          · omega
      have HOK2 : Hid (DkOk (dk.one st).2) := hokk.one hfine
      have HDN : Hid ((dk.one st).1 = 0 → (dk.one st).2.down = false) := fun h => (one_same h).trans hupk
      have HST : Hid (d.steps ss = if (dk.one st).1 = 0 then (dk.one st).2.steps (ss.drop (k + 1)) else dk.one st) := hst
      subst hw0
      clear hSk hT hDk hCk hokk hupk hst hB0 hx0 hF1 hfine a1 a2 a3 hdrop hj
      generalize dk.one st = r at *
      obtain ⟨re, rd⟩ := r
      by_cases hr : re = 0
      · subst hr
        go_wp2_with (first | (go_at_call 137; refine HDO.mono ?_; intro e w2 hT; obtain ⟨rfl, hD2, hC2, hx2⟩ := HNEXT.out _ _ hT; clear hT; rw [show errVal E 0 = .nilIface from rfl]))
        go_roundw
        case rel => exact ⟨k + 1, rd, by omega, by first | rfl | go_num, hD2, hC2, by rw [HST.out]; simp, HOK2.out, HDN.out (by first | trivial | rfl)⟩
        case measure => first | (simp [intOf]; omega) | (simp [intOf])
      · have HV := errVal_pos (E := E) hr
        go_wp2_with (first | (go_at_call 137; refine HDO.mono ?_; intro e w2 hT; obtain ⟨rfl, hD2, hC2, hx2⟩ := HNEXT.out _ _ hT; clear hT; have t0 := hx2.cell (j := 0) rfl; have t1 := hx2.cell (j := 1) rfl; rw [HV]))
        go_ret
        have hs2 := HST.out
        rw [if_neg hr] at hs2
        refine ⟨_, rfl, ?_⟩
        rw [hs2]
        obtain ⟨p', hD2⟩ := hD2
        refine ⟨.inr ⟨hr, _, rfl, ?_⟩, ⟨p', (hD2.alloc _).mono ?_⟩, hC2.alloc _⟩
        · rw [HV]; exact (bx_new w2 _ _ rfl).cell (j := 2) rfl
        · rintro q (h | h)
          · exact .inl h
          · exact .inr ⟨h.1, by simp; omega⟩
    · have hke : k = ss.length := by omega
      subst hke
      go_wp2
      go_ret
      refine ⟨_, rfl, ?_⟩
      rw [hst, List.drop_length]
      exact ⟨.inl ⟨rfl, rfl⟩, ⟨pk, hDk⟩, hCk⟩
end Go.Proofs.YtdhgebdbiehchaaGreatDoor
namespace Go.Proofs.YtdhgebdbiehchaaGreatDoor
open Go.RowKit Go.Maps
set_option linter.unusedSimpArgs false
set_option linter.unusedVariables false

set_option maxHeartbeats 1600000 in
theorem onFile_any (s1 s2 : ByteArray) (k : Nat) (caps : Array Value) (w : World) :
    Calls Tryz.prog 77 #[.string s1, .string s2, .func (.func k) #[] caps] w fun e w' => e = .returned (.agg #[.string s1, .string s2, .func (.func 138) #[] #[.pointer (some ⟨w.heap.size, 0, none⟩), .pointer (some ⟨w.heap.size + 1, 0, none⟩)]]) ∧ w'.cell? ⟨w.heap.size, 0, none⟩ = some (.string s2) ∧ w'.cell? ⟨w.heap.size + 1, 0, none⟩ = some (.func (.func k) #[] caps) ∧ Below w.heap.size w w' := by
  have hmf := hmf_any
  go_enter Tryz.func77, Tryz.ntmps77
  go_wp2
  refine bodyPost_ret (v := .agg #[.string s1, .string s2, .func (.func 138) #[] #[.pointer (some ⟨w.heap.size, 0, none⟩), .pointer (some ⟨w.heap.size + 1, 0, none⟩)]]) (by simp [results, Tryz.results77, go_sem]) rfl ⟨rfl, ?_, ?_, ?_⟩
  · exact (((bx_new w #[.string s2] 9 rfl).alloc _).alloc _).cell (j := 0) rfl
  · exact ((bx_new (w.alloc _) #[.func (.func k) #[] caps] 135 (by simp)).alloc _).cell (j := 0) rfl
  · exact (((Below.refl _ _).alloc (Nat.le_refl _) _).alloc (by simp) _).alloc (by simp; omega) _
theorem mk_step {w W w1 w2 : World} {F : Nat → Prop} {rb cn ct : Nat} {st : St} {iv : Value} (hFz : ∀ q, F q → q < w.heap.size) (hzW : w.heap.size ≤ W.heap.size) (hrb : rb < W.heap.size) (hI : InnerAt W (fun k => F k ∨ k = rb) st iv) (hb : Below W.heap.size W w1) (hcn : cn = W.heap.size) (hct : ct = W.heap.size + 1) (c1 : w1.cell? ⟨cn, 0, none⟩ = some (.string (S (nm st.i)))) (c2 : w1.cell? ⟨ct, 0, none⟩ = some iv) (hi : st.i ≤ 2) (hc : Chg (fun k => k = rb) w1 w2) :
    TakeAt w2 F st (.func (.func 138) #[] #[.pointer (some ⟨cn, 0, none⟩), .pointer (some ⟨ct, 0, none⟩)]) := by
  have h1 : TakeAt w1 (fun k => F k ∨ k = rb) st (.func (.func 138) #[] #[.pointer (some ⟨cn, 0, none⟩), .pointer (some ⟨ct, 0, none⟩)]) := by
    refine .on cn ct iv ⟨c1, ?_⟩ hi ⟨c2, ?_⟩ (hI.turn (Chg.of_below (F := fun _ => False) hb) (fun _ h => h.elim) (fun _ _ h => h))
    · rintro (h | h)
      · have := hFz _ h; omega
      · omega
    · rintro (h | h)
      · have := hFz _ h; omega
      · omega
  exact h1.turn hc (fun k h => .inr h) (fun k _ h => .inl h)
/-- A step as it is made. -/
def Made (w : World) (st : St) (g : Option Nat) (e : Ending) (w' : World) : Prop := ∃ s1 s2 k caps, e = .returned (.agg #[.string s1, .string s2, .func (.func k) #[] caps]) ∧ (∀ F : Nat → Prop, (∀ q, F q → q < w.heap.size) → (∀ q, g = some q → ¬ F q) → TakeAt w' F st (.func (.func k) #[] caps)) ∧ Below w.heap.size w w'
theorem set3_chg {w1 : World} {rb : Nat} (a b c : Value) : Chg (fun k => k = rb) w1 (((w1.setCell ⟨rb, 0, none⟩ a).setCell ⟨rb, 1, none⟩ b).setCell ⟨rb, 2, none⟩ c) := (((Chg.refl (fun k => k = rb) w1).set rb 0 a (.inl rfl)).set rb 1 b (.inl rfl)).set rb 2 c (.inl rfl)
theorem below_set3 {w w1 : World} {n rb : Nat} (h : Below n w w1) (hr : n ≤ rb) (a b c : Value) : Below n w (((w1.setCell ⟨rb, 0, none⟩ a).setCell ⟨rb, 1, none⟩ b).setCell ⟨rb, 2, none⟩ c) := ((h.setCell hr _).setCell hr _).setCell hr _
set_option maxRecDepth 100000 in
set_option maxHeartbeats 1600000 in
theorem syncS_any (i : Nat) (w : World) (hi : i ≤ 2) :
    Calls Tryz.prog 43 #[.string (S (nm i))] w (Made w (stSync i) none) := by
  have hmf := hmf_any
  obtain ⟨W, hW⟩ : ∃ W : World, W = (w.alloc (.cells #[.string ⟨#[]⟩, .string ⟨#[]⟩, .nilFunc] 86)) := ⟨_, rfl⟩
  have hBW : Below w.heap.size w W := by rw [hW]; exact Below.alloc (Below.refl _ _) (by simp <;> omega) _
  have hzW : W.heap.size = w.heap.size + 1 := by rw [hW]; simp
  have hx : Bx W (w.heap.size) #[.string ⟨#[]⟩, .string ⟨#[]⟩, .nilFunc] 86 := by rw [hW]; exact bx_new _ _ _ (by simp)
  have HC := onFile_any ⟨#[115, 121, 110, 99]⟩ (S (nm i)) 78 #[] W
  have HIN : Hid (∀ F : Nat → Prop, (∀ q, F q → q < w.heap.size) → (∀ q, (none : Option Nat) = some q → ¬ F q) → InnerAt W (fun k => F k ∨ k = w.heap.size) (stSync i) (.func (.func 78) #[] #[])) := fun F hFz hgF => by
    exact .sync rfl
  have HEND : Hid (∀ w1 : World, w1.cell? ⟨W.heap.size, 0, none⟩ = some (.string (S (nm i))) → w1.cell? ⟨W.heap.size + 1, 0, none⟩ = some (.func (.func 78) #[] #[]) → Below W.heap.size W w1 → ∀ (a b c : Value), Made w (stSync i) none (.returned (.agg #[.string ⟨#[115, 121, 110, 99]⟩, .string (S (nm i)), .func (.func 138) #[] #[.pointer (some ⟨W.heap.size, 0, none⟩), .pointer (some ⟨W.heap.size + 1, 0, none⟩)]])) (((w1.setCell ⟨w.heap.size, 0, none⟩ a).setCell ⟨w.heap.size, 1, none⟩ b).setCell ⟨w.heap.size, 2, none⟩ c)) := fun w1 c1 c2 hb a b c =>
    ⟨_, _, _, _, rfl, fun F hFz hgF => mk_step hFz (by rw [hzW]; omega) (by rw [hzW]; omega) (HIN.out F hFz hgF) hb rfl rfl c1 c2 hi (set3_chg a b c), below_set3 (hBW.trans (hb.mono (by rw [hzW]; omega))) (by omega) a b c⟩
  have HX : Hid (∀ w1 : World, Below W.heap.size W w1 → Bx w1 (w.heap.size) #[.string ⟨#[]⟩, .string ⟨#[]⟩, .nilFunc] 86) := fun w1 hb => (hb.block _ hx.lt).trans hx
  rw [hzW] at HC HEND HX
  subst hW
  clear hx hBW hzW HIN
  go_enter Tryz.func43, Tryz.ntmps43
  go_wp2_with (first | (go_at_call 77; refine HC.mono ?_; rintro e w1 ⟨rfl, c1, c2, hb⟩; have hx1 := HX.out w1 hb; have x0 := hx1.cell (j := 0) rfl; have x1 := hx1.cell (j := 1) rfl; have x2 := hx1.cell (j := 2) rfl; have f0 := hx1.frozen 0; have f1 := hx1.frozen 1; have f2 := hx1.frozen 2))
  refine bodyPost_ret (by simp [results, Tryz.results43, go_sem, x0, x1, x2]) rfl (HEND.out w1 c1 c2 hb _ _ _)
set_option maxRecDepth 100000 in
set_option maxHeartbeats 1600000 in
theorem cutS_any (i m : Nat) (w : World) (hi : i ≤ 2) (hm : m ≤ 9223372036854775807) :
    Calls Tryz.prog 158 #[.string (S (nm i)), .int .i64 (m : Int)] w (Made w (stCut i m) none) := by
  have hmf := hmf_any
  obtain ⟨W, hW⟩ : ∃ W : World, W = ((w.alloc (.cells #[.int .i64 (m : Int)] 3)).alloc (.cells #[.string ⟨#[]⟩, .string ⟨#[]⟩, .nilFunc] 86)) := ⟨_, rfl⟩
  have hBW : Below w.heap.size w W := by rw [hW]; exact Below.alloc (Below.alloc (Below.refl _ _) (by simp <;> omega) _) (by simp <;> omega) _
  have hzW : W.heap.size = w.heap.size + 1 + 1 := by rw [hW]; simp
  have hx : Bx W (w.heap.size + 1) #[.string ⟨#[]⟩, .string ⟨#[]⟩, .nilFunc] 86 := by rw [hW]; exact bx_new _ _ _ (by simp)
  have HC := onFile_any ⟨#[99, 117, 116]⟩ (S (nm i)) 194 #[.pointer (some ⟨w.heap.size, 0, none⟩)] W
  have HIN : Hid (∀ F : Nat → Prop, (∀ q, F q → q < w.heap.size) → (∀ q, (none : Option Nat) = some q → ¬ F q) → InnerAt W (fun k => F k ∨ k = w.heap.size + 1) (stCut i m) (.func (.func 194) #[] #[.pointer (some ⟨w.heap.size, 0, none⟩)])) := fun F hFz hgF => by
    have b0 : Bx W (w.heap.size) #[.int .i64 (m : Int)] 3 := by rw [hW]; exact ((bx_new w #[.int .i64 (m : Int)] 3 (by simp)).alloc _)
    exact .cut _ rfl ⟨b0.cell (j := 0) rfl, fun h => by rcases h with h | h; exact absurd (hFz _ h) (by omega); omega⟩ hm
  have HEND : Hid (∀ w1 : World, w1.cell? ⟨W.heap.size, 0, none⟩ = some (.string (S (nm i))) → w1.cell? ⟨W.heap.size + 1, 0, none⟩ = some (.func (.func 194) #[] #[.pointer (some ⟨w.heap.size, 0, none⟩)]) → Below W.heap.size W w1 → ∀ (a b c : Value), Made w (stCut i m) none (.returned (.agg #[.string ⟨#[99, 117, 116]⟩, .string (S (nm i)), .func (.func 138) #[] #[.pointer (some ⟨W.heap.size, 0, none⟩), .pointer (some ⟨W.heap.size + 1, 0, none⟩)]])) (((w1.setCell ⟨w.heap.size + 1, 0, none⟩ a).setCell ⟨w.heap.size + 1, 1, none⟩ b).setCell ⟨w.heap.size + 1, 2, none⟩ c)) := fun w1 c1 c2 hb a b c =>
    ⟨_, _, _, _, rfl, fun F hFz hgF => mk_step hFz (by rw [hzW]; omega) (by rw [hzW]; omega) (HIN.out F hFz hgF) hb rfl rfl c1 c2 hi (set3_chg a b c), below_set3 (hBW.trans (hb.mono (by rw [hzW]; omega))) (by omega) a b c⟩
  have HX : Hid (∀ w1 : World, Below W.heap.size W w1 → Bx w1 (w.heap.size + 1) #[.string ⟨#[]⟩, .string ⟨#[]⟩, .nilFunc] 86) := fun w1 hb => (hb.block _ hx.lt).trans hx
  rw [hzW] at HC HEND HX
  subst hW
  clear hx hBW hzW HIN
  go_enter Tryz.func158, Tryz.ntmps158
  go_wp2_with (first | (go_at_call 77; refine HC.mono ?_; rintro e w1 ⟨rfl, c1, c2, hb⟩; have hx1 := HX.out w1 hb; have x0 := hx1.cell (j := 0) rfl; have x1 := hx1.cell (j := 1) rfl; have x2 := hx1.cell (j := 2) rfl; have f0 := hx1.frozen 0; have f1 := hx1.frozen 1; have f2 := hx1.frozen 2))
  refine bodyPost_ret (by simp [results, Tryz.results158, go_sem, x0, x1, x2]) rfl (HEND.out w1 c1 c2 hb _ _ _)
set_option maxRecDepth 100000 in
set_option maxHeartbeats 1600000 in
theorem appendS_any (i g cp : Nat) (t : List UInt8) (w : World) (hi : i ≤ 2) (hr : w.ownsRow 0 5 1 (.slice (some ⟨g, 0, none⟩) t.length cp) t.length (cellsB t)) (hp : 0 < t.length) (hl : t.length ≤ 1000000000) :
    Calls Tryz.prog 55 #[.string (S (nm i)), .slice (some ⟨g, 0, none⟩) t.length cp] w (Made w (stAppend i t) (some g)) := by
  have hmf := hmf_any
  obtain ⟨W, hW⟩ : ∃ W : World, W = ((w.alloc (.cells #[.slice (some ⟨g, 0, none⟩) t.length cp] 43)).alloc (.cells #[.string ⟨#[]⟩, .string ⟨#[]⟩, .nilFunc] 86)) := ⟨_, rfl⟩
  have hBW : Below w.heap.size w W := by rw [hW]; exact Below.alloc (Below.alloc (Below.refl _ _) (by simp <;> omega) _) (by simp <;> omega) _
  have hzW : W.heap.size = w.heap.size + 1 + 1 := by rw [hW]; simp
  have hx : Bx W (w.heap.size + 1) #[.string ⟨#[]⟩, .string ⟨#[]⟩, .nilFunc] 86 := by rw [hW]; exact bx_new _ _ _ (by simp)
  have HC := onFile_any ⟨#[97, 112, 112, 101, 110, 100]⟩ (S (nm i)) 103 #[.pointer (some ⟨w.heap.size, 0, none⟩)] W
  have HIN : Hid (∀ F : Nat → Prop, (∀ q, F q → q < w.heap.size) → (∀ q, ((some g) : Option Nat) = some q → ¬ F q) → InnerAt W (fun k => F k ∨ k = w.heap.size + 1) (stAppend i t) (.func (.func 103) #[] #[.pointer (some ⟨w.heap.size, 0, none⟩)])) := fun F hFz hgF => by
    have b0 : Bx W (w.heap.size) #[.slice (some ⟨g, 0, none⟩) t.length cp] 43 := by rw [hW]; exact ((bx_new w #[.slice (some ⟨g, 0, none⟩) t.length cp] 43 (by simp)).alloc _)
    exact .app _ g cp rfl ⟨b0.cell (j := 0) rfl, fun h => by rcases h with h | h; exact absurd (hFz _ h) (by omega); omega⟩ (own_belowK hr hBW (Nat.le_refl _)) (fun h => by rcases h with h | h; exact hgF g rfl h; exact absurd (own_lt hr g rfl) (by omega)) hp hl
  have HEND : Hid (∀ w1 : World, w1.cell? ⟨W.heap.size, 0, none⟩ = some (.string (S (nm i))) → w1.cell? ⟨W.heap.size + 1, 0, none⟩ = some (.func (.func 103) #[] #[.pointer (some ⟨w.heap.size, 0, none⟩)]) → Below W.heap.size W w1 → ∀ (a b c : Value), Made w (stAppend i t) (some g) (.returned (.agg #[.string ⟨#[97, 112, 112, 101, 110, 100]⟩, .string (S (nm i)), .func (.func 138) #[] #[.pointer (some ⟨W.heap.size, 0, none⟩), .pointer (some ⟨W.heap.size + 1, 0, none⟩)]])) (((w1.setCell ⟨w.heap.size + 1, 0, none⟩ a).setCell ⟨w.heap.size + 1, 1, none⟩ b).setCell ⟨w.heap.size + 1, 2, none⟩ c)) := fun w1 c1 c2 hb a b c =>
    ⟨_, _, _, _, rfl, fun F hFz hgF => mk_step hFz (by rw [hzW]; omega) (by rw [hzW]; omega) (HIN.out F hFz hgF) hb rfl rfl c1 c2 hi (set3_chg a b c), below_set3 (hBW.trans (hb.mono (by rw [hzW]; omega))) (by omega) a b c⟩
  have HX : Hid (∀ w1 : World, Below W.heap.size W w1 → Bx w1 (w.heap.size + 1) #[.string ⟨#[]⟩, .string ⟨#[]⟩, .nilFunc] 86) := fun w1 hb => (hb.block _ hx.lt).trans hx
  rw [hzW] at HC HEND HX
  subst hW
  clear hx hBW hzW HIN
  go_enter Tryz.func55, Tryz.ntmps55
  go_wp2_with (first | (go_at_call 77; refine HC.mono ?_; rintro e w1 ⟨rfl, c1, c2, hb⟩; have hx1 := HX.out w1 hb; have x0 := hx1.cell (j := 0) rfl; have x1 := hx1.cell (j := 1) rfl; have x2 := hx1.cell (j := 2) rfl; have f0 := hx1.frozen 0; have f1 := hx1.frozen 1; have f2 := hx1.frozen 2))
  refine bodyPost_ret (by simp [results, Tryz.results55, go_sem, x0, x1, x2]) rfl (HEND.out w1 c1 c2 hb _ _ _)
set_option maxRecDepth 100000 in
set_option maxHeartbeats 1600000 in
theorem renameS_any (i j : Nat) (w : World) (hi : i ≤ 2) (hj : j ≤ 2) :
    Calls Tryz.prog 56 #[.string (S (nm i)), .string (S (nm j))] w (Made w (stRename i j) none) := by
  have hmf := hmf_any
  obtain ⟨W, hW⟩ : ∃ W : World, W = (((w.alloc (.cells #[.string (S (nm i))] 9)).alloc (.cells #[.string (S (nm j))] 9)).alloc (.cells #[.string ⟨#[]⟩, .string ⟨#[]⟩, .nilFunc] 86)) := ⟨_, rfl⟩
  have hBW : Below w.heap.size w W := by rw [hW]; exact Below.alloc (Below.alloc (Below.alloc (Below.refl _ _) (by simp <;> omega) _) (by simp <;> omega) _) (by simp <;> omega) _
  have hzW : W.heap.size = w.heap.size + 1 + 1 + 1 := by rw [hW]; simp
  have hx : Bx W (w.heap.size + 1 + 1) #[.string ⟨#[]⟩, .string ⟨#[]⟩, .nilFunc] 86 := by rw [hW]; exact bx_new _ _ _ (by simp)
  have HC := onFile_any ⟨#[114, 101, 110, 97, 109, 101]⟩ (S (nm i)) 105 #[.pointer (some ⟨w.heap.size, 0, none⟩), .pointer (some ⟨w.heap.size + 1, 0, none⟩)] W
  have HIN : Hid (∀ F : Nat → Prop, (∀ q, F q → q < w.heap.size) → (∀ q, (none : Option Nat) = some q → ¬ F q) → InnerAt W (fun k => F k ∨ k = w.heap.size + 1 + 1) (stRename i j) (.func (.func 105) #[] #[.pointer (some ⟨w.heap.size, 0, none⟩), .pointer (some ⟨w.heap.size + 1, 0, none⟩)])) := fun F hFz hgF => by
    have b0 : Bx W (w.heap.size) #[.string (S (nm i))] 9 := by rw [hW]; exact (((bx_new w #[.string (S (nm i))] 9 (by simp)).alloc _).alloc _)
    have b1 : Bx W (w.heap.size + 1) #[.string (S (nm j))] 9 := by rw [hW]; exact ((bx_new (w.alloc _) #[.string (S (nm j))] 9 (by simp)).alloc _)
    exact .rename _ _ rfl ⟨b0.cell (j := 0) rfl, fun h => by rcases h with h | h; exact absurd (hFz _ h) (by omega); omega⟩ ⟨b1.cell (j := 0) rfl, fun h => by rcases h with h | h; exact absurd (hFz _ h) (by omega); omega⟩ hj
  have HEND : Hid (∀ w1 : World, w1.cell? ⟨W.heap.size, 0, none⟩ = some (.string (S (nm i))) → w1.cell? ⟨W.heap.size + 1, 0, none⟩ = some (.func (.func 105) #[] #[.pointer (some ⟨w.heap.size, 0, none⟩), .pointer (some ⟨w.heap.size + 1, 0, none⟩)]) → Below W.heap.size W w1 → ∀ (a b c : Value), Made w (stRename i j) none (.returned (.agg #[.string ⟨#[114, 101, 110, 97, 109, 101]⟩, .string (S (nm i)), .func (.func 138) #[] #[.pointer (some ⟨W.heap.size, 0, none⟩), .pointer (some ⟨W.heap.size + 1, 0, none⟩)]])) (((w1.setCell ⟨w.heap.size + 1 + 1, 0, none⟩ a).setCell ⟨w.heap.size + 1 + 1, 1, none⟩ b).setCell ⟨w.heap.size + 1 + 1, 2, none⟩ c)) := fun w1 c1 c2 hb a b c =>
    ⟨_, _, _, _, rfl, fun F hFz hgF => mk_step hFz (by rw [hzW]; omega) (by rw [hzW]; omega) (HIN.out F hFz hgF) hb rfl rfl c1 c2 hi (set3_chg a b c), below_set3 (hBW.trans (hb.mono (by rw [hzW]; omega))) (by omega) a b c⟩
  have HX : Hid (∀ w1 : World, Below W.heap.size W w1 → Bx w1 (w.heap.size + 1 + 1) #[.string ⟨#[]⟩, .string ⟨#[]⟩, .nilFunc] 86) := fun w1 hb => (hb.block _ hx.lt).trans hx
  rw [hzW] at HC HEND HX
  subst hW
  clear hx hBW hzW HIN
  go_enter Tryz.func56, Tryz.ntmps56
  go_wp2_with (first | (go_at_call 77; refine HC.mono ?_; rintro e w1 ⟨rfl, c1, c2, hb⟩; have hx1 := HX.out w1 hb; have x0 := hx1.cell (j := 0) rfl; have x1 := hx1.cell (j := 1) rfl; have x2 := hx1.cell (j := 2) rfl; have f0 := hx1.frozen 0; have f1 := hx1.frozen 1; have f2 := hx1.frozen 2))
  refine bodyPost_ret (by simp [results, Tryz.results56, go_sem, x0, x1, x2]) rfl (HEND.out w1 c1 c2 hb _ _ _)
set_option maxRecDepth 100000 in
set_option maxHeartbeats 1600000 in
theorem removeS_any (i : Nat) (w : World) (hi : i ≤ 2) :
    Calls Tryz.prog 159 #[.string (S (nm i))] w (Made w (stRemove i) none) := by
  have hmf := hmf_any
  obtain ⟨W, hW⟩ : ∃ W : World, W = ((w.alloc (.cells #[.string (S (nm i))] 9)).alloc (.cells #[.string ⟨#[]⟩, .string ⟨#[]⟩, .nilFunc] 86)) := ⟨_, rfl⟩
  have hBW : Below w.heap.size w W := by rw [hW]; exact Below.alloc (Below.alloc (Below.refl _ _) (by simp <;> omega) _) (by simp <;> omega) _
  have hzW : W.heap.size = w.heap.size + 1 + 1 := by rw [hW]; simp
  have hx : Bx W (w.heap.size + 1) #[.string ⟨#[]⟩, .string ⟨#[]⟩, .nilFunc] 86 := by rw [hW]; exact bx_new _ _ _ (by simp)
  have HC := onFile_any ⟨#[114, 101, 109, 111, 118, 101]⟩ (S (nm i)) 195 #[.pointer (some ⟨w.heap.size, 0, none⟩)] W
  have HIN : Hid (∀ F : Nat → Prop, (∀ q, F q → q < w.heap.size) → (∀ q, (none : Option Nat) = some q → ¬ F q) → InnerAt W (fun k => F k ∨ k = w.heap.size + 1) (stRemove i) (.func (.func 195) #[] #[.pointer (some ⟨w.heap.size, 0, none⟩)])) := fun F hFz hgF => by
    have b0 : Bx W (w.heap.size) #[.string (S (nm i))] 9 := by rw [hW]; exact ((bx_new w #[.string (S (nm i))] 9 (by simp)).alloc _)
    exact .remove _ rfl ⟨b0.cell (j := 0) rfl, fun h => by rcases h with h | h; exact absurd (hFz _ h) (by omega); omega⟩
  have HEND : Hid (∀ w1 : World, w1.cell? ⟨W.heap.size, 0, none⟩ = some (.string (S (nm i))) → w1.cell? ⟨W.heap.size + 1, 0, none⟩ = some (.func (.func 195) #[] #[.pointer (some ⟨w.heap.size, 0, none⟩)]) → Below W.heap.size W w1 → ∀ (a b c : Value), Made w (stRemove i) none (.returned (.agg #[.string ⟨#[114, 101, 109, 111, 118, 101]⟩, .string (S (nm i)), .func (.func 138) #[] #[.pointer (some ⟨W.heap.size, 0, none⟩), .pointer (some ⟨W.heap.size + 1, 0, none⟩)]])) (((w1.setCell ⟨w.heap.size + 1, 0, none⟩ a).setCell ⟨w.heap.size + 1, 1, none⟩ b).setCell ⟨w.heap.size + 1, 2, none⟩ c)) := fun w1 c1 c2 hb a b c =>
    ⟨_, _, _, _, rfl, fun F hFz hgF => mk_step hFz (by rw [hzW]; omega) (by rw [hzW]; omega) (HIN.out F hFz hgF) hb rfl rfl c1 c2 hi (set3_chg a b c), below_set3 (hBW.trans (hb.mono (by rw [hzW]; omega))) (by omega) a b c⟩
  have HX : Hid (∀ w1 : World, Below W.heap.size W w1 → Bx w1 (w.heap.size + 1) #[.string ⟨#[]⟩, .string ⟨#[]⟩, .nilFunc] 86) := fun w1 hb => (hb.block _ hx.lt).trans hx
  rw [hzW] at HC HEND HX
  subst hW
  clear hx hBW hzW HIN
  go_enter Tryz.func159, Tryz.ntmps159
  go_wp2_with (first | (go_at_call 77; refine HC.mono ?_; rintro e w1 ⟨rfl, c1, c2, hb⟩; have hx1 := HX.out w1 hb; have x0 := hx1.cell (j := 0) rfl; have x1 := hx1.cell (j := 1) rfl; have x2 := hx1.cell (j := 2) rfl; have f0 := hx1.frozen 0; have f1 := hx1.frozen 1; have f2 := hx1.frozen 2))
  refine bodyPost_ret (by simp [results, Tryz.results159, go_sem, x0, x1, x2]) rfl (HEND.out w1 c1 c2 hb _ _ _)
set_option maxRecDepth 100000 in
set_option maxHeartbeats 1600000 in
theorem makeS_any (i : Nat) (w : World) (hi : i ≤ 2) :
    Calls Tryz.prog 54 #[.string (S (nm i))] w (Made w (stMake i) none) := by
  have hmf := hmf_any
  go_enter Tryz.func54, Tryz.ntmps54
  go_wp2
  refine bodyPost_ret (v := .agg #[.string ⟨#[109, 97, 107, 101]⟩, .string (S (nm i)), .func (.func 102) #[] #[.pointer (some ⟨w.heap.size, 0, none⟩)]]) (by simp [results, Tryz.results54, go_sem]) rfl ⟨_, _, _, _, rfl, fun F hFz _ => .make _ rfl ⟨((bx_new w #[.string (S (nm i))] 9 rfl).alloc _).cell (j := 0) rfl, fun h => absurd (hFz _ h) (by omega)⟩ hi, ((Below.refl _ _).alloc (Nat.le_refl _) _).alloc (by simp) _⟩
end Go.Proofs.YtdhgebdbiehchaaGreatDoor
namespace Go.Proofs.YtdhgebdbiehchaaGreatDoor
open Go.RowKit Go.Maps
set_option linter.unusedSimpArgs false
set_option linter.unusedVariables false

/-- A row that has grown: where it was, or in a new block; nothing else has turned. -/
def RowTo (w : World) (v : Value) (w' : World) (v' : Value) : Prop := Chg (fun k => v.ownBlock = some k) w w' ∧ (v'.ownBlock = v.ownBlock ∨ ∃ g, v'.ownBlock = some g ∧ w.heap.size ≤ g)
theorem RowTo.refl (w : World) (v : Value) : RowTo w v w v := ⟨Chg.refl _ _, .inl rfl⟩
theorem RowTo.trans {w w1 w2 : World} {v v1 v2 : Value} (h : RowTo w v w1 v1) (k : RowTo w1 v1 w2 v2) : RowTo w v w2 v2 := by
  refine ⟨h.1.trans (k.1.mono ?_), ?_⟩
  · intro q hq hv
    rcases h.2 with h2 | ⟨g, h2, h3⟩
    · exact .inl (by rw [← h2]; exact hv)
    · rw [h2] at hv; cases hv; exact .inr ⟨h3, hq⟩
  · rcases k.2 with k2 | ⟨g, k2, k3⟩
    · rw [k2]; exact h.2
    · exact .inr ⟨g, k2, Nat.le_trans h.1.size k3⟩
theorem RowTo.alloc {w w1 : World} {v v1 : Value} (h : RowTo w v w1 v1) (o : Obj) : RowTo w v (w1.alloc o) v1 := ⟨h.1.alloc o, h.2⟩
theorem cellsB_str (s : List UInt8) : Go.Lib.strCells (S s) = cellsB s := by
  simp [Go.Lib.strCells, cellsB, S_data, S]
theorem app_str {W : World} {v : Value} {l t : List UInt8} (h1 : W.ownsRow 0 5 1 v l.length (cellsB l)) (hl : l.length + t.length ≤ 1000000000) :
    ∃ v' w', (Builtin.append_ #[43, 9] 43 #[v, .string (S t)]).run Tryz.prog W = .ok v' w' ∧ w'.ownsRow 0 5 1 v' (l ++ t).length (cellsB (l ++ t)) ∧ RowTo W v w' v' := by
  obtain ⟨i0, hi, hz0, hz1, hz2⟩ := info_parts info_u8
  have hsz : (S t).size = t.length := S_size t
  have hxl : (cellsB l).length = l.length := cellsB_length l
  obtain ⟨v', w', a1, a2, a3, a4⟩ := Go.Lib.run_append_own_string (P := Tryz.prog) W 0 43 9 43 5 i0 Tryz.underlying43 Tryz.underlying9 hi hz0 hz1 hz2 v l.length (cellsB l) h1 (S t) (by unfold maxLen; omega) (by omega) (Nat.zero_le _)
  have hat : v'.ownBlock = v.ownBlock ∨ ∃ g, v'.ownBlock = some g ∧ W.heap.size ≤ g := by
    rcases h1.2 with ⟨rfl, e0⟩ | ⟨g, cap, cur, rfl, hbg, hg, hnc, hcm, hcs, htake⟩
    · by_cases hm : (S t).size = 0
      · have := a4.2 ⟨rfl, hm⟩
        rw [this]; exact .inl rfl
      · have hr := run_append_nil_string (P := Tryz.prog) W 43 9 43 5 i0 (.int .u8 0) Tryz.underlying43 Tryz.underlying9 hi hz0 (S t) (by omega) (by omega) (by rw [hz2]; omega)
        rw [a1] at hr
        injection hr with e1 e2
        rw [e1]; exact .inr ⟨_, rfl, Nat.le_refl _⟩
    · by_cases hroom : l.length + (S t).size ≤ cap
      · have hr := Go.Lib.run_append_room_string (P := Tryz.prog) W 43 9 43 5 i0 Tryz.underlying43 Tryz.underlying9 hi hz1 g l.length cap cur hg (S t) hroom (by omega)
        rw [a1] at hr
        injection hr with e1 e2
        rw [e1]; exact .inl rfl
      · have hr := Go.Lib.run_append_grow_string (P := Tryz.prog) W 43 9 43 5 i0 (.int .u8 0) Tryz.underlying43 Tryz.underlying9 hi hz0 ⟨g, 0, none⟩ l.length cap (cellsB l) (by rw [hz1]; omega) (h1.cells (g := g) rfl) (S t) (by omega) (by omega) (by rw [hz2]; exact growslice_fits (by omega) (by omega))
        rw [a1] at hr
        injection hr with e1 e2
        rw [e1]; exact .inr ⟨_, rfl, Nat.le_refl _⟩
  rw [cellsB_str, ← cellsB_append, hsz] at a2
  rw [List.length_append]
  exact ⟨v', w', a1, a2, ⟨(Chg.refl _ W).grown a3 (fun k e => .inl e), hat⟩⟩
theorem wp_append_run {P : Program} {w w' : World} {ops : Array Oper} {rest : List Oper} {o : Oper} {a : Act} {Q : Exit → Act → World → Prop} (hgd : o.guard = none) (s x : Operand) (t u : TypeId)
    (ho : o.op = .call { callee := .builtin .append, args := #[s, x], argTypes := #[t, u] }) {v y r : Value} (hs : a.eval s = v) (hx : a.eval x = y) (hr : (Builtin.append_ #[t, u] o.type #[v, y]).run P w = .ok r w') (h : wpList P ops Q rest (a.put o.dst r) w') : wpList P ops Q (o :: rest) a w := by
  refine wpList_plain hgd fun K hK => ?_
  unfold Oper.wp execOp
  simp only [ho, resolve, invoke, builtin, Sem.run_bind, Sem.run_pure, Result.andThen_ok, List.map_toArray, List.map_cons, List.map_nil, hs, hx, hr]
  exact hK _ _ h
theorem app_rowTo {W : World} {v : Value} {l t : List UInt8} {g0 cp : Nat} (h1 : W.ownsRow 0 5 1 v l.length (cellsB l)) (h2 : W.ownsRow 0 5 1 (.slice (some ⟨g0, 0, none⟩) t.length cp) t.length (cellsB t)) (ht : 0 < t.length) (hl : l.length + t.length ≤ 1000000) :
    ∃ v' w', (Builtin.append_ #[43, 43] 43 #[v, .slice (some ⟨g0, 0, none⟩) t.length cp]).run Tryz.prog W = .ok v' w' ∧ w'.ownsRow 0 5 1 v' (l ++ t).length (cellsB (l ++ t)) ∧ RowTo W v w' v' := by
  obtain ⟨g, cap, w', a1, a2, a3, a4, a5⟩ := app_row h1 h2 ht hl
  refine ⟨_, w', a1, a2, (Chg.refl _ W).grown a3 (fun k e => .inl e), ?_⟩
  rcases a4 with h | h
  · exact .inl h.symm
  · exact .inr ⟨g, rfl, by omega⟩
end Go.Proofs.YtdhgebdbiehchaaGreatDoor
namespace Go.Proofs.YtdhgebdbiehchaaGreatDoor
open Go.RowKit Go.Maps
set_option linter.unusedSimpArgs false
set_option linter.unusedVariables false

def entV (e : Ent) : Value := .agg #[.bool e.put, .string (S e.key), .string (S e.val)]
theorem row3 (W : World) (a b c : UInt8) {g : Nat} (hg : g = W.heap.size) : (W.alloc (.cells #[.int .u8 (a.toNat : Int), .int .u8 (b.toNat : Int), .int .u8 (c.toNat : Int)] 5)).ownsRow 0 5 1 (.slice (some ⟨g, 0, none⟩) [a, b, c].length 3) [a, b, c].length (cellsB [a, b, c]) :=
  ⟨by simp [cellsB], .inr ⟨g, 3, _, rfl, Nat.zero_le _, bx_new W _ _ hg, by simp, by unfold maxLen; omega, rfl, rfl⟩⟩
set_option maxRecDepth 100000 in
set_option maxHeartbeats 3200000 in
theorem appendTo_any (v : Value) (l : List UInt8) (en : Ent) (w : World) (hown : w.ownsRow 0 5 1 v l.length (cellsB l)) (hk : en.key.length ≤ 20) (hv : en.val.length ≤ 30) (hl : l.length ≤ 100000) :
    Calls Tryz.prog 156 #[entV en, v] w fun e w' => ∃ v', e = .returned v' ∧ w'.ownsRow 0 5 1 v' (l ++ entB en).length (cellsB (l ++ entB en)) ∧ RowTo w v w' v' := by
  obtain ⟨put, key, val⟩ := en
  simp only at hk hv
  have hkn : ((S key).size : Int) = key.length := by rw [S_size]
  have hvn : ((S val).size : Int) = val.length := by rw [S_size]
  have hwk : IntKind.u8.wrap (key.length : Int) = (key.length : Int) := by rw [IntKind.wrap_u8]; omega
  have hwv : IntKind.u8.wrap (val.length : Int) = (val.length : Int) := by rw [IntKind.wrap_u8]; omega
  have HB : Hid (entB ⟨put, key, val⟩ = (if put = true then 112 else 100) :: UInt8.ofNat key.length :: UInt8.ofNat val.length :: (key ++ val)) := rfl
  have e1 : ((UInt8.ofNat key.length).toNat : Int) = key.length := by simp; omega
  have e2 : ((UInt8.ofNat val.length).toNat : Int) = val.length := by simp; omega
  unfold entV
  simp only
  have HO : Hid (w.ownsRow 0 5 1 v l.length (cellsB l)) := hown
  clear hown
  cases put with
  | true =>
    obtain ⟨W, hW⟩ : ∃ W : World, W = (w.alloc (.cells #[.bool true, .string (S key), .string (S val)] 106)).alloc (.cells #[.int .u8 112, .int .u8 (key.length : Int), .int .u8 (val.length : Int)] 5) := ⟨_, rfl⟩
    have hzW : W.heap.size = w.heap.size + 1 + 1 := by rw [hW]; simp
    have hB : Below w.heap.size w W := by rw [hW]; exact ((Below.refl _ _).alloc (Nat.le_refl _) _).alloc (by simp) _
    have hx0 : Bx W w.heap.size #[.bool true, .string (S key), .string (S val)] 106 := by rw [hW]; exact (bx_new w _ _ rfl).alloc _
    have hr3 : W.ownsRow 0 5 1 (.slice (some ⟨w.heap.size + 1, 0, none⟩) 3 3) 3 (cellsB [112, UInt8.ofNat key.length, UInt8.ofNat val.length]) := by
      have := row3 (w.alloc (.cells #[.bool true, .string (S key), .string (S val)] 106)) 112 (UInt8.ofNat key.length) (UInt8.ofNat val.length) (g := w.heap.size + 1) (by simp)
      rw [e1, e2] at this
      rw [hW]; exact this
    obtain ⟨v1, w1, R1, o1, t1⟩ := app_rowTo (t := [112, UInt8.ofNat key.length, UInt8.ofNat val.length]) (own_belowK HO.out hB (Nat.le_refl _)) hr3 (by simp) (by simp; omega)
    obtain ⟨v2, w2, R2, o2, t2⟩ := app_str (t := key) o1 (by simp; omega)
    obtain ⟨v3, w3, R3, o3, t3⟩ := app_str (t := val) o2 (by simp; omega)
    have hg : ∀ g, v.ownBlock = some g → g < w.heap.size := own_lt HO.out
    have hg1 : ∀ g, v1.ownBlock = some g → g ≠ w.heap.size := fun g h => by
      rcases t1.2 with h2 | ⟨g2, h2, h3⟩
      · rw [h2] at h; have := hg g h; omega
      · rw [h2] at h; cases h; omega
    have hx1 : Bx w1 w.heap.size #[.bool true, .string (S key), .string (S val)] 106 := hx0.chg t1.1 (fun h => by have := hg _ h; omega)
    have hx2 : Bx w2 w.heap.size #[.bool true, .string (S key), .string (S val)] 106 := hx1.chg t2.1 (fun h => hg1 _ h rfl)
    have k1 : w1.cell? ⟨w.heap.size, 1, none⟩ = some (.string (S key)) := hx1.cell (j := 1) rfl
    have k2 : w2.cell? ⟨w.heap.size, 2, none⟩ = some (.string (S val)) := hx2.cell (j := 2) rfl
    have HEND : Hid (w3.ownsRow 0 5 1 v3 (l ++ entB ⟨true, key, val⟩).length (cellsB (l ++ entB ⟨true, key, val⟩)) ∧ RowTo w v w3 v3) := by
      have hrt : RowTo w v w3 v3 := (RowTo.trans ⟨Chg.of_below hB, .inl rfl⟩ t1).trans (t2.trans t3)
      refine ⟨?_, hrt⟩
      have : l ++ entB ⟨true, key, val⟩ = l ++ [112, UInt8.ofNat key.length, UInt8.ofNat val.length] ++ key ++ val := by rw [HB.out]; simp
      rw [this]
      exact o3
    have HR1 : Hid _ := R1
    have HR2 : Hid _ := R2
    have HR3 : Hid _ := R3
    subst hW
    clear R1 R2 R3 o1 o2 o3 t1 t2 t3 hx0 hx1 hx2 hg hg1 hr3 hB hzW HO HB e1 e2
    go_enter Tryz.func156, Tryz.ntmps156
    go_wp2_with (first | (at_builtin; refine wp_append_run rfl (.tmp 8) (.tmp 20) 43 43 rfl rfl rfl HR1.out ?_) | (at_builtin; refine wp_append_run rfl (.tmp 22) (.tmp 25) 43 9 rfl rfl rfl HR2.out ?_) | (at_builtin; refine wp_append_run rfl (.tmp 27) (.tmp 30) 43 9 rfl rfl rfl HR3.out ?_))
    go_ret
    exact ⟨_, rfl, HEND.out⟩
  | false =>
    obtain ⟨W, hW⟩ : ∃ W : World, W = (w.alloc (.cells #[.bool false, .string (S key), .string (S val)] 106)).alloc (.cells #[.int .u8 100, .int .u8 (key.length : Int), .int .u8 (val.length : Int)] 5) := ⟨_, rfl⟩
    have hzW : W.heap.size = w.heap.size + 1 + 1 := by rw [hW]; simp
    have hB : Below w.heap.size w W := by rw [hW]; exact ((Below.refl _ _).alloc (Nat.le_refl _) _).alloc (by simp) _
    have hx0 : Bx W w.heap.size #[.bool false, .string (S key), .string (S val)] 106 := by rw [hW]; exact (bx_new w _ _ rfl).alloc _
    have hr3 : W.ownsRow 0 5 1 (.slice (some ⟨w.heap.size + 1, 0, none⟩) 3 3) 3 (cellsB [100, UInt8.ofNat key.length, UInt8.ofNat val.length]) := by
      have := row3 (w.alloc (.cells #[.bool false, .string (S key), .string (S val)] 106)) 100 (UInt8.ofNat key.length) (UInt8.ofNat val.length) (g := w.heap.size + 1) (by simp)
      rw [e1, e2] at this
      rw [hW]; exact this
    obtain ⟨v1, w1, R1, o1, t1⟩ := app_rowTo (t := [100, UInt8.ofNat key.length, UInt8.ofNat val.length]) (own_belowK HO.out hB (Nat.le_refl _)) hr3 (by simp) (by simp; omega)
    obtain ⟨v2, w2, R2, o2, t2⟩ := app_str (t := key) o1 (by simp; omega)
    obtain ⟨v3, w3, R3, o3, t3⟩ := app_str (t := val) o2 (by simp; omega)
    have hg : ∀ g, v.ownBlock = some g → g < w.heap.size := own_lt HO.out
    have hg1 : ∀ g, v1.ownBlock = some g → g ≠ w.heap.size := fun g h => by
      rcases t1.2 with h2 | ⟨g2, h2, h3⟩
      · rw [h2] at h; have := hg g h; omega
      · rw [h2] at h; cases h; omega
    have hx1 : Bx w1 w.heap.size #[.bool false, .string (S key), .string (S val)] 106 := hx0.chg t1.1 (fun h => by have := hg _ h; omega)
    have hx2 : Bx w2 w.heap.size #[.bool false, .string (S key), .string (S val)] 106 := hx1.chg t2.1 (fun h => hg1 _ h rfl)
    have k1 : w1.cell? ⟨w.heap.size, 1, none⟩ = some (.string (S key)) := hx1.cell (j := 1) rfl
    have k2 : w2.cell? ⟨w.heap.size, 2, none⟩ = some (.string (S val)) := hx2.cell (j := 2) rfl
    have HEND : Hid (w3.ownsRow 0 5 1 v3 (l ++ entB ⟨false, key, val⟩).length (cellsB (l ++ entB ⟨false, key, val⟩)) ∧ RowTo w v w3 v3) := by
      have hrt : RowTo w v w3 v3 := (RowTo.trans ⟨Chg.of_below hB, .inl rfl⟩ t1).trans (t2.trans t3)
      refine ⟨?_, hrt⟩
      have : l ++ entB ⟨false, key, val⟩ = l ++ [100, UInt8.ofNat key.length, UInt8.ofNat val.length] ++ key ++ val := by rw [HB.out]; simp
      rw [this]
      exact o3
    have HR1 : Hid _ := R1
    have HR2 : Hid _ := R2
    have HR3 : Hid _ := R3
    subst hW
    clear R1 R2 R3 o1 o2 o3 t1 t2 t3 hx0 hx1 hx2 hg hg1 hr3 hB hzW HO HB e1 e2
    go_enter Tryz.func156, Tryz.ntmps156
    go_wp2_with (first | (at_builtin; refine wp_append_run rfl (.tmp 8) (.tmp 20) 43 43 rfl rfl rfl HR1.out ?_) | (at_builtin; refine wp_append_run rfl (.tmp 22) (.tmp 25) 43 9 rfl rfl rfl HR2.out ?_) | (at_builtin; refine wp_append_run rfl (.tmp 27) (.tmp 30) 43 9 rfl rfl rfl HR3.out ?_))
    go_ret
    exact ⟨_, rfl, HEND.out⟩
end Go.Proofs.YtdhgebdbiehchaaGreatDoor
namespace Go.Proofs.YtdhgebdbiehchaaGreatDoor
open Go.RowKit Go.Maps
set_option linter.unusedSimpArgs false
set_option linter.unusedVariables false

structure WaitAt (W : World) (bw most : Nat) (ws : List Ent) (v : Value) : Prop where
  box : Bx W bw #[.int .i64 (most : Int), .int .i64 (ws.length : Int), v] 126
  row : W.ownsRow 0 5 1 v (entsB ws).length (cellsB (entsB ws))
theorem WaitAt.chg {W W' : World} {F : Nat → Prop} {bw most : Nat} {ws : List Ent} {v : Value} (h : WaitAt W bw most ws v) (hc : Chg F W W') (hb : ¬ F bw) (hv : ∀ g, v.ownBlock = some g → ¬ F g) : WaitAt W' bw most ws v := ⟨h.box.chg hc hb, own_chg h.row hc hv⟩
theorem WaitAt.below {W W' : World} {bw most : Nat} {ws : List Ent} {v : Value} (h : WaitAt W bw most ws v) (hb : Below W.heap.size W W') : WaitAt W' bw most ws v := h.chg (F := fun _ => False) (Chg.of_below hb) (fun h => h) (fun _ _ h => h)
set_option maxHeartbeats 1600000 in
theorem newWaiting_any (blk seed bits : Nat) (w : World) :
    Calls Tryz.prog 128 #[.agg #[.int .i64 (blk : Int), .int .i64 (seed : Int), .int .i64 (bits : Int)]] w fun e w' => e = .returned (.pointer (some ⟨w.heap.size + 1, 0, none⟩)) ∧ WaitAt w' (w.heap.size + 1) blk [] (.slice none 0 0) ∧ Below w.heap.size w w' := by
  go_enter Tryz.func128, Tryz.ntmps128
  go_wp2
  go_ret
  exact ⟨rfl, ⟨bx_new _ _ _ (by simp), World.ownsRow_nil _ _ _ _⟩, ((Below.refl _ _).alloc (Nat.le_refl _) _).alloc (by simp) _⟩
set_option maxHeartbeats 1600000 in
theorem waitAny_any (bw most : Nat) (ws : List Ent) (v : Value) (w : World) (h : WaitAt w bw most ws v) :
    Calls Tryz.prog 39 #[.pointer (some ⟨bw, 0, none⟩)] w fun e w' => e = .returned (.bool (!ws.isEmpty)) ∧ w' = w := by
  have c1 : w.cell? ⟨bw, 1, none⟩ = some (.int .i64 (ws.length : Int)) := h.box.cell (j := 1) rfl
  have HV : Hid (decide (0 < ws.length) = !ws.isEmpty) := by
    show _ = _
    cases ws <;> simp
  clear h
  go_enter Tryz.func39, Tryz.ntmps39
  go_wp2
  go_ret
  exact ⟨by rw [← HV.out]; simp, rfl⟩
set_option maxHeartbeats 1600000 in
theorem clear_any (bw most : Nat) (ws : List Ent) (v : Value) (w : World) (h : WaitAt w bw most ws v) :
    Calls Tryz.prog 73 #[.pointer (some ⟨bw, 0, none⟩)] w fun e w' => e = .returned (.tuple #[]) ∧ ∃ v', WaitAt w' bw most [] v' ∧ v'.ownBlock = v.ownBlock ∧ Chg (fun k => k = bw) w w' := by
  have c1 : w.cell? ⟨bw, 1, none⟩ = some (.int .i64 (ws.length : Int)) := h.box.cell (j := 1) rfl
  have c2 : w.cell? ⟨bw, 2, none⟩ = some v := h.box.cell (j := 2) rfl
  have f1 := h.box.frozen 1
  have f2 := h.box.frozen 2
  have hC : ∀ v' : Value, Chg (fun k => k = bw) w ((w.setCell ⟨bw, 1, none⟩ (.int .i64 0)).setCell ⟨bw, 2, none⟩ v') := fun v' => (((Chg.refl (fun k => k = bw) w).set bw 1 _ (.inl rfl)).set bw 2 _ (.inl rfl))
  have hbx : ∀ v' : Value, Bx ((w.setCell ⟨bw, 1, none⟩ (.int .i64 0)).setCell ⟨bw, 2, none⟩ v') bw #[.int .i64 (most : Int), .int .i64 0, v'] 126 := fun v' => (h.box.setj 1 _).setj 2 _
  have hun := own_unlike h.box h.row (by decide)
  rcases h.row.2 with ⟨rfl, e0⟩ | ⟨g, cap, cur, rfl, hbg, hg, hnc, hcm, hcs, htake⟩
  · have HE : Hid (WaitAt ((w.setCell ⟨bw, 1, none⟩ (.int .i64 0)).setCell ⟨bw, 2, none⟩ (.slice none 0 0)) bw most [] (.slice none 0 0) ∧ Chg (fun k => k = bw) w ((w.setCell ⟨bw, 1, none⟩ (.int .i64 0)).setCell ⟨bw, 2, none⟩ (.slice none 0 0))) := ⟨⟨hbx _, World.ownsRow_nil _ _ _ _⟩, hC _⟩
    clear h hC hbx hun
    go_enter Tryz.func73, Tryz.ntmps73
    go_wp2
    refine bodyPost_end (v := .tuple #[]) ?_ rfl ⟨rfl, _, HE.out.1, rfl, HE.out.2⟩
    simp [results, Tryz.results73, go_sem]
  · have hne : ¬ g = bw := fun e => by
      rcases hun with h5 | h5
      · cases h5
      · exact h5 (by rw [← e]; rfl)
    have HE : Hid (WaitAt ((w.setCell ⟨bw, 1, none⟩ (.int .i64 0)).setCell ⟨bw, 2, none⟩ (.slice (some ⟨g, 0, none⟩) 0 cap)) bw most [] (.slice (some ⟨g, 0, none⟩) 0 cap) ∧ Chg (fun k => k = bw) w ((w.setCell ⟨bw, 1, none⟩ (.int .i64 0)).setCell ⟨bw, 2, none⟩ (.slice (some ⟨g, 0, none⟩) 0 cap))) := by
      refine ⟨⟨hbx _, ?_⟩, hC _⟩
      have := own_cut h.row (q := 0) rfl (Nat.zero_le _)
      exact own_chg this (hC _) (fun g' hg' e => hne (by have : g = g' := by simpa [Value.ownBlock] using hg'
                                                         omega))
    have hcap : (0 : Int) ≤ cap := by omega
    have hnc2 : ((entsB ws).length : Int) ≤ cap := by omega
    clear h hC hbx hun hbg hg hcs htake hcm
    go_enter Tryz.func73, Tryz.ntmps73
    go_wp2
    refine bodyPost_end (v := .tuple #[]) ?_ rfl ⟨rfl, _, HE.out.1, rfl, HE.out.2⟩
    simp [results, Tryz.results73, go_sem]
set_option maxHeartbeats 1600000 in
theorem size_any (en : Ent) (w : World) (hk : en.key.length ≤ 1000000) (hv : en.val.length ≤ 1000000) :
    Calls Tryz.prog 155 #[entV en] w fun e w' => e = .returned (.int .i64 ((entB en).length : Nat)) ∧ Below w.heap.size w w' := by
  obtain ⟨put, key, val⟩ := en
  simp only at hk hv
  have hkn : ((S key).size : Int) = key.length := by rw [S_size]
  have hvn : ((S val).size : Int) = val.length := by rw [S_size]
  have HL : Hid (((entB ⟨put, key, val⟩).length : Int) = 3 + (key.length : Int) + (val.length : Int)) := by show _ = _; rw [entB_length]; simp
  unfold entV
  go_enter Tryz.func155, Tryz.ntmps155
  go_wp2
  go_ret
  exact ⟨by rw [HL.out]; rfl, (Below.refl _ _).alloc (Nat.le_refl _) _⟩
end Go.Proofs.YtdhgebdbiehchaaGreatDoor
namespace Go.Proofs.YtdhgebdbiehchaaGreatDoor
open Go.RowKit Go.Maps
set_option linter.unusedSimpArgs false
set_option linter.unusedVariables false

set_option maxRecDepth 100000 in
set_option maxHeartbeats 3200000 in
theorem addW_any (bw most : Nat) (ws : List Ent) (en : Ent) (v : Value) (w : World) (h : WaitAt w bw most ws v) (hk : en.key.length ≤ 20) (hv : en.val.length ≤ 30) (hl : (entsB ws).length ≤ 100000) (hn : ws.length ≤ 1000) :
    Calls Tryz.prog 101 #[.pointer (some ⟨bw, 0, none⟩), entV en] w fun e w' => e = .returned (.tuple #[]) ∧ ∃ v', WaitAt w' bw most (ws ++ [en]) v' ∧ (v'.ownBlock = v.ownBlock ∨ ∃ g, v'.ownBlock = some g ∧ w.heap.size ≤ g) ∧ Chg (fun k => k = bw ∨ v.ownBlock = some k) w w' := by
  obtain ⟨W, hW⟩ : ∃ W : World, W = (w.setCell ⟨bw, 1, none⟩ (.int .i64 ((ws.length : Int) + 1))).alloc (.cells #[.bool en.put, .string (S en.key), .string (S en.val)] 106) := ⟨_, rfl⟩
  have hlt := h.box.lt
  have c1 : w.cell? ⟨bw, 1, none⟩ = some (.int .i64 (ws.length : Int)) := h.box.cell (j := 1) rfl
  have f1 := h.box.frozen 1
  have hbx1 : Bx W bw #[.int .i64 (most : Int), .int .i64 ((ws.length : Int) + 1), v] 126 := by rw [hW]; exact Bx.alloc (h.box.setj 1 _) _
  have hC0 : Chg (fun k => k = bw ∨ v.ownBlock = some k) w W := by rw [hW]; exact ((Chg.refl _ w).set bw 1 _ (.inl (.inl rfl))).alloc _
  have hzW : W.heap.size = w.heap.size + 1 := by rw [hW]; simp
  have hun := own_unlike h.box h.row (by decide)
  have hnv : v.ownBlock ≠ some bw := by
    rcases hun with h5 | h5
    · rw [h5]; simp
    · exact h5
  have hrow1 : W.ownsRow 0 5 1 v (entsB ws).length (cellsB (entsB ws)) := by
    have hcc : Chg (fun k => k = bw) w W := by rw [hW]; exact ((Chg.refl (fun k => k = bw) w).set bw 1 _ (.inl rfl)).alloc _
    exact own_chg h.row hcc (fun g hg e => hnv (by rw [hg, e]))
  have hg : ∀ g, v.ownBlock = some g → g < w.heap.size := own_lt h.row
  have hx : Bx W w.heap.size #[.bool en.put, .string (S en.key), .string (S en.val)] 106 := by
    rw [hW]
    exact bx_new _ _ _ (by simp)
  have HAP : Hid (∀ wx : World, wx.ownsRow 0 5 1 v (entsB ws).length (cellsB (entsB ws)) → _) := fun wx hx => appendTo_any v (entsB ws) en wx hx hk hv hl
  clear h
  unfold entV
  go_enter Tryz.func101, Tryz.ntmps101
  go_wp2_with fail
  rw [← hW]
  have HB1 : Hid (Bx W bw #[.int .i64 (most : Int), .int .i64 ((ws.length : Int) + 1), v] 126) := hbx1
  have c2 : W.cell? ⟨bw, 2, none⟩ = some v := hbx1.cell (j := 2) rfl
  have x0 : W.cell? ⟨w.heap.size, 0, none⟩ = some (.bool en.put) := hx.cell (j := 0) rfl
  have x1 : W.cell? ⟨w.heap.size, 1, none⟩ = some (.string (S en.key)) := hx.cell (j := 1) rfl
  have x2 : W.cell? ⟨w.heap.size, 2, none⟩ = some (.string (S en.val)) := hx.cell (j := 2) rfl
  have HR : Hid (W.ownsRow 0 5 1 v (entsB ws).length (cellsB (entsB ws))) := hrow1
  have HNV : Hid (v.ownBlock ≠ some bw) := hnv
  have HC0 : Hid (Chg (fun k => k = bw ∨ v.ownBlock = some k) w W) := hC0
  clear hbx1 hx hrow1 hnv hC0 c1 f1 hW hun
  go_region_with (first | (go_at_call 156; refine (HAP.out _ ?_).mono ?_; exact HR.out.drew; rintro e w1 ⟨v1, rfl, o1, t1⟩; obtain ⟨a1, cp1, rfl⟩ := own_len o1; have hb1 : Bx w1 bw #[.int .i64 (most : Int), .int .i64 ((ws.length : Int) + 1), v] 126 := (t1.1.keep bw (by exact HB1.out.lt) HNV.out).trans HB1.out; have d2 := hb1.cell (j := 2) rfl; have g2 := hb1.frozen 2; have HO1 : Hid _ := o1; have HT1 : Hid _ := t1; have HX1 : Hid _ := hb1; clear o1 t1 hb1))
  all_goals
    go_wp2
    have ho : w1.ownsRow 0 5 1 (.slice a1 (entsB ws ++ entB en).length cp1) (entsB ws ++ entB en).length (cellsB (entsB ws ++ entB en)) := HO1.out
    have ht := HT1.out
    have hb : Bx w1 bw #[.int .i64 (most : Int), .int .i64 ((ws.length : Int) + 1), v] 126 := HX1.out
    have hne : (Value.slice a1 (entsB ws ++ entB en).length cp1).ownBlock ≠ some bw := by
      rcases ht.2 with h2 | ⟨g, h2, h3⟩
      · rw [h2]; exact HNV.out
      · rw [h2]
        have h4 : W.heap.size ≤ g := h3
        simp; omega
    have hC1 : Chg (fun k => k = bw ∨ v.ownBlock = some k) w w1 := HC0.out.trans ((show Chg (fun k => v.ownBlock = some k) W w1 from ⟨ht.1.os, ht.1.tape, ht.1.output, ht.1.size, ht.1.keep⟩).mono (fun k _ h => .inl (.inr h)))
    have hbk : ∀ u : Value, Bx (w1.setCell ⟨bw, 2, none⟩ u) bw #[.int .i64 (most : Int), .int .i64 (((ws ++ [en]).length : Nat) : Int), u] 126 := fun u => by
      have := hb.setj 2 u
      rw [List.length_append]
      exact this
    refine bodyPost_end (v := .tuple #[]) (by simp [results, Tryz.results101, go_sem]) rfl ⟨rfl, .slice a1 (entsB ws ++ entB en).length cp1, ?_, ?_, ?_⟩
    · rw [← List.length_append]
      refine ⟨hbk _, ?_⟩
      rw [entsB_snoc]
      exact ho.kept (grown_setB _ _ _ _) (.inr hne)
    · rcases ht.2 with h2 | ⟨g, h2, h3⟩
      · exact .inl h2
      · have h4 : W.heap.size ≤ g := h3
        exact .inr ⟨g, h2, by omega⟩
    · exact hC1.set bw 2 _ (.inl (.inl rfl))
end Go.Proofs.YtdhgebdbiehchaaGreatDoor
namespace Go.Proofs.YtdhgebdbiehchaaGreatDoor
open Go.RowKit Go.Maps
set_option linter.unusedSimpArgs false
set_option linter.unusedVariables false

theorem entsB_some {ws : List Ent} (h : ws ≠ []) : 0 < (entsB ws).length := by
  cases ws with
  | nil => exact absurd rfl h
  | cons e es =>
    show 0 < (entB e ++ entsB es).length
    rw [List.length_append, entB_length]; omega
theorem row1 (W : World) (a : UInt8) {g : Nat} (hg : g = W.heap.size) : (W.alloc (.cells #[.int .u8 (a.toNat : Int)] 5)).ownsRow g 5 1 (.slice (some ⟨g, 0, none⟩) 1 1) [a].length (cellsB [a]) :=
  ⟨by simp [cellsB], .inr ⟨g, 1, _, rfl, Nat.le_refl _, bx_new W _ _ hg, by simp, by unfold maxLen; omega, rfl, rfl⟩⟩
set_option maxRecDepth 100000 in
set_option maxHeartbeats 3200000 in
theorem wBlock_any (bw most : Nat) (ws : List Ent) (v : Value) (w : World) (h : WaitAt w bw most ws v) (hH : HalvesAt w) (hne : ws ≠ []) (hn : ws.length ≤ 255) (hl : (entsB ws).length ≤ 65535) :
    Calls Tryz.prog 72 #[.pointer (some ⟨bw, 0, none⟩)] w fun e w' => ∃ g cp, e = .returned (.slice (some ⟨g, 0, none⟩) (blockB ws).length cp) ∧ w'.ownsRow w.heap.size 5 1 (.slice (some ⟨g, 0, none⟩) (blockB ws).length cp) (blockB ws).length (cellsB (blockB ws)) ∧ Below w.heap.size w w' := by
  obtain ⟨i0, hi, hz0, hz1, hz2⟩ := info_parts info_u8
  have hp := entsB_some hne
  have hlt := h.box.lt
  have c1 : w.cell? ⟨bw, 1, none⟩ = some (.int .i64 (ws.length : Int)) := h.box.cell (j := 1) rfl
  have hwk : IntKind.u8.wrap (ws.length : Int) = (ws.length : Int) := by rw [IntKind.wrap_u8]; omega
  have e1 : ((UInt8.ofNat ws.length).toNat : Int) = ws.length := by simp; omega
  obtain ⟨gv, cv, rfl, _, hgl⟩ := h.row.form (by omega)
  obtain ⟨W, hW⟩ : ∃ W : World, W = w.alloc (.cells #[.int .u8 (ws.length : Int)] 5) := ⟨_, rfl⟩
  have hB : Below w.heap.size w W := by rw [hW]; exact (Below.refl _ _).alloc (Nat.le_refl _) _
  have hzW : W.heap.size = w.heap.size + 1 := by rw [hW]; simp
  have hrow : W.ownsRow w.heap.size 5 1 (.slice (some ⟨w.heap.size, 0, none⟩) 1 1) [UInt8.ofNat ws.length].length (cellsB [UInt8.ofNat ws.length]) := by
    have := row1 w (UInt8.ofNat ws.length) rfl
    rw [e1] at this
    rw [hW]; exact this
  have HAL := appendLow_any (.slice (some ⟨w.heap.size, 0, none⟩) 1 1) [UInt8.ofNat ws.length] ((entsB ws).length : Int) 2 W w.heap.size (by omega) (by omega) (by omega) hrow (by omega) (by simp)
  have c2 : W.cell? ⟨bw, 2, none⟩ = some (.slice (some ⟨gv, 0, none⟩) (entsB ws).length cv) := (h.box.below hB hlt).cell (j := 2) rfl
  have HC2 : Hid (∀ w1 : World, Below w.heap.size w w1 → w1.cell? ⟨bw, 2, none⟩ = some (.slice (some ⟨gv, 0, none⟩) (entsB ws).length cv)) := fun w1 hb => (h.box.below hb hlt).cell (j := 2) rfl
  have HRV : Hid (∀ w1 : World, Below w.heap.size w w1 → w1.ownsRow 0 5 1 (.slice (some ⟨gv, 0, none⟩) (entsB ws).length cv) (entsB ws).length (cellsB (entsB ws))) := fun w1 hb => own_belowK h.row hb (Nat.le_refl _)
  have HH : Hid (HalvesAt w) := hH
  have HB : Hid (Below w.heap.size w W) := hB
  have HBL : Hid (blockB ws = sealL ([UInt8.ofNat ws.length] ++ lowL (entsB ws).length 2 ++ entsB ws)) := by
    show _ = _
    have : lowL ws.length 1 = [UInt8.ofNat ws.length] := by
      show [UInt8.ofNat (ws.length % 256)] = _
      rw [Nat.mod_eq_of_lt (by omega)]
    unfold blockB; rw [this]
  subst hW
  clear h hrow hH e1 hB
  go_enter Tryz.func72, Tryz.ntmps72
  go_wp2_with (first | (go_at_call 129; refine HAL.mono ?_; rintro e w1 ⟨v1, rfl, r1, b1⟩; have hB1 : Below w.heap.size w w1 := HB.out.trans b1; have d2 := HC2.out w1 hB1; have HB1 : Hid (Below w.heap.size w w1) := hB1; clear b1 hB1; have HR1 : Hid (w1.ownsRow w.heap.size 5 1 v1 ([UInt8.ofNat ws.length].length + 2) (cellsB ([UInt8.ofNat ws.length] ++ lowL ((entsB ws).length : Int).toNat 2))) := r1; clear r1) | (at_builtin; go_loud (refine wpList_append_own _ rfl (.tmp 17) (.tmp 21) 43 rfl w.heap.size 5 i0 (.int .u8 0) 1 1 Tryz.underlying43 hi hz0 hz1 hz2 rfl (by decide) _ _ _ rfl HR1.out ⟨gv, 0, none⟩ (entsB ws).length cv (cellsB (entsB ws)) rfl (by simp [cellsB_length]) (own_news (HRV.out w1 HB1.out)) (by intro u hu; obtain ⟨x, _, rfl⟩ := List.mem_map.1 hu; rfl) (by unfold maxLen; simp <;> omega) (by simp <;> omega) HB1.out.size ?_; intro v2 w2 r2 g2 _; have HB2 : Hid (Below w.heap.size w w2) := HB1.out.grown g2 HB1.out.size (own_ge HR1.out); have HR2 : Hid (w2.ownsRow w.heap.size 5 1 v2 ([UInt8.ofNat ws.length] ++ lowL (entsB ws).length 2 ++ entsB ws).length (cellsB ([UInt8.ofNat ws.length] ++ lowL (entsB ws).length 2 ++ entsB ws))) := (by rw [Int.toNat_natCast, ← cellsB_append] at r2; rw [List.length_append, List.length_append, lowL_length]; exact r2); clear r2 g2)) | (go_at_call 130; go_loud (refine (seal_any v2 _ w.heap.size w2 HR2.out HB2.out.size (by simp [lowL_length] <;> omega) (HH.out.below HB2.out HH.out.1)).mono ?_; rintro e w3 ⟨v3, rfl, r3, b3⟩; rw [← HBL.out] at r3; have hs3 : 0 < (blockB ws).length := (by rw [HBL.out]; simp [sealL] <;> omega); obtain ⟨g3, cp3, rfl, _, _⟩ := r3.form hs3; have HR3 : Hid (w3.ownsRow w.heap.size 5 1 (.slice (some ⟨g3, 0, none⟩) (blockB ws).length cp3) (blockB ws).length (cellsB (blockB ws))) := r3; have HB3 : Hid (Below w.heap.size w w3) := HB2.out.trans b3; clear r3 b3 hs3)))
  go_ret
  exact ⟨_, _, rfl, HR3.out, HB3.out⟩
end Go.Proofs.YtdhgebdbiehchaaGreatDoor
