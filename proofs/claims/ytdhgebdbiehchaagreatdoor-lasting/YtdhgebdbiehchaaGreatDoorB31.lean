/- On the way: PTake4, PStep, PStep2, PDo, KpStep. -/
import Derived.Test.YtdhgebdbiehchaaGreatDoorB30
import Derived.Deep.AppendLies
import Derived.Deep.RegionHeld3
import Derived.Deep.RegionLaw
namespace Go.Proofs.YtdhgebdbiehchaaGreatDoor
open Go.RowKit Go.Maps
set_option linter.unusedSimpArgs false
set_option linter.unusedVariables false
set_option maxRecDepth 100000
set_option maxHeartbeats 3200000
theorem own_news {W : World} {g cap : Nat} {t : List UInt8} (h : W.ownsRow 0 5 1 (.slice (some ⟨g,0,none⟩) t.length cap) t.length (cellsB t)) : ∀ j u,(cellsB t)[j]? = some u -> W.cell? ((⟨g,0,none⟩ : Addr).add j) = some u := by
 intro j u hu
 rcases h.2 with ⟨e,_⟩ | ⟨g',cap',cur,e,hb,hg,h1,h2,h3,h4⟩
 ·cases e
 ·cases e
  refine World.news_of_block hg j u ?_
  rw [<- h4,List.getElem?_take] at hu
  split at hu
  ·exact hu
  ·cases hu
def RowB (w : World) (g : Nat) (t : List UInt8) : Prop := g < w.heap.size /\ ∀ j u,(cellsB t)[j]? = some u -> w.cell? ((⟨g,0,none⟩ : Addr).add j) = some u
theorem RowB.of_own {w : World} {base g cp : Nat} {t : List UInt8} (h : w.ownsRow base 5 1 (.slice (some ⟨g,0,none⟩) t.length cp) t.length (cellsB t)) : RowB w g t := ⟨own_lt h g rfl,own_news (own_lower h (Nat.zero_le _))⟩
theorem RowB.kept {w w' : World} {g : Nat} {t : List UInt8} (h : RowB w g t) (hk : w'.heap[g]? = w.heap[g]?) (hs : w.heap.size <= w'.heap.size) : RowB w' g t := by
 refine ⟨Nat.lt_of_lt_of_le h.1 hs,fun j u hu => ?_⟩
 rw [<- h.2 j u hu]
 have hb : ((⟨g,0,none⟩ : Addr).add j).block = g := by unfold Addr.add; split <;> rfl
 unfold World.cell?
 rw [hb,hk]
theorem RowB.chg {F : Nat -> Prop} {w w' : World} {g : Nat} {t : List UInt8} (h : RowB w g t) (hc : Chg F w w') (hn : ¬ F g) : RowB w' g t := h.kept (hc.keep g h.1 hn) hc.size
theorem RowB.below {w w' : World} {n g : Nat} {t : List UInt8} (h : RowB w g t) (hb : Below n w w') (hn : g < n) : RowB w' g t := h.kept (hb.block g hn) hb.size
theorem app_row {W : World} {v : Value} {l t : List UInt8} {g0 cp : Nat} (h1 : W.ownsRow 0 5 1 v l.length (cellsB l)) (h2 : RowB W g0 t) (ht : 0 < t.length) (hl : l.length + t.length <= 1000000) :
  ∃ g cap w',(Builtin.append_ #[43,43] 43 #[v,.slice (some ⟨g0,0,none⟩) t.length cp]).run Tryz.prog W = .ok (.slice (some ⟨g,0,none⟩) ((l ++ t).length : Nat) cap) w' /\
   w'.ownsRow 0 5 1 (.slice (some ⟨g,0,none⟩) (l ++ t).length cap) (l ++ t).length (cellsB (l ++ t)) /\ W.grownBy w' v.ownBlock /\ (v.ownBlock = some g \/ g = W.heap.size) /\ g < w'.heap.size := by
 obtain ⟨i0,hi,hz0,hz1,hz2⟩ := info_parts info_u8
 obtain ⟨g,cap,w',a1,a2,a3,a4,a5⟩ := run_append_lies (P := Tryz.prog) W 43 43 0 5 i0 (.int .u8 0) 1 1 Tryz.underlying43 hi hz0 hz1 hz2 rfl (by decide) v l.length (cellsB l) h1 ⟨g0,0,none⟩ t.length cp (cellsB t) (by rw [cellsB_length]; omega) h2.2 (by intro u hu; obtain ⟨x,_,rfl⟩ := List.mem_map.1 hu; rfl) ht (by unfold maxLen; omega) (by omega) (Nat.zero_le _) _ rfl
 rw [<- cellsB_append] at a2
 rw [List.length_append]
 exact ⟨g,cap,w',a1,a2,a3,a4,a5⟩
theorem step_append_run {P : Program} {w w' : World} {ops : Array Oper} {o : Oper} {a : Act} {K : Act -> World -> Prop} {Q : Exit -> Act -> World -> Prop} {E : Prop} (hgd : o.guard = none) (s x : Operand) (t : TypeId)
  (ho : o.op = .call { callee := .builtin .append,args := #[s,x],argTypes := #[t,t] }) {v u r : Value} (hs : a.eval s = v) (hx : a.eval x = u) (hr : (Builtin.append_ #[t,t] o.type #[v,u]).run P w = .ok r w') (h : K (a.put o.dst r) w') :
  if Region.wanted o (yielded ops a.tmps) = true then Oper.wp P o a w K Q else E := by
 have hw : Region.wanted o (yielded ops a.tmps) = true := by simp [Region.wanted,hgd]
 rw [if_pos hw]
 unfold Oper.wp execOp
 simp only [ho,resolve,invoke,builtin,Sem.run_bind,Sem.run_pure,Result.andThen_ok,List.map_toArray,List.map_cons,List.map_nil,hs,hx,hr]
 exact h
theorem apS_next {W wx w' : World} {c bd : Nat} {v u : Value} (h : (wx.cell? ⟨c,0,none⟩ = some v /\ wx.cell? ⟨bd,0,none⟩ = some u) /\ Below W.heap.size W wx) (hb : Below wx.heap.size wx w') : (w'.cell? ⟨c,0,none⟩ = some v /\ w'.cell? ⟨bd,0,none⟩ = some u) /\ Below W.heap.size W w' := by
 obtain ⟨⟨h1,h2⟩,h3⟩ := h
 have f : ∀ {k : Nat} {x : Value},wx.cell? ⟨k,0,none⟩ = some x -> w'.cell? ⟨k,0,none⟩ = some x := fun {k x} hx => by
  have hlt := cell_lt (p := ⟨k,0,none⟩) hx
  rw [<- hx]
  unfold World.cell?
  rw [hb.block k hlt]
 exact ⟨⟨f h1,f h2⟩,h3.trans ⟨hb.os,hb.tape,hb.output,hb.size,fun k hk => hb.block k (Nat.lt_of_lt_of_le hk h3.size)⟩⟩
def appE (d : Dk) (t : List UInt8) : Int := if d.room < d.used + t.length then 6 else 0
def appD (d : Dk) (i : Nat) (f : Fl) (t : List UInt8) : Dk := if d.room < d.used + t.length then d else d.put i (some ⟨f.text ++ t,f.sync⟩)
theorem append1_any (E : Sent) (n : Nat) (F : Nat -> Prop) (bd : Nat) (d : Dk) (p : Pr) (i c g0 cp : Nat) (f : Fl) (t : List UInt8) (w : World) (hE : Env0 n w E) (hF : ∀ q,F q -> n <= q /\ q < w.heap.size) (hD : DiskAt w F bd d p) (hok : DkOk d) (hi : d.file i = some f) (hc : w.cell? ⟨c,0,none⟩ = some (.slice (some ⟨g0,0,none⟩) t.length cp)) (hcF : ¬ F c) (hr : RowB w g0 t) (hrF : ¬ F g0) (ht : 0 < t.length) (htl : t.length <= 1000000000) :
  Calls Tryz.prog 103 #[.pointer (some ⟨bd,0,none⟩),.pointer (some ⟨p.B i,0,none⟩),.pointer (some ⟨c,0,none⟩)] w fun e w' => e = .returned (errVal E (appE d t)) /\ (∃ p',DiskAt w' (Fx F w w') bd (appD d i f t) p') /\ Chg F w w' := by
 have c0 : w.cell? ⟨bd,0,none⟩ = some (.int .i64 (d.room : Int)) := hD.dk.cell (j := 0) rfl
 have hu := hok.used
 have hrm := hok.room
 have hw1 : IntKind.i64.wrap ((d.room : Int) - (d.used : Int)) = (d.room : Int) - (d.used : Int) := by rw [IntKind.wrap_i64]; omega
 have HU : Hid (∀ wx : World,DiskAt wx F bd d p -> _) := fun wx hx => used_any F bd d p wx hx (by omega)
 have HD : Hid (DiskAt w F bd d p) := hD
 have HE : Hid (Env0 n w E) := hE
 have HI : Hid (d.file i = some f) := hi
 have HR : Hid (RowB w g0 t) := hr
 have HF : Hid (∀ q,F q -> n <= q /\ q < w.heap.size) := hF
 have HDE : Hid (appD d i f t = if d.room < d.used + t.length then d else d.put i (some ⟨f.text ++ t,f.sync⟩)) := rfl
 have HDA : Hid (errVal E (appE d t) = errVal E (if d.room < d.used + t.length then 6 else 0)) := rfl
 have fl : f.text.length <= d.used := by
  have hil := file_le hi
  match i,hil,hi with
  | 0,_,hi => rw [file_0] at hi; unfold Dk.used; rw [hi]; simp only [lenF]; omega
  | 1,_,hi => rw [file_1] at hi; unfold Dk.used; rw [hi]; simp only [lenF]; omega
  | 2,_,hi => rw [file_2] at hi; unfold Dk.used; rw [hi]; simp only [lenF]; omega
 by_cases hroom : d.room < d.used + t.length
 ·have hg1 : ((t.length : Int) > (d.room : Int) - (d.used : Int)) := by omega
  have gr := hE.env.room
  have HG : Hid (errVal E (appE d t) = .iface 352 (.pointer (some E.room))) := by
   show _ = _
   rw [HDA.out,if_pos hroom]; rfl
  have HD2 : Hid (appD d i f t = d) := by show _ = _; rw [HDE.out,if_pos hroom]
  clear hD hE hi hr hF hok HDE HDA
  go_enter Tryz.func103,Tryz.ntmps103
  go_wp2_with fail
  go_region_held3 (fun w' => (w'.cell? ⟨c,0,none⟩ = some (.slice (some ⟨g0,0,none⟩) t.length cp) /\ w'.cell? ⟨bd,0,none⟩ = some (.int .i64 (d.room : Int))) /\ Below w.heap.size w w') (first | (exact ⟨⟨hc,c0⟩,(Below.refl _ _).drew⟩) | (assumption) | (exact apS_next (by assumption) (by assumption))) (first | (go_at_call 104; refine (HU.out _ ?_).mono ?_; exact HD.out.below (And.right (by assumption)); rintro e wu ⟨rfl,hbu⟩))
  all_goals
   have hb1 : Below w.heap.size w wu := And.right (by assumption)
   have gr1 := (HE.out.chg (F := fun _ => False) (Chg.of_below hb1) (fun _ h => h.elim)).env.room
   have HB1 : Hid (Below w.heap.size w wu) := hb1
   clear hb1 gr
   go_wp2
   go_ret
   refine ⟨by rw [HG.out]; rfl,⟨p,?_⟩,Chg.of_below HB1.out⟩
   rw [HD2.out]; exact (HD.out.below HB1.out).mono (fun k h => .inl h)
 ·have hg1 : ¬ ((t.length : Int) > (d.room : Int) - (d.used : Int)) := by omega
  have HG : Hid (errVal E (appE d t) = .nilIface) := by
   show _ = _
   rw [HDA.out,if_neg hroom]; rfl
  have HD2 : Hid (appD d i f t = d.put i (some ⟨f.text ++ t,f.sync⟩)) := by show _ = _; rw [HDE.out,if_neg hroom]
  clear hD hE hi hr hF hok HDE HDA
  go_enter Tryz.func103,Tryz.ntmps103
  go_wp2_with fail
  go_region_held3 (fun w' => (w'.cell? ⟨c,0,none⟩ = some (.slice (some ⟨g0,0,none⟩) t.length cp) /\ w'.cell? ⟨bd,0,none⟩ = some (.int .i64 (d.room : Int))) /\ Below w.heap.size w w') (first | (exact ⟨⟨hc,c0⟩,(Below.refl _ _).drew⟩) | (assumption) | (exact apS_next (by assumption) (by assumption))) (first | (go_at_call 104; refine (HU.out _ ?_).mono ?_; exact HD.out.below (And.right (by assumption)); rintro e wu ⟨rfl,hbu⟩))
  all_goals
   have hb1 : Below w.heap.size w wu := And.right (by assumption)
   have hc1 : wu.cell? ⟨c,0,none⟩ = some (.slice (some ⟨g0,0,none⟩) t.length cp) := And.left (And.left (by assumption))
   have hD1 := HD.out.below hb1
   have hr1 : RowB wu.drew g0 t := HR.out.kept (hb1.block g0 HR.out.1) hb1.size
   obtain ⟨a1,a2⟩ := hD1.files i f HI.out
   obtain ⟨g,cap,w3,hrun,hown,hgr,hat,hlt⟩ := app_row (W := wu.drew) a2.drew (cp := cp) hr1 ht (by omega)
   have b0 : wu.cell? ⟨p.B i,0,none⟩ = some (p.V i) := a1.cell (j := 0) rfl
   have fB : F (p.B i) := HD.out.fB i (by rw [HI.out]; rfl)
   have nB : ¬ (p.V i).ownBlock = some (p.B i) := by
    rcases own_unlike a1 a2 (by decide) with h5 | h5
    ·rw [h5]; intro e; cases e
    ·exact h5
   have b3 : Bx w3 (p.B i) #[p.V i,.int .i64 (f.sync : Int)] 154 := (hgr.block (p.B i) (by have := a1.lt; exact this) (fun e => nB e.symm)).trans a1
   have b30 : w3.cell? ⟨p.B i,0,none⟩ = some (p.V i) := b3.cell (j := 0) rfl
   have f30 := b3.frozen 0
   have hwz : wu.heap.size <= w3.heap.size := hgr.size
   have HEND : Hid ((∃ p',DiskAt (w3.setCell ⟨p.B i,0,none⟩ (.slice (some ⟨g,0,none⟩) (f.text ++ t).length cap)) (Fx F w w3) bd (d.put i (some ⟨f.text ++ t,f.sync⟩)) p') /\ Chg F w (w3.setCell ⟨p.B i,0,none⟩ (.slice (some ⟨g,0,none⟩) (f.text ++ t).length cap))) := by
    have hCu : Chg (fun k => k = p.B i \/ (p.V i).ownBlock = some k) wu (w3.setCell ⟨p.B i,0,none⟩ (.slice (some ⟨g,0,none⟩) (f.text ++ t).length cap)) := (((Chg.refl _ wu).drew).grown hgr (fun k e => .inl (.inr e))).set _ _ _ (.inl (.inl rfl))
    have gB : g ≠ p.B i := by
     intro e
     rcases hat with h5 | h5
     ·exact nB (by rw [h5,e])
     ·have := a1.lt
      have h6 : g = wu.heap.size := h5
      omega
    have hFA : FileAt (w3.setCell ⟨p.B i,0,none⟩ (.slice (some ⟨g,0,none⟩) (f.text ++ t).length cap)) (p.B i) (.slice (some ⟨g,0,none⟩) (f.text ++ t).length cap) ⟨f.text ++ t,f.sync⟩ := by
     refine ⟨b3.setj 0 _,hown.kept (grown_setB _ _ _ _) (.inr fun e => gB ?_)⟩
     simpa [Value.ownBlock] using e
    have hzz : (w3.setCell ⟨p.B i,0,none⟩ (.slice (some ⟨g,0,none⟩) (f.text ++ t).length cap)).heap.size = w3.heap.size := by simp
    refine ⟨⟨_,hD1.turn HI.out (fun k h => .inl h) (fun k h => Nat.lt_of_lt_of_le (HF.out k h).2 hb1.size) hCu hFA ?_⟩,?_⟩
    ·rcases hat with h5 | h5
     ·exact .inl h5.symm
     ·have h6 : g = wu.heap.size := h5
      exact .inr ⟨g,rfl,by omega,.inr ⟨by have := hb1.size; omega,hlt⟩⟩
    ·refine (Chg.of_below hb1).trans (hCu.mono ?_)
     rintro k _ (h5 | h5)
     ·rw [h5]; exact .inl fB
     ·exact .inl (HD.out.fV i (by rw [HI.out]; rfl) k h5)
   clear hb1 hD1 hr1 a1 a2 hown hgr hat b3 hwz nB fB
   have HRUN : Hid _ := hrun
   clear hrun
   go_wp2_with fail
   go_region_law (refine step_append_run rfl (.tmp 21) (.tmp 22) 43 rfl (by simp [Act.eval,Act.put]) (by simp [Act.eval,Act.put]) HRUN.out ?_)
   all_goals
    go_wp2
    go_ret
    have h7 := HEND.out
    rw [List.length_append] at h7
    obtain ⟨⟨p',h8⟩,h9⟩ := h7
    refine ⟨by rw [HG.out]; rfl,⟨p',?_⟩,h9⟩
    rw [HD2.out]
    exact h8.mono (fun k hk => by rcases hk with h | h; exact .inl h; exact .inr (by simpa using h))
def CellAt (w : World) (F : Nat -> Prop) (c : Nat) (v : Value) : Prop := w.cell? ⟨c,0,none⟩ = some v /\ ¬ F c
inductive InnerAt (w : World) (F : Nat -> Prop) (st : St) : Value -> Prop
 | app (c g cp : Nat) (ht : st.tag = 1) (hc : CellAt w F c (.slice (some ⟨g,0,none⟩) st.text.length cp)) (hr : RowB w g st.text) (hg : ¬ F g) (hp : 0 < st.text.length) (hl : st.text.length <= 1000000000) : InnerAt w F st (.func (.func 103) #[] #[.pointer (some ⟨c,0,none⟩)])
 | cut (c : Nat) (ht : st.tag = 2) (hc : CellAt w F c (.int .i64 (st.n : Int))) (hm : st.n <= 9223372036854775807) : InnerAt w F st (.func (.func 194) #[] #[.pointer (some ⟨c,0,none⟩)])
 | sync (ht : st.tag = 3) : InnerAt w F st (.func (.func 78) #[] #[])
 | rename (c c2 : Nat) (ht : st.tag = 4) (hc : CellAt w F c (.string (S (nm st.i)))) (hc2 : CellAt w F c2 (.string (S (nm st.n)))) (hn : st.n <= 2) : InnerAt w F st (.func (.func 105) #[] #[.pointer (some ⟨c,0,none⟩),.pointer (some ⟨c2,0,none⟩)])
 | remove (c : Nat) (ht : st.tag = 5) (hc : CellAt w F c (.string (S (nm st.i)))) : InnerAt w F st (.func (.func 195) #[] #[.pointer (some ⟨c,0,none⟩)])
inductive TakeAt (w : World) (F : Nat -> Prop) (st : St) : Value -> Prop
 | make (c : Nat) (ht : st.tag = 0) (hc : CellAt w F c (.string (S (nm st.i)))) (hi : st.i <= 2) : TakeAt w F st (.func (.func 102) #[] #[.pointer (some ⟨c,0,none⟩)])
 | on (cn ct : Nat) (iv : Value) (hn : CellAt w F cn (.string (S (nm st.i)))) (hi : st.i <= 2) (hc : CellAt w F ct iv) (h : InnerAt w F st iv) : TakeAt w F st (.func (.func 138) #[] #[.pointer (some ⟨cn,0,none⟩),.pointer (some ⟨ct,0,none⟩)])
theorem CellAt.turn {w w' : World} {F F' G : Nat -> Prop} {c : Nat} {v : Value} (h : CellAt w F c v) (hc : Chg G w w') (hG : ∀ k,G k -> F k) (hF : ∀ k,k < w.heap.size -> F' k -> F k) : CellAt w' F' c v := by
 have hlt := cell_lt (p := ⟨c,0,none⟩) h.1
 refine ⟨?_,fun hf => h.2 (hF c hlt hf)⟩
 rw [<- h.1]
 unfold World.cell?
 rw [hc.keep c hlt (fun hg => h.2 (hG c hg))]
theorem InnerAt.turn {w w' : World} {F F' G : Nat -> Prop} {st : St} {v : Value} (h : InnerAt w F st v) (hc : Chg G w w') (hG : ∀ k,G k -> F k) (hF : ∀ k,k < w.heap.size -> F' k -> F k) : InnerAt w' F' st v := by
 cases h with
 | app c g cp ht h1 hr hg hp hl =>
  exact .app c g cp ht (h1.turn hc hG hF) (hr.chg hc (fun hgk => hg (hG g hgk))) (fun hf => hg (hF g hr.1 hf)) hp hl
 | cut c ht h1 hm => exact .cut c ht (h1.turn hc hG hF) hm
 | sync ht => exact .sync ht
 | rename c c2 ht h1 h2 hn => exact .rename c c2 ht (h1.turn hc hG hF) (h2.turn hc hG hF) hn
 | remove c ht h1 => exact .remove c ht (h1.turn hc hG hF)
theorem TakeAt.turn {w w' : World} {F F' G : Nat -> Prop} {st : St} {v : Value} (h : TakeAt w F st v) (hc : Chg G w w') (hG : ∀ k,G k -> F k) (hF : ∀ k,k < w.heap.size -> F' k -> F k) : TakeAt w' F' st v := by
 cases h with
 | make c ht h1 hi => exact .make c ht (h1.turn hc hG hF) hi
 | on cn ct iv hn hi h1 h2 => exact .on cn ct iv (hn.turn hc hG hF) hi (h1.turn hc hG hF) (h2.turn hc hG hF)
def Took (E : Sent) (F : Nat -> Prop) (bd : Nat) (w : World) (r : Int × Dk) (e : Ending) (w' : World) : Prop := e = .returned (errVal E r.1) /\ (∃ p',DiskAt w' (Fx F w w') bd r.2 p') /\ Chg F w w'
theorem Took.after {E : Sent} {F : Nat -> Prop} {bd : Nat} {w w1 : World} {r : Int × Dk} {e : Ending} {w' : World} (h : Took E F bd w1 r e w') (hb : Below w.heap.size w w1) : Took E F bd w r e w' := by
 obtain ⟨h1,⟨p',h2⟩,h3⟩ := h
 refine ⟨h1,⟨p',h2.mono ?_⟩,(Chg.of_below hb).trans (h3.mono (fun k _ h => .inl h))⟩
 rintro k (h | h)
 ·exact .inl h
 ·exact .inr ⟨Nat.le_trans hb.size h.1,h.2⟩
theorem inner_app {E : Sent} {n : Nat} {F : Nat -> Prop} {bd : Nat} {d : Dk} {p : Pr} {st : St} {c g cp : Nat} {f : Fl} {w : World} (hE : Env0 n w E) (hF : ∀ q,F q -> n <= q /\ q < w.heap.size) (hD : DiskAt w F bd d p) (hok : DkOk d) (hi : d.file st.i = some f) (ht : st.tag = 1) (hc : CellAt w F c (.slice (some ⟨g,0,none⟩) st.text.length cp)) (hr : RowB w g st.text) (hg : ¬ F g) (hp : 0 < st.text.length) (hl : st.text.length <= 1000000000) :
  Calls Tryz.prog 103 #[.pointer (some ⟨bd,0,none⟩),.pointer (some ⟨p.B st.i,0,none⟩),.pointer (some ⟨c,0,none⟩)] w (Took E F bd w (d.take st)) := by
 have := append1_any E n F bd d p st.i c g cp f st.text w hE hF hD hok hi hc.1 hc.2 hr hg hp hl
 have he : d.take st = (appE d st.text,appD d st.i f st.text) := by
  unfold Dk.take appE appD
  rw [if_neg (by omega),hi]
  simp only [ht,if_true]
  split <;> rfl
 rw [he]
 exact this
theorem take_cut {d : Dk} {st : St} {f : Fl} (hi : d.file st.i = some f) (ht : st.tag = 2) : d.take st = (0,d.put st.i (some ⟨f.text.take st.n,min f.sync (min st.n f.text.length)⟩)) := by
 unfold Dk.take; rw [if_neg (by omega),hi]; simp [ht]
theorem take_sync {d : Dk} {st : St} {f : Fl} (hi : d.file st.i = some f) (ht : st.tag = 3) : d.take st = (0,d.put st.i (some ⟨f.text,f.text.length⟩)) := by
 unfold Dk.take; rw [if_neg (by omega),hi]; simp [ht]
theorem take_rename {d : Dk} {st : St} {f : Fl} (hi : d.file st.i = some f) (ht : st.tag = 4) : d.take st = (0,(d.put st.i none).put st.n (some f)) := by
 unfold Dk.take; rw [if_neg (by omega),hi]; simp [ht]
theorem take_remove {d : Dk} {st : St} {f : Fl} (hi : d.file st.i = some f) (ht : st.tag = 5) : d.take st = (0,d.put st.i none) := by
 unfold Dk.take; rw [if_neg (by omega),hi]; simp [ht]
theorem take_make {d : Dk} {st : St} (ht : st.tag = 0) : d.take st = (0,d.put st.i (some ⟨[],0⟩)) := by
 unfold Dk.take; rw [if_pos ht]
theorem take_none {d : Dk} {st : St} (ht : st.tag ≠ 0) (hi : d.file st.i = none) : d.take st = (2,d) := by
 unfold Dk.take; rw [if_neg ht,hi]
theorem inner_tag {w : World} {F : Nat -> Prop} {st : St} {v : Value} (h : InnerAt w F st v) : st.tag ≠ 0 := by
 cases h <;> omega
theorem onFile1_none (E : Sent) (n : Nat) (F : Nat -> Prop) (bd : Nat) (d : Dk) (p : Pr) (st : St) (cn ct : Nat) (w : World) (hE : Env0 n w E) (hD : DiskAt w F bd d p) (hup : d.down = false) (hn : CellAt w F cn (.string (S (nm st.i)))) (hi : st.i <= 2) (hf : d.file st.i = none) (ht : st.tag ≠ 0) :
  Calls Tryz.prog 138 #[.pointer (some ⟨bd,0,none⟩),.pointer (some ⟨cn,0,none⟩),.pointer (some ⟨ct,0,none⟩)] w (Took E F bd w (d.take st)) := by
 have HF := find_any E n F bd d p (S (nm st.i)) w hE hD (nm_small _)
 have HV : findV E p d (S (nm st.i)).data.toList = .tuple #[.pointer none,errVal E 2] := by
  unfold findV
  rw [S_data,nameN_nm hi,hf,hup]
  rfl
 rw [HV,errVal_pos (by decide)] at HF
 have HT : Hid (∀ (w' : World),Below w.heap.size w w' -> Took E F bd w (d.take st) (.returned (errVal E 2)) w') := fun w' hb => by
  rw [take_none ht hf]
  exact ⟨rfl,⟨p,(hD.below hb).mono (fun k h => .inl h)⟩,Chg.of_below hb⟩
 rw [errVal_pos (by decide)] at HT
 have c0 := hn.1
 clear hD hE hn HV hf
 go_enter Tryz.func138,Tryz.ntmps138
 go_wp2_with (first | (go_at_call 86; refine HF.mono ?_; rintro e w1 ⟨rfl,hb⟩))
 go_ret
 exact HT.out _ hb
theorem find_some {E : Sent} {p : Pr} {d : Dk} {i : Nat} {f : Fl} (hup : d.down = false) (hi : i <= 2) (hf : d.file i = some f) : findV E p d (S (nm i)).data.toList = .tuple #[.pointer (some ⟨p.B i,0,none⟩),.nilIface] := by
 unfold findV
 rw [S_data,nameN_nm hi,hf,hup]
 rfl
theorem hmf_any : ∀ (fn : Fn) (first cap : Array Value) (w : World),(Instr.makeFunc fn first cap).run Tryz.prog w = .ok (.func fn first cap) w := fun _ _ _ _ => rfl
theorem onFile1_app (E : Sent) (n : Nat) (F : Nat -> Prop) (bd : Nat) (d : Dk) (p : Pr) (st : St) (f : Fl) (cn ct : Nat) (c g cp : Nat) (w : World) (hE : Env0 n w E) (hF : ∀ q,F q -> n <= q /\ q < w.heap.size) (hD : DiskAt w F bd d p) (hok : DkOk d) (hup : d.down = false) (hn : CellAt w F cn (.string (S (nm st.i)))) (hi : st.i <= 2) (hf : d.file st.i = some f) (htg : st.tag = 1) (h1 : CellAt w F c (.slice (some ⟨g,0,none⟩) st.text.length cp)) (hr : RowB w g st.text) (hg : ¬ F g) (hp : 0 < st.text.length) (hl : st.text.length <= 1000000000) (hc : CellAt w F ct (.func (.func 103) #[] #[.pointer (some ⟨c,0,none⟩)])) :
  Calls Tryz.prog 138 #[.pointer (some ⟨bd,0,none⟩),.pointer (some ⟨cn,0,none⟩),.pointer (some ⟨ct,0,none⟩)] w (Took E F bd w (d.take st)) := by
 have HF := find_any E n F bd d p (S (nm st.i)) w hE hD (nm_small _)
 rw [find_some hup hi hf] at HF
 have HX : Hid (∀ w1 : World,Below w.heap.size w w1 -> Env0 n w1 E /\ DiskAt w1 F bd d p /\ ∀ q,F q -> n <= q /\ q < w1.heap.size) := fun w1 hb => ⟨hE.chg (F := fun _ => False) (Chg.of_below hb) (fun _ h => h.elim),hD.below hb,fun q hq => ⟨(hF q hq).1,Nat.lt_of_lt_of_le (hF q hq).2 hb.size⟩⟩
 have HT : Hid (∀ (w1 : World),Below w.heap.size w w1 -> Calls Tryz.prog 103 #[.pointer (some ⟨bd,0,none⟩),.pointer (some ⟨p.B st.i,0,none⟩),.pointer (some ⟨c,0,none⟩)] w1 (Took E F bd w (d.take st))) := fun w1 hb => by
  obtain ⟨q1,q2,q3⟩ := HX.out w1 hb
  have hi := InnerAt.app (st := st) c g cp htg h1 hr hg hp hl
  have hi1 := hi.turn (F' := F) (Chg.of_below (F := fun _ => False) hb) (fun _ h => h.elim) (fun _ _ h => h)
  cases hi1 with
  | app _ _ _ a1 a2 a3 a4 a5 a6 => exact ((inner_app q1 q3 q2 hok hf a1 a2 a3 a4 a5 a6).mono fun e w' h => h.after hb)
 have HC : Hid (∀ (w1 : World),Below w.heap.size w w1 -> w1.cell? ⟨ct,0,none⟩ = some (.func (.func 103) #[] #[.pointer (some ⟨c,0,none⟩)])) := fun w1 hb => (hc.turn (F' := F) (Chg.of_below (F := fun _ => False) hb) (fun _ h => h.elim) (fun _ _ h => h)).1
 have HEND : Hid (∀ (e : Ending) (w1 : World),Took E F bd w (d.take st) e w1 -> ∃ v,e = .returned v /\ Took E F bd w (d.take st) (.returned v) w1) := fun e w1 h => ⟨errVal E (d.take st).1,h.1,by rw [<- h.1]; exact h⟩
 have c0 := hn.1
 clear hD hE hn hf hc hF hok HX h1 hr
 go_enter Tryz.func138,Tryz.ntmps138
 go_wp2_with (first | (go_at_call 86; refine HF.mono ?_; rintro e w1 ⟨rfl,hb⟩; have ht1 := HC.out w1 hb) | (go_at_call 103; refine (HT.out w1 hb).mono ?_; intro e w2 hT; obtain ⟨v,rfl,hT⟩ := HEND.out _ _ hT))
 go_ret
 exact hT
theorem onFile1_cut (E : Sent) (n : Nat) (F : Nat -> Prop) (bd : Nat) (d : Dk) (p : Pr) (st : St) (f : Fl) (cn ct : Nat) (c : Nat) (w : World) (hE : Env0 n w E) (hF : ∀ q,F q -> n <= q /\ q < w.heap.size) (hD : DiskAt w F bd d p) (hok : DkOk d) (hup : d.down = false) (hn : CellAt w F cn (.string (S (nm st.i)))) (hi : st.i <= 2) (hf : d.file st.i = some f) (htg : st.tag = 2) (h1 : CellAt w F c (.int .i64 (st.n : Int))) (hm : st.n <= 9223372036854775807) (hc : CellAt w F ct (.func (.func 194) #[] #[.pointer (some ⟨c,0,none⟩)])) :
  Calls Tryz.prog 138 #[.pointer (some ⟨bd,0,none⟩),.pointer (some ⟨cn,0,none⟩),.pointer (some ⟨ct,0,none⟩)] w (Took E F bd w (d.take st)) := by
 have HF := find_any E n F bd d p (S (nm st.i)) w hE hD (nm_small _)
 rw [find_some hup hi hf] at HF
 have HX : Hid (∀ w1 : World,Below w.heap.size w w1 -> Env0 n w1 E /\ DiskAt w1 F bd d p /\ ∀ q,F q -> n <= q /\ q < w1.heap.size) := fun w1 hb => ⟨hE.chg (F := fun _ => False) (Chg.of_below hb) (fun _ h => h.elim),hD.below hb,fun q hq => ⟨(hF q hq).1,Nat.lt_of_lt_of_le (hF q hq).2 hb.size⟩⟩
 have HT : Hid (∀ (w1 : World),Below w.heap.size w w1 -> Calls Tryz.prog 194 #[.pointer (some ⟨bd,0,none⟩),.pointer (some ⟨p.B st.i,0,none⟩),.pointer (some ⟨c,0,none⟩)] w1 (Took E F bd w (d.take st))) := fun w1 hb => by
  obtain ⟨q1,q2,q3⟩ := HX.out w1 hb
  have a2 := h1.turn (F' := F) (Chg.of_below (F := fun _ => False) hb) (fun _ h => h.elim) (fun _ _ h => h)
  refine (cut1_any F bd d p st.i c st.n f w1 q2 hf a2.1 hm (fun k h => (q3 k h).2)).mono fun e w' h => Took.after ?_ hb
  rw [take_cut hf htg]
  exact h
 have HC : Hid (∀ (w1 : World),Below w.heap.size w w1 -> w1.cell? ⟨ct,0,none⟩ = some (.func (.func 194) #[] #[.pointer (some ⟨c,0,none⟩)])) := fun w1 hb => (hc.turn (F' := F) (Chg.of_below (F := fun _ => False) hb) (fun _ h => h.elim) (fun _ _ h => h)).1
 have HEND : Hid (∀ (e : Ending) (w1 : World),Took E F bd w (d.take st) e w1 -> ∃ v,e = .returned v /\ Took E F bd w (d.take st) (.returned v) w1) := fun e w1 h => ⟨errVal E (d.take st).1,h.1,by rw [<- h.1]; exact h⟩
 have c0 := hn.1
 clear hD hE hn hf hc hF hok HX h1
 go_enter Tryz.func138,Tryz.ntmps138
 go_wp2_with (first | (go_at_call 86; refine HF.mono ?_; rintro e w1 ⟨rfl,hb⟩; have ht1 := HC.out w1 hb) | (go_at_call 194; refine (HT.out w1 hb).mono ?_; intro e w2 hT; obtain ⟨v,rfl,hT⟩ := HEND.out _ _ hT))
 go_ret
 exact hT
theorem onFile1_sync (E : Sent) (n : Nat) (F : Nat -> Prop) (bd : Nat) (d : Dk) (p : Pr) (st : St) (f : Fl) (cn ct : Nat) (w : World) (hE : Env0 n w E) (hF : ∀ q,F q -> n <= q /\ q < w.heap.size) (hD : DiskAt w F bd d p) (hok : DkOk d) (hup : d.down = false) (hn : CellAt w F cn (.string (S (nm st.i)))) (hi : st.i <= 2) (hf : d.file st.i = some f) (htg : st.tag = 3) (hc : CellAt w F ct (.func (.func 78) #[] #[])) :
  Calls Tryz.prog 138 #[.pointer (some ⟨bd,0,none⟩),.pointer (some ⟨cn,0,none⟩),.pointer (some ⟨ct,0,none⟩)] w (Took E F bd w (d.take st)) := by
 have HF := find_any E n F bd d p (S (nm st.i)) w hE hD (nm_small _)
 rw [find_some hup hi hf] at HF
 have HX : Hid (∀ w1 : World,Below w.heap.size w w1 -> Env0 n w1 E /\ DiskAt w1 F bd d p /\ ∀ q,F q -> n <= q /\ q < w1.heap.size) := fun w1 hb => ⟨hE.chg (F := fun _ => False) (Chg.of_below hb) (fun _ h => h.elim),hD.below hb,fun q hq => ⟨(hF q hq).1,Nat.lt_of_lt_of_le (hF q hq).2 hb.size⟩⟩
 have HT : Hid (∀ (w1 : World),Below w.heap.size w w1 -> Calls Tryz.prog 78 #[.pointer (some ⟨bd,0,none⟩),.pointer (some ⟨p.B st.i,0,none⟩)] w1 (Took E F bd w (d.take st))) := fun w1 hb => by
  obtain ⟨q1,q2,q3⟩ := HX.out w1 hb
  refine (sync1_any F bd d p st.i f w1 q2 hf (fun k h => (q3 k h).2)).mono fun e w' h => Took.after ?_ hb
  rw [take_sync hf htg]
  exact h
 have HC : Hid (∀ (w1 : World),Below w.heap.size w w1 -> w1.cell? ⟨ct,0,none⟩ = some (.func (.func 78) #[] #[])) := fun w1 hb => (hc.turn (F' := F) (Chg.of_below (F := fun _ => False) hb) (fun _ h => h.elim) (fun _ _ h => h)).1
 have HEND : Hid (∀ (e : Ending) (w1 : World),Took E F bd w (d.take st) e w1 -> ∃ v,e = .returned v /\ Took E F bd w (d.take st) (.returned v) w1) := fun e w1 h => ⟨errVal E (d.take st).1,h.1,by rw [<- h.1]; exact h⟩
 have c0 := hn.1
 clear hD hE hn hf hc hF hok HX
 go_enter Tryz.func138,Tryz.ntmps138
 go_wp2_with (first | (go_at_call 86; refine HF.mono ?_; rintro e w1 ⟨rfl,hb⟩; have ht1 := HC.out w1 hb) | (go_at_call 78; refine (HT.out w1 hb).mono ?_; intro e w2 hT; obtain ⟨v,rfl,hT⟩ := HEND.out _ _ hT))
 go_ret
 exact hT
theorem onFile1_rename (E : Sent) (n : Nat) (F : Nat -> Prop) (bd : Nat) (d : Dk) (p : Pr) (st : St) (f : Fl) (cn ct : Nat) (c c2 : Nat) (w : World) (hE : Env0 n w E) (hF : ∀ q,F q -> n <= q /\ q < w.heap.size) (hD : DiskAt w F bd d p) (hok : DkOk d) (hup : d.down = false) (hn : CellAt w F cn (.string (S (nm st.i)))) (hi : st.i <= 2) (hf : d.file st.i = some f) (htg : st.tag = 4) (h1 : CellAt w F c (.string (S (nm st.i)))) (h2 : CellAt w F c2 (.string (S (nm st.n)))) (hnn : st.n <= 2) (hc : CellAt w F ct (.func (.func 105) #[] #[.pointer (some ⟨c,0,none⟩),.pointer (some ⟨c2,0,none⟩)])) :
  Calls Tryz.prog 138 #[.pointer (some ⟨bd,0,none⟩),.pointer (some ⟨cn,0,none⟩),.pointer (some ⟨ct,0,none⟩)] w (Took E F bd w (d.take st)) := by
 have HF := find_any E n F bd d p (S (nm st.i)) w hE hD (nm_small _)
 rw [find_some hup hi hf] at HF
 have HX : Hid (∀ w1 : World,Below w.heap.size w w1 -> Env0 n w1 E /\ DiskAt w1 F bd d p /\ ∀ q,F q -> n <= q /\ q < w1.heap.size) := fun w1 hb => ⟨hE.chg (F := fun _ => False) (Chg.of_below hb) (fun _ h => h.elim),hD.below hb,fun q hq => ⟨(hF q hq).1,Nat.lt_of_lt_of_le (hF q hq).2 hb.size⟩⟩
 have HT : Hid (∀ (w1 : World),Below w.heap.size w w1 -> Calls Tryz.prog 105 #[.pointer (some ⟨bd,0,none⟩),.pointer (some ⟨p.B st.i,0,none⟩),.pointer (some ⟨c,0,none⟩),.pointer (some ⟨c2,0,none⟩)] w1 (Took E F bd w (d.take st))) := fun w1 hb => by
  obtain ⟨q1,q2,q3⟩ := HX.out w1 hb
  have a1 := h1.turn (F' := F) (Chg.of_below (F := fun _ => False) hb) (fun _ h => h.elim) (fun _ _ h => h)
  have a2 := h2.turn (F' := F) (Chg.of_below (F := fun _ => False) hb) (fun _ h => h.elim) (fun _ _ h => h)
  refine (rename1_any F bd d p st.i st.n c c2 f w1 q2 hf hnn a1.1 a2.1 (fun k h => (q3 k h).2) a2.2).mono fun e w' h => Took.after ?_ hb
  rw [take_rename hf htg]
  exact h
 have HC : Hid (∀ (w1 : World),Below w.heap.size w w1 -> w1.cell? ⟨ct,0,none⟩ = some (.func (.func 105) #[] #[.pointer (some ⟨c,0,none⟩),.pointer (some ⟨c2,0,none⟩)])) := fun w1 hb => (hc.turn (F' := F) (Chg.of_below (F := fun _ => False) hb) (fun _ h => h.elim) (fun _ _ h => h)).1
 have HEND : Hid (∀ (e : Ending) (w1 : World),Took E F bd w (d.take st) e w1 -> ∃ v,e = .returned v /\ Took E F bd w (d.take st) (.returned v) w1) := fun e w1 h => ⟨errVal E (d.take st).1,h.1,by rw [<- h.1]; exact h⟩
 have c0 := hn.1
 clear hD hE hn hf hc hF hok HX h1 h2
 go_enter Tryz.func138,Tryz.ntmps138
 go_wp2_with (first | (go_at_call 86; refine HF.mono ?_; rintro e w1 ⟨rfl,hb⟩; have ht1 := HC.out w1 hb) | (go_at_call 105; refine (HT.out w1 hb).mono ?_; intro e w2 hT; obtain ⟨v,rfl,hT⟩ := HEND.out _ _ hT))
 go_ret
 exact hT
theorem onFile1_remove (E : Sent) (n : Nat) (F : Nat -> Prop) (bd : Nat) (d : Dk) (p : Pr) (st : St) (f : Fl) (cn ct : Nat) (c : Nat) (w : World) (hE : Env0 n w E) (hF : ∀ q,F q -> n <= q /\ q < w.heap.size) (hD : DiskAt w F bd d p) (hok : DkOk d) (hup : d.down = false) (hn : CellAt w F cn (.string (S (nm st.i)))) (hi : st.i <= 2) (hf : d.file st.i = some f) (htg : st.tag = 5) (h1 : CellAt w F c (.string (S (nm st.i)))) (hc : CellAt w F ct (.func (.func 195) #[] #[.pointer (some ⟨c,0,none⟩)])) :
  Calls Tryz.prog 138 #[.pointer (some ⟨bd,0,none⟩),.pointer (some ⟨cn,0,none⟩),.pointer (some ⟨ct,0,none⟩)] w (Took E F bd w (d.take st)) := by
 have HF := find_any E n F bd d p (S (nm st.i)) w hE hD (nm_small _)
 rw [find_some hup hi hf] at HF
 have HX : Hid (∀ w1 : World,Below w.heap.size w w1 -> Env0 n w1 E /\ DiskAt w1 F bd d p /\ ∀ q,F q -> n <= q /\ q < w1.heap.size) := fun w1 hb => ⟨hE.chg (F := fun _ => False) (Chg.of_below hb) (fun _ h => h.elim),hD.below hb,fun q hq => ⟨(hF q hq).1,Nat.lt_of_lt_of_le (hF q hq).2 hb.size⟩⟩
 have HT : Hid (∀ (w1 : World),Below w.heap.size w w1 -> Calls Tryz.prog 195 #[.pointer (some ⟨bd,0,none⟩),.pointer (some ⟨p.B st.i,0,none⟩),.pointer (some ⟨c,0,none⟩)] w1 (Took E F bd w (d.take st))) := fun w1 hb => by
  obtain ⟨q1,q2,q3⟩ := HX.out w1 hb
  have a1 := h1.turn (F' := F) (Chg.of_below (F := fun _ => False) hb) (fun _ h => h.elim) (fun _ _ h => h)
  refine (remove1_any F bd d p st.i c (.pointer (some ⟨p.B st.i,0,none⟩)) w1 q2 hi a1.1 (fun k h => (q3 k h).2)).mono fun e w' h => Took.after ?_ hb
  rw [take_remove hf htg]
  exact h
 have HC : Hid (∀ (w1 : World),Below w.heap.size w w1 -> w1.cell? ⟨ct,0,none⟩ = some (.func (.func 195) #[] #[.pointer (some ⟨c,0,none⟩)])) := fun w1 hb => (hc.turn (F' := F) (Chg.of_below (F := fun _ => False) hb) (fun _ h => h.elim) (fun _ _ h => h)).1
 have HEND : Hid (∀ (e : Ending) (w1 : World),Took E F bd w (d.take st) e w1 -> ∃ v,e = .returned v /\ Took E F bd w (d.take st) (.returned v) w1) := fun e w1 h => ⟨errVal E (d.take st).1,h.1,by rw [<- h.1]; exact h⟩
 have c0 := hn.1
 clear hD hE hn hf hc hF hok HX h1
 go_enter Tryz.func138,Tryz.ntmps138
 go_wp2_with (first | (go_at_call 86; refine HF.mono ?_; rintro e w1 ⟨rfl,hb⟩; have ht1 := HC.out w1 hb) | (go_at_call 195; refine (HT.out w1 hb).mono ?_; intro e w2 hT; obtain ⟨v,rfl,hT⟩ := HEND.out _ _ hT))
 go_ret
 exact hT
theorem onFile1_any (E : Sent) (n : Nat) (F : Nat -> Prop) (bd : Nat) (d : Dk) (p : Pr) (st : St) (cn ct : Nat) (iv : Value) (w : World) (hE : Env0 n w E) (hF : ∀ q,F q -> n <= q /\ q < w.heap.size) (hD : DiskAt w F bd d p) (hok : DkOk d) (hup : d.down = false) (hn : CellAt w F cn (.string (S (nm st.i)))) (hi : st.i <= 2) (hc : CellAt w F ct iv) (h : InnerAt w F st iv) :
  Calls Tryz.prog 138 #[.pointer (some ⟨bd,0,none⟩),.pointer (some ⟨cn,0,none⟩),.pointer (some ⟨ct,0,none⟩)] w (Took E F bd w (d.take st)) := by
 cases hf : d.file st.i with
 | none => exact onFile1_none E n F bd d p st cn ct w hE hD hup hn hi hf (inner_tag h)
 | some f =>
  cases h with
  | app c g cp ht h1 hr hg hp hl => exact onFile1_app E n F bd d p st f cn ct c g cp w hE hF hD hok hup hn hi hf ht h1 hr hg hp hl hc
  | cut c ht h1 hm => exact onFile1_cut E n F bd d p st f cn ct c w hE hF hD hok hup hn hi hf ht h1 hm hc
  | sync ht => exact onFile1_sync E n F bd d p st f cn ct w hE hF hD hok hup hn hi hf ht hc
  | rename c c2 ht h1 h2 hn2 => exact onFile1_rename E n F bd d p st f cn ct c c2 w hE hF hD hok hup hn hi hf ht h1 h2 hn2 hc
  | remove c ht h1 => exact onFile1_remove E n F bd d p st f cn ct c w hE hF hD hok hup hn hi hf ht h1 hc
theorem make_took (E : Sent) (F : Nat -> Prop) (bd : Nat) (d : Dk) (p : Pr) (st : St) (c : Nat) (w : World) (hD : DiskAt w F bd d p) (ht : st.tag = 0) (hi : st.i <= 2) (hc : CellAt w F c (.string (S (nm st.i)))) (hFz : ∀ q,F q -> q < w.heap.size) :
  Calls Tryz.prog 102 #[.pointer (some ⟨bd,0,none⟩),.pointer (some ⟨c,0,none⟩)] w (Took E F bd w (d.take st)) := by
 have := make1_any F bd d p st.i c w hD hi hc.1 hFz
 rw [take_make ht]
 exact this
def Dk.one (d : Dk) (st : St) : Int × Dk := match d.count with
 | (false,d') => (8,d')
 | (true,d') => d'.take st
theorem one_no {d d' : Dk} {st : St} (h : d.count = (false,d')) : d.one st = (8,d') := by unfold Dk.one; rw [h]
theorem one_yes {d d' : Dk} {st : St} (h : d.count = (true,d')) : d.one st = d'.take st := by unfold Dk.one; rw [h]
theorem Took.later {E : Sent} {F : Nat -> Prop} {bd : Nat} {w w1 : World} {r : Int × Dk} {e : Ending} {w' : World} (h : Took E F bd w1 r e w') (hc : Chg F w w1) : Took E F bd w r e w' := by
 obtain ⟨h1,⟨p',h2⟩,h3⟩ := h
 refine ⟨h1,⟨p',h2.mono ?_⟩,hc.trans (h3.mono (fun k _ h => .inl h))⟩
 rintro k (h | h)
 ·exact .inl h
 ·exact .inr ⟨Nat.le_trans hc.size h.1,h.2⟩
theorem do_make (E : Sent) (n : Nat) (F : Nat -> Prop) (bd : Nat) (d : Dk) (p : Pr) (st : St) (s1 s2 : ByteArray) (c : Nat) (w : World) (hE : Env0 n w E) (hF : ∀ q,F q -> n <= q /\ q < w.heap.size) (hD : DiskAt w F bd d p) (hok : DkOk d) (hup : d.down = false) (ht : st.tag = 0) (hc : CellAt w F c (.string (S (nm st.i)))) (hi : st.i <= 2) :
  Calls Tryz.prog 137 #[.pointer (some ⟨bd,0,none⟩),.agg #[.string s1,.string s2,.func (.func 102) #[] #[.pointer (some ⟨c,0,none⟩)]]] w (Took E F bd w (d.one st)) := by
 obtain ⟨w0,hw0⟩ : ∃ w0 : World,w0 = w.alloc (.cells #[.string s1,.string s2,.func (.func 102) #[] #[.pointer (some ⟨c,0,none⟩)]] 86) := ⟨_,rfl⟩
 have hB0 : Below w.heap.size w w0 := by rw [hw0]; exact (Below.refl _ _).alloc (Nat.le_refl _) _
 have hC0 : Chg F w w0 := Chg.of_below hB0
 have hz0 : w.heap.size < w0.heap.size := by rw [hw0]; simp
 have hx0 : Bx w0 w.heap.size #[.string s1,.string s2,.func (.func 102) #[] #[.pointer (some ⟨c,0,none⟩)]] 86 := by rw [hw0]; exact bx_new w _ _ rfl
 have nF : ¬ F w.heap.size := fun h => by have := (hF _ h).2; omega
 have HC := count_any E n F bd d p w0 (hE.chg hC0 (fun q hq => (hF q hq).1)) (fun q hq => ⟨(hF q hq).1,Nat.lt_of_lt_of_le (hF q hq).2 hB0.size⟩) (hD.below hB0) hok hup
 have hokc := hok.count
 have HK : Hid (∀ w1 : World,Chg F w0 w1 -> w1.cell? ⟨w.heap.size,2,none⟩ = some (.func (.func 102) #[] #[.pointer (some ⟨c,0,none⟩)])) := fun w1 hc => (hx0.chg hc nF).cell (j := 2) rfl
 obtain ⟨b,d',hct⟩ : ∃ b d',d.count = (b,d') := ⟨_,_,rfl⟩
 cases b with
 | false =>
  rw [countE_no hct,hct,errVal_pos (by decide)] at HC
  have HT : Hid (∀ (w1 : World),(∃ p',DiskAt w1 F bd d' p') -> Chg F w0 w1 -> Took E F bd w (d.one st) (.returned (errVal E 8)) w1) := fun w1 ⟨p',h1⟩ h2 => by
   rw [one_no hct]
   exact ⟨rfl,⟨p',h1.mono (fun k h => .inl h)⟩,hC0.trans (h2.mono (fun k _ h => .inl h))⟩
  rw [errVal_pos (by decide)] at HT
  subst hw0
  clear hD hE hF hok hokc HK hct hC0 hB0 hx0 nF hz0
  go_enter Tryz.func137,Tryz.ntmps137
  go_wp2_with (first | (go_at_call 184; refine HC.mono ?_; rintro e w1 ⟨rfl,hD1,hC1⟩))
  go_ret
  exact HT.out _ hD1 hC1
 | true =>
  have hup1 : d'.down = false := by
   have := count_same (d := d) (by rw [hct])
   rw [hct] at this
   exact this.1.trans hup
  rw [countE_ok hct,hct] at HC
  rw [hct] at hokc
  have hok1 : DkOk d' := hokc
  have HT : Hid (∀ (w1 : World),(∃ p',DiskAt w1 F bd d' p') -> Chg F w0 w1 -> Calls Tryz.prog 102 #[.pointer (some ⟨bd,0,none⟩),.pointer (some ⟨c,0,none⟩)] w1 (Took E F bd w (d.one st))) := fun w1 ⟨p',hD1⟩ h2 => by
   have hC : Chg F w w1 := hC0.trans (h2.mono (fun k _ h => .inl h))
   rw [one_yes hct]
   exact (make_took E F bd _ p' st c w1 hD1 ht hi (hc.turn (F' := F) hC (fun _ h => h) (fun _ _ h => h)) (fun q hq => Nat.lt_of_lt_of_le (hF q hq).2 hC.size)).mono fun e w' h => h.later hC
  have HEND : Hid (∀ (e : Ending) (w1 : World),Took E F bd w (d.one st) e w1 -> ∃ v,e = .returned v /\ Took E F bd w (d.one st) (.returned v) w1) := fun e w1 h => ⟨errVal E (d.one st).1,h.1,by rw [<- h.1]; exact h⟩
  have hen : errVal E 0 = .nilIface := rfl
  rw [hen] at HC
  subst hw0
  clear hD hE hF hok hokc hct hC0 hB0 hx0 nF hz0 hc hok1 hup1
  go_enter Tryz.func137,Tryz.ntmps137
  go_wp2_with (first | (go_at_call 184; refine HC.mono ?_; rintro e w1 ⟨rfl,hD1,hC1⟩; have hk2 := HK.out w1 hC1) | (go_at_call 102; refine (HT.out w1 hD1 hC1).mono ?_; intro e w2 hT; obtain ⟨v,rfl,hT⟩ := HEND.out _ _ hT))
  go_ret
  exact hT
theorem do_on (E : Sent) (n : Nat) (F : Nat -> Prop) (bd : Nat) (d : Dk) (p : Pr) (st : St) (s1 s2 : ByteArray) (cn ct : Nat) (iv : Value) (w : World) (hE : Env0 n w E) (hF : ∀ q,F q -> n <= q /\ q < w.heap.size) (hD : DiskAt w F bd d p) (hok : DkOk d) (hup : d.down = false) (hn : CellAt w F cn (.string (S (nm st.i)))) (hi : st.i <= 2) (hc : CellAt w F ct iv) (h : InnerAt w F st iv) :
  Calls Tryz.prog 137 #[.pointer (some ⟨bd,0,none⟩),.agg #[.string s1,.string s2,.func (.func 138) #[] #[.pointer (some ⟨cn,0,none⟩),.pointer (some ⟨ct,0,none⟩)]]] w (Took E F bd w (d.one st)) := by
 obtain ⟨w0,hw0⟩ : ∃ w0 : World,w0 = w.alloc (.cells #[.string s1,.string s2,.func (.func 138) #[] #[.pointer (some ⟨cn,0,none⟩),.pointer (some ⟨ct,0,none⟩)]] 86) := ⟨_,rfl⟩
 have hB0 : Below w.heap.size w w0 := by rw [hw0]; exact (Below.refl _ _).alloc (Nat.le_refl _) _
 have hC0 : Chg F w w0 := Chg.of_below hB0
 have hz0 : w.heap.size < w0.heap.size := by rw [hw0]; simp
 have hx0 : Bx w0 w.heap.size #[.string s1,.string s2,.func (.func 138) #[] #[.pointer (some ⟨cn,0,none⟩),.pointer (some ⟨ct,0,none⟩)]] 86 := by rw [hw0]; exact bx_new w _ _ rfl
 have nF : ¬ F w.heap.size := fun h => by have := (hF _ h).2; omega
 have HC := count_any E n F bd d p w0 (hE.chg hC0 (fun q hq => (hF q hq).1)) (fun q hq => ⟨(hF q hq).1,Nat.lt_of_lt_of_le (hF q hq).2 hB0.size⟩) (hD.below hB0) hok hup
 have hokc := hok.count
 have HK : Hid (∀ w1 : World,Chg F w0 w1 -> w1.cell? ⟨w.heap.size,2,none⟩ = some (.func (.func 138) #[] #[.pointer (some ⟨cn,0,none⟩),.pointer (some ⟨ct,0,none⟩)])) := fun w1 hc => (hx0.chg hc nF).cell (j := 2) rfl
 obtain ⟨b,d',hct⟩ : ∃ b d',d.count = (b,d') := ⟨_,_,rfl⟩
 cases b with
 | false =>
  rw [countE_no hct,hct,errVal_pos (by decide)] at HC
  have HT : Hid (∀ (w1 : World),(∃ p',DiskAt w1 F bd d' p') -> Chg F w0 w1 -> Took E F bd w (d.one st) (.returned (errVal E 8)) w1) := fun w1 ⟨p',h1⟩ h2 => by
   rw [one_no hct]
   exact ⟨rfl,⟨p',h1.mono (fun k h => .inl h)⟩,hC0.trans (h2.mono (fun k _ h => .inl h))⟩
  rw [errVal_pos (by decide)] at HT
  subst hw0
  clear hD hE hF hok hokc HK hct hC0 hB0 hx0 nF hz0
  go_enter Tryz.func137,Tryz.ntmps137
  go_wp2_with (first | (go_at_call 184; refine HC.mono ?_; rintro e w1 ⟨rfl,hD1,hC1⟩))
  go_ret
  exact HT.out _ hD1 hC1
 | true =>
  have hup1 : d'.down = false := by
   have := count_same (d := d) (by rw [hct])
   rw [hct] at this
   exact this.1.trans hup
  rw [countE_ok hct,hct] at HC
  rw [hct] at hokc
  have hok1 : DkOk d' := hokc
  have HT : Hid (∀ (w1 : World),(∃ p',DiskAt w1 F bd d' p') -> Chg F w0 w1 -> Calls Tryz.prog 138 #[.pointer (some ⟨bd,0,none⟩),.pointer (some ⟨cn,0,none⟩),.pointer (some ⟨ct,0,none⟩)] w1 (Took E F bd w (d.one st))) := fun w1 ⟨p',hD1⟩ h2 => by
   have hC : Chg F w w1 := hC0.trans (h2.mono (fun k _ h => .inl h))
   rw [one_yes hct]
   exact (onFile1_any E n F bd _ p' st cn ct iv w1 (hE.chg hC (fun q hq => (hF q hq).1)) (fun q hq => ⟨(hF q hq).1,Nat.lt_of_lt_of_le (hF q hq).2 hC.size⟩) hD1 hok1 hup1 (hn.turn (F' := F) hC (fun _ h => h) (fun _ _ h => h)) hi (hc.turn (F' := F) hC (fun _ h => h) (fun _ _ h => h)) (h.turn (F' := F) hC (fun _ h => h) (fun _ _ h => h))).mono fun e w' h => h.later hC
  have HEND : Hid (∀ (e : Ending) (w1 : World),Took E F bd w (d.one st) e w1 -> ∃ v,e = .returned v /\ Took E F bd w (d.one st) (.returned v) w1) := fun e w1 h => ⟨errVal E (d.one st).1,h.1,by rw [<- h.1]; exact h⟩
  have hen : errVal E 0 = .nilIface := rfl
  rw [hen] at HC
  subst hw0
  clear hD hE hF hok hokc hct hC0 hB0 hx0 nF hz0 hc hok1 hup1 h hn
  go_enter Tryz.func137,Tryz.ntmps137
  go_wp2_with (first | (go_at_call 184; refine HC.mono ?_; rintro e w1 ⟨rfl,hD1,hC1⟩; have hk2 := HK.out w1 hC1) | (go_at_call 138; refine (HT.out w1 hD1 hC1).mono ?_; intro e w2 hT; obtain ⟨v,rfl,hT⟩ := HEND.out _ _ hT))
  go_ret
  exact hT
theorem do_any (E : Sent) (n : Nat) (F : Nat -> Prop) (bd : Nat) (d : Dk) (p : Pr) (st : St) (s1 s2 : ByteArray) (tv : Value) (w : World) (hE : Env0 n w E) (hF : ∀ q,F q -> n <= q /\ q < w.heap.size) (hD : DiskAt w F bd d p) (hok : DkOk d) (hup : d.down = false) (ht : TakeAt w F st tv) :
  Calls Tryz.prog 137 #[.pointer (some ⟨bd,0,none⟩),.agg #[.string s1,.string s2,tv]] w (Took E F bd w (d.one st)) := by
 cases ht with
 | make c ht hc hi => exact do_make E n F bd d p st s1 s2 c w hE hF hD hok hup ht hc hi
 | on cn ct iv hn hi hc h => exact do_on E n F bd d p st s1 s2 cn ct iv w hE hF hD hok hup hn hi hc h
theorem step_call_run {P : Program} {w : World} {ops : Array Oper} {o : Oper} {a : Act} {K : Act -> World -> Prop} {Q : Exit -> Act -> World -> Prop} {E : Prop} (hgd : o.guard = none) (f : FuncId) (x : Operand) (t : TypeId)
  (ho : o.op = .call { callee := .value (.func f),args := #[x],argTypes := #[t] }) {u : Value} (hx : a.eval x = u) {R : Ending -> World -> Prop} (hen : (callFunc f #[u]).run P w = .ok (.enter f #[u]) w) (hc : Calls P f #[u] w R) (h : ∀ e w',R e w' -> ∃ v,e = .returned v /\ K (a.put o.dst v) w') :
  if Region.wanted o (yielded ops a.tmps) = true then Oper.wp P o a w K Q else E := by
 have hw : Region.wanted o (yielded ops a.tmps) = true := by simp [Region.wanted,hgd]
 rw [if_pos hw]
 unfold Oper.wp execOp
 have hf : a.eval (.func f) = .func (.func f) #[] #[] := rfl
 simp only [ho,resolve,invoke,hf,hx,Deferred.ofValue,Sem.run_bind,Sem.run_pure,Result.andThen_ok,List.map_toArray,List.map_cons,List.map_nil]
 rw [show #[] ++ #[u] ++ #[] = #[u] by simp,hen,Oper.upon_enter]
 refine hc.mono ?_
 intro e w' hr
 obtain ⟨v,rfl,hk⟩ := h e w' hr
 exact hk
end Go.Proofs.YtdhgebdbiehchaaGreatDoor
