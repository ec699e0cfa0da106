/- On the way: PWrite, PWrite2, PFlush, POpen, DkOps, RfAt, RfStep, RfOne, RfSync, PAdd. -/
import Derived.Test.YtdhgebdbiehchaaGreatDoorB36
namespace Go.Proofs.YtdhgebdbiehchaaGreatDoor
open Go.RowKit Go.Maps
set_option linter.unusedSimpArgs false
set_option linter.unusedVariables false
set_option maxRecDepth 100000
set_option maxHeartbeats 1600000
theorem DiskAt.setW {W : World} {F : Nat -> Prop} {bd : Nat} {d : Dk} {p : Pr} (h : DiskAt W F bd d p) (o : Option Nat) (ws : List Ent) : DiskAt W F bd { d with opn := o,waits := ws } p :=
 ⟨h.dk,h.map,h.coming,h.files,h.dB,h.dV,h.fd,h.fm,h.fc,h.fB,h.fV,h.small⟩
theorem StoreAt.waited {W W' : World} {G : Nat -> Prop} {bs : Nat} {d : Dk} {q : StP} {blk bw : Nat} {ws' : List Ent} {v' : Value} (h : StoreAt W G bs d q) (hGz : ∀ k,G k -> k < W.heap.size) (ho : d.opn = some blk) (hb : q.ow = some bw) (hc : Chg (fun k => k = bw \/ q.v.ownBlock = some k) W W') (hw : WaitAt W' bw blk ws' v') (hv : v'.ownBlock = q.v.ownBlock \/ ∃ g,v'.ownBlock = some g /\ W.heap.size <= g) :
  StoreAt W' (Fx G W W') bs { d with waits := ws' } { q with v := v' } := by
 have h1 := h.wait
 rw [ho,hb] at h1
 have hwa : WaitAt W bw blk d.waits q.v := h1
 have hne : bs ≠ bw := bx_unlike h.box hwa.box (by decide)
 have hnv : ¬ q.v.ownBlock = some bs := by
  rcases own_unlike h.box hwa.row (by decide) with h5 | h5
  ·rw [h5]; intro e; cases e
  ·exact h5
 refine ⟨h.box.chg hc (by rintro (e | e); exact hne e; exact hnv e),?_,?_,h.fs,h.fw,?_,.inl h.gs,fun k hk => .inl (h.gd k hk),fun b hb => .inl (h.gw b hb),?_⟩
 ·have := (h.disk.keep hc (by rintro k hk (e | e); exact h.fw bw hb (by rw [<- e]; exact hk); exact h.fv k e hk)).setW d.opn ws'
  exact this
 ·show WaitIs W' d.opn ws' q.ow v'
  rw [ho,hb]; exact hw
 ·intro g hg
  rcases hv with hv | ⟨g',hg',hz⟩
  ·exact h.fv g (by rw [<- hv]; exact hg)
  ·intro hf
   have h7 : some g' = some g := hg'.symm.trans hg
   cases h7
   have := hGz _ (h.gd _ hf)
   omega
 ·intro g hg
  rcases hv with hv | ⟨g',hg',hz⟩
  ·exact .inl (h.gv g (by rw [<- hv]; exact hg))
  ·have h7 : some g' = some g := hg'.symm.trans hg
   cases h7
   exact .inr ⟨hz,own_lt hw.row _ hg'⟩
theorem Done.later {E : Sent} {G : Nat -> Prop} {bs : Nat} {w w1 : World} {d' : Dk} {w' : World} (h : Done E G bs w1 d' w') (hb : Below w.heap.size w w1) : Done E G bs w d' w' := by
 obtain ⟨⟨q',h2⟩,h3⟩ := h
 refine ⟨⟨q',h2.mono ?_⟩,(Chg.of_below hb).trans (h3.mono (fun k _ h => .inl h))⟩
 rintro k (h | h)
 ·exact .inl h
 ·exact .inr ⟨Nat.le_trans hb.size h.1,h.2⟩
theorem Done.then {E : Sent} {G : Nat -> Prop} {bs : Nat} {w w1 : World} {d1 d' : Dk} {w' : World} (h : Done E G bs w d1 w1) (k : Done E (Fx G w w1) bs w1 d' w') : Done E G bs w d' w' := by
 obtain ⟨_,h3⟩ := h
 obtain ⟨⟨q',k2⟩,k3⟩ := k
 exact ⟨⟨q',k2.mono (fx_trans h3.size k3.size)⟩,h3.trans k3⟩
theorem Made.form {w : World} {st : St} {g : Option Nat} {e : Ending} {w' : World} (h : Made w st g e w') : ∃ s1 s2 k caps,e = .returned (.agg #[.string s1,.string s2,.func (.func k) #[] caps]) /\ (∀ F : Nat -> Prop,(∀ q,F q -> q < w.heap.size) -> (∀ q,g = some q -> ¬ F q) -> TakeAt w' F st (.func (.func k) #[] caps)) /\ Below w.heap.size w w' := h
theorem steps_one {w2 : World} {F : Nat -> Prop} {st : St} {s1 s2 : ByteArray} {k : Nat} {caps : Array Value} (hF : ∀ q,F q -> q < w2.heap.size) (hT : TakeAt w2 F st (.func (.func k) #[] caps)) (hs : StFine st) : StepsAt (w2.alloc (.cells #[.string s1,.string s2,.func (.func k) #[] caps] 86)) F w2.heap.size #[.string s1,.string s2,.func (.func k) #[] caps] [st] := by
 refine ⟨bx_new w2 _ _ rfl,fun h => absurd (hF _ h) (by omega),?_⟩
 intro j s hj
 cases j with
 | zero =>
  simp at hj
  subst hj
  exact ⟨s1,s2,_,rfl,rfl,rfl,hT.turn (Chg.of_below (F := fun _ => False) ((Below.refl _ _).alloc (Nat.le_refl _) _)) (fun _ h => h.elim) (fun _ _ h => h),hs⟩
 | succ j => simp at hj
theorem hok_waits {d : Dk} (h : DkOk d) : (entsB d.waits).length <= 65535 := by
 have h1 := h.ents
 have h2 := h.most
 have : ∀ l : List Ent,(∀ e ∈ l,EntOk e) -> (entsB l).length <= 53 * l.length := by
  intro l
  induction l with
  | nil => intro _; simp [entsB]
  | cons e es ih =>
   intro hh
   have := ih (fun x hx => hh x (by simp [hx]))
   have he := hh e (by simp)
   have hl := entB_length e
   show (entB e ++ entsB es).length <= _
   obtain ⟨_,a2,a3,_⟩ := he
   rw [List.length_append,List.length_cons]; omega
 have := this _ h1
 omega
theorem write_eq (d : Dk) : d.write = if (d.steps [stAppend 0 (blockB d.waits)]).1 = 0 then (0,{ (d.steps [stAppend 0 (blockB d.waits)]).2 with waits := [] }) else d.steps [stAppend 0 (blockB d.waits)] := by
 unfold Dk.write
 generalize d.steps [stAppend 0 (blockB d.waits)] = r
 obtain ⟨e,d'⟩ := r
 rfl
theorem done_clear {E : Sent} {G : Nat -> Prop} {bs blk : Nat} {w w4 : World} {rd : Dk} (hG : ∀ k,G k -> k < w.heap.size) (h : Done E G bs w rd w4) (ho : rd.opn = some blk) :
  ∃ bw4,w4.cell? ⟨bs,1,none⟩ = some (.pointer (some ⟨bw4,0,none⟩)) /\ Calls Tryz.prog 73 #[.pointer (some ⟨bw4,0,none⟩)] w4 fun e w' => e = .returned (.tuple #[]) /\ Done E G bs w { rd with waits := [] } w' := by
 obtain ⟨⟨q4,h1⟩,h2⟩ := h
 have hw := h1.wait
 rw [ho] at hw
 obtain ⟨bw4,hb,hwa⟩ := wait_some hw
 have c1 : w4.cell? ⟨bs,1,none⟩ = some (optP q4.ow) := h1.box.cell (j := 1) rfl
 rw [hb] at c1
 refine ⟨bw4,c1,(clear_any bw4 blk rd.waits q4.v w4 hwa).mono ?_⟩
 rintro e w5 ⟨rfl,v',k1,k2,k3⟩
 have hGz : ∀ k,Fx G w w4 k -> k < w4.heap.size := fun k hk => by
  rcases hk with hk | hk
  ·exact Nat.lt_of_lt_of_le (hG k hk) h2.size
  ·exact hk.2
 have hst := h1.waited hGz ho hb (k3.mono (fun k _ h => .inl h)) k1 (.inl k2)
 exact ⟨rfl,⟨_,hst.mono (fx_trans h2.size k3.size)⟩,h2.trans (k3.mono (fun k _ e => by subst e; exact h1.gw _ hb))⟩
theorem steps_call {E : Sent} {n : Nat} {G : Nat -> Prop} {bs : Nat} {d : Dk} {q : StP} {st : St} {og : Option Nat} {w w1 w2 : World} {e : Ending} (hE : Env0 n w E) (hG : ∀ k,G k -> n <= k /\ k < w.heap.size) (hS : StoreAt w G bs d q) (hok : DkOk d) (hup : d.down = false) (hst : StFine st) (hb : Below w.heap.size w w1) (hM : Made w1 st og e w2) (hg : ∀ g,og = some g -> w.heap.size <= g) :
  ∃ s1 s2 k caps,e = .returned (.agg #[.string s1,.string s2,.func (.func k) #[] caps]) /\ Calls Tryz.prog 42 #[.pointer (some ⟨bs,0,none⟩),.slice (some ⟨w2.heap.size,0,none⟩) 1 1] (w2.alloc (.cells #[.string s1,.string s2,.func (.func k) #[] caps] 86)) fun e w' => ∃ v,e = .returned v /\ FaultIs w' E (d.steps [st]).1 v /\ Done E G bs w (d.steps [st]).2 w' := by
 obtain ⟨s1,s2,k,caps,rfl,hT,hb2⟩ := hM
 refine ⟨s1,s2,k,caps,rfl,?_⟩
 have hz := hb.size
 have hz2 := hb2.size
 have hF : ∀ x,q.Fd x -> x < w.heap.size := fun x hx => (hG x (hS.gd x hx)).2
 have hB2 : Below w.heap.size w w2 := hb.trans (hb2.mono hz)
 have hB3 : Below w.heap.size w (w2.alloc (.cells #[.string s1,.string s2,.func (.func k) #[] caps] 86)) := hB2.alloc (by omega) _
 have hTk := hT q.Fd (fun x hx => Nat.lt_of_lt_of_le (hF x hx) hz) (fun x hx hf => by have := hg x hx; have := hF x hf; omega)
 have h := storeDo_any E n G bs d q w2.heap.size 1 _ [st] _ (hE.chg (F := fun _ => False) (Chg.of_below hB3) (fun _ h => h.elim)) (fun k hk => ⟨(hG k hk).1,Nat.lt_of_lt_of_le (hG k hk).2 hB3.size⟩) (hS.below hB3) hok hup (steps_one (fun x hx => by have := hF x hx; omega) hTk hst) (by simp) (by simp)
 exact h.mono fun e w' ⟨v,h1,h2,h3⟩ => ⟨v,h1,h2,h3.later hB3⟩
theorem append_log (g cp : Nat) (t : List UInt8) (w : World) (hr : w.ownsRow 0 5 1 (.slice (some ⟨g,0,none⟩) t.length cp) t.length (cellsB t)) (hp : 0 < t.length) (hl : t.length <= 1000000000) : Calls Tryz.prog 55 #[.string ⟨#[108,111,103]⟩,.slice (some ⟨g,0,none⟩) t.length cp] w (Made w (stAppend 0 t) (some g)) := by
 rw [S_log]
 exact appendS_any 0 g cp t w (by omega) (RowB.of_own hr) hp hl
theorem sync_log (w : World) : Calls Tryz.prog 43 #[.string ⟨#[108,111,103]⟩] w (Made w (stSync 0) none) := by
 rw [S_log]
 exact syncS_any 0 w (by omega)
theorem fault_nil {w : World} {E : Sent} {v : Value} (h : FaultIs w E 0 v) : v = .nilIface := by
 rcases h with ⟨_,h⟩ | ⟨h,_⟩
 ·exact h
 ·exact absurd rfl h
theorem fault_some {w : World} {E : Sent} {e : Int} {v : Value} (h : FaultIs w E e v) (he : e ≠ 0) : ∃ b,v = .iface 128 (.pointer (some ⟨b,0,none⟩)) := by
 rcases h with ⟨h,_⟩ | ⟨_,b,h,_⟩
 ·exact absurd h he
 ·exact ⟨b,h⟩
theorem blockB_len (ws : List Ent) : (blockB ws).length = 7 + (entsB ws).length := by simp [blockB,sealL,lowL_length]; omega
theorem write_any (E : Sent) (n : Nat) (G : Nat -> Prop) (bs blk : Nat) (d : Dk) (q : StP) (w : World) (hE : Env0 n w E) (hG : ∀ k,G k -> n <= k /\ k < w.heap.size) (hS : StoreAt w G bs d q) (hok : DkOk d) (hup : d.down = false) (ho : d.opn = some blk) (hne : d.waits ≠ []) :
  Calls Tryz.prog 40 #[.pointer (some ⟨bs,0,none⟩)] w fun e w' => ∃ v,e = .returned v /\ FaultIs w' E d.write.1 v /\ Done E G bs w d.write.2 w' := by
 have hw := hS.wait
 rw [ho] at hw
 obtain ⟨bw,hb,hwa⟩ := wait_some hw
 have c1 : w.cell? ⟨bs,1,none⟩ = some (optP q.ow) := hS.box.cell (j := 1) rfl
 rw [hb] at c1
 have c1' : w.cell? ⟨bs,1,none⟩ = some (.pointer (some ⟨bw,0,none⟩)) := c1
 have HBK := wBlock_any bw blk d.waits q.v w hwa hE.env.halves hne hok.most (hok_waits hok)
 have hbl := blockB_len d.waits
 have hwl := hok_waits hok
 have HAP : Hid (∀ (w1 : World) (g cp : Nat),w1.ownsRow w.heap.size 5 1 (.slice (some ⟨g,0,none⟩) (blockB d.waits).length cp) (blockB d.waits).length (cellsB (blockB d.waits)) -> Calls Tryz.prog 55 #[.string ⟨#[108,111,103]⟩,.slice (some ⟨g,0,none⟩) (blockB d.waits).length cp] w1 (Made w1 (stAppend 0 (blockB d.waits)) (some g))) := fun w1 g cp hr => append_log g cp _ w1 (own_lower hr (Nat.zero_le _)) (by omega) (by omega)
 have HSC : Hid (∀ (w1 w2 : World) (g cp : Nat) (e : Ending),w1.ownsRow w.heap.size 5 1 (.slice (some ⟨g,0,none⟩) (blockB d.waits).length cp) (blockB d.waits).length (cellsB (blockB d.waits)) -> Below w.heap.size w w1 -> Made w1 (stAppend 0 (blockB d.waits)) (some g) e w2 -> _) := fun w1 w2 g cp e hr hb hM => steps_call hE hG hS hok hup (st := stAppend 0 (blockB d.waits)) ⟨by simp [stAppend],by simp [stAppend],by simp [stAppend]⟩ hb hM (fun g' hg' => by cases hg'; exact own_ge hr g rfl)
 have HWE := write_eq d
 have hsame := steps_same (d := d) [stAppend 0 (blockB d.waits)]
 have hok2 := hok.steps [stAppend 0 (blockB d.waits)] (by intro s hs; simp at hs; subst hs; exact ⟨by simp [stAppend],by simp [stAppend],by simp [stAppend]⟩)
 have HGZ : Hid (∀ k,G k -> k < w.heap.size) := fun k hk => (hG k hk).2
 generalize d.steps [stAppend 0 (blockB d.waits)] = r at *
 obtain ⟨re,rd⟩ := r
 simp only at hsame HWE
 clear hw hwa hS hE hG hok hb c1 hok2 hbl hwl
 by_cases h0 : re = 0
 ·subst h0
  rw [if_pos rfl] at HWE
  have ho2 : rd.opn = some blk := (hsame.1 (by decide)).2.1.trans ho
  have HD1 : Hid (d.write.1 = 0) := by show _ = _; rw [HWE]
  have HD2 : Hid (d.write.2 = { rd with waits := [] }) := by show _ = _; rw [HWE]
  have HCL : Hid (∀ w4 : World,Done E G bs w rd w4 -> _) := fun w4 h => done_clear HGZ.out h ho2
  clear HWE hsame ho2
  go_enter Tryz.func40,Tryz.ntmps40
  go_wp2_with (first | (go_at_call 72; refine HBK.mono ?_; rintro e w1 ⟨g,cp,rfl,hr,hb1⟩; have HR : Hid (w1.ownsRow w.heap.size 5 1 (.slice (some ⟨g,0,none⟩) (blockB d.waits).length cp) (blockB d.waits).length (cellsB (blockB d.waits))) := hr; have HB1 : Hid (Below w.heap.size w w1) := hb1; clear hr hb1) | (go_at_call 55; refine (HAP.out w1 g cp HR.out).mono ?_; intro e w2 hM; obtain ⟨s1,s2,k,caps,rfl,hcall⟩ := HSC.out w1 w2 g cp e HR.out HB1.out hM; clear hM) | (go_at_call 42; refine hcall.mono ?_; rintro e w4 ⟨v,rfl,hf,hdn⟩; obtain rfl := fault_nil hf; obtain ⟨bw4,k1,hcl⟩ := HCL.out w4 hdn; clear hf hdn hcall) | (go_at_call 73; refine hcl.mono ?_; rintro e w5 ⟨rfl,hdn5⟩))
  go_ret
  refine ⟨_,rfl,?_,?_⟩
  ·rw [HD1.out]; exact .inl ⟨rfl,rfl⟩
  ·rw [HD2.out]; exact hdn5
 ·rw [if_neg h0] at HWE
  have HD1 : Hid (d.write.1 = re) := by show _ = _; rw [HWE]
  have HD2 : Hid (d.write.2 = rd) := by show _ = _; rw [HWE]
  clear HWE hsame
  go_enter Tryz.func40,Tryz.ntmps40
  go_wp2_with (first | (go_at_call 72; refine HBK.mono ?_; rintro e w1 ⟨g,cp,rfl,hr,hb1⟩; have HR : Hid (w1.ownsRow w.heap.size 5 1 (.slice (some ⟨g,0,none⟩) (blockB d.waits).length cp) (blockB d.waits).length (cellsB (blockB d.waits))) := hr; have HB1 : Hid (Below w.heap.size w w1) := hb1; clear hr hb1) | (go_at_call 55; refine (HAP.out w1 g cp HR.out).mono ?_; intro e w2 hM; obtain ⟨s1,s2,k,caps,rfl,hcall⟩ := HSC.out w1 w2 g cp e HR.out HB1.out hM; clear hM) | (go_at_call 42; refine hcall.mono ?_; rintro e w4 ⟨v,rfl,hf,hdn⟩; obtain ⟨b,rfl⟩ := fault_some hf h0; have HFA : Hid _ := hf; have HDN : Hid _ := hdn; clear hf hdn hcall))
  go_ret
  refine ⟨_,rfl,?_,?_⟩
  ·rw [HD1.out]; exact HFA.out
  ·rw [HD2.out]; exact HDN.out
theorem flush_down {d : Dk} (h : d.down = true) : d.flush = (7,d) := by unfold Dk.flush; rw [if_pos h]
theorem flush_none {d : Dk} (h : d.down = false) (ho : d.opn = none) : d.flush = (2,d) := by unfold Dk.flush; rw [if_neg (by simp [h]),ho]
theorem flush_sync {d : Dk} {blk : Nat} (h : d.down = false) (ho : d.opn = some blk) (hw : d.waits.isEmpty = true) : d.flush = d.steps [stSync 0] := by unfold Dk.flush; rw [if_neg (by simp [h]),ho]; simp only; rw [if_pos hw]
theorem flush_write {d : Dk} {blk : Nat} (h : d.down = false) (ho : d.opn = some blk) (hw : d.waits.isEmpty = false) : d.flush = if d.write.1 = 0 then d.write.2.steps [stSync 0] else d.write := by
 unfold Dk.flush
 rw [if_neg (by simp [h]),ho]
 simp only
 rw [if_neg (by simp [hw])]
theorem write_codes (d : Dk) : d.write.1 = 0 \/ d.write.1 = 2 \/ d.write.1 = 6 \/ d.write.1 = 8 := by
 rw [write_eq]
 split
 ·exact .inl rfl
 ·exact steps_codes d _
theorem write_fine {d : Dk} (h : DkOk d) (hup : d.down = false) : (d.write.1 = 0 -> DkOk d.write.2 /\ d.write.2.down = false /\ d.write.2.opn = d.opn /\ d.write.2.waits = []) := by
 rw [write_eq]
 have hok2 := h.steps [stAppend 0 (blockB d.waits)] (by intro s hs; simp at hs; subst hs; exact ⟨by simp [stAppend],by simp [stAppend],by simp [stAppend]⟩)
 have hsame := steps_same (d := d) [stAppend 0 (blockB d.waits)]
 generalize d.steps [stAppend 0 (blockB d.waits)] = r at *
 obtain ⟨re,rd⟩ := r
 simp only at *
 split
 ·rename_i h0
  intro _
  subst h0
  obtain ⟨a1,a2,a3⟩ := hsame.1 (by decide)
  refine ⟨⟨hok2.room,hok2.used,hok2.sync,hok2.opn,fun _ => rfl,by intro e he; simp at he,by simp,by intro b _ h1; simp at h1⟩,a1.trans hup,a2,rfl⟩
 ·rename_i h0
  intro h1
  exact absurd h1 h0
theorem codes_answer {e : Int} (h : e = 0 \/ e = 2 \/ e = 6 \/ e = 8) : e = 0 \/ e = 6 \/ e = 7 \/ e = 8 \/ e = 1 \/ e = 2 := by omega
theorem done_env {E : Sent} {n : Nat} {G : Nat -> Prop} {bs : Nat} {w w' : World} {d : Dk} (hE : Env0 n w E) (hG : ∀ k,G k -> n <= k /\ k < w.heap.size) (h : Done E G bs w d w') : Env0 n w' E := hE.chg h.2 (fun k hk => (hG k hk).1)
theorem done_below {E : Sent} {G : Nat -> Prop} {bs : Nat} {w w1 w2 : World} {d : Dk} (h : Done E G bs w d w1) (hb : Below w1.heap.size w1 w2) : Done E G bs w d w2 := by
 obtain ⟨⟨q,h1⟩,h2⟩ := h
 refine ⟨⟨q,(h1.below hb).mono ?_⟩,h2.trans0 hb⟩
 rintro k (hk | hk)
 ·exact .inl hk
 ·exact .inr ⟨hk.1,Nat.lt_of_lt_of_le hk.2 hb.size⟩
theorem stSync_fine : StFine (stSync 0) := ⟨by simp [stSync],by simp [stSync],by simp [stSync]⟩
theorem flush_any (E : Sent) (n : Nat) (G : Nat -> Prop) (bs : Nat) (d : Dk) (q : StP) (w : World) (hE : Env0 n w E) (hG : ∀ k,G k -> n <= k /\ k < w.heap.size) (hS : StoreAt w G bs d q) (hok : DkOk d) :
  Calls Tryz.prog 17 #[.pointer (some ⟨bs,0,none⟩)] w fun e w' => e = .returned (.int .i64 d.flush.1) /\ Done E G bs w d.flush.2 w' := by
 have HRF := refusal_any E n G bs d q w hE hS
 have HS0 : Hid (∀ w1 : World,Below w.heap.size w w1 -> Done E G bs w d w1) := fun w1 hb => ⟨⟨q,(hS.below hb).mono (fun k h => .inl h)⟩,Chg.of_below hb⟩
 cases hd : d.down with
 | true =>
  have hr : refE d = 7 := by unfold refE; rw [if_pos hd]
  rw [hr] at HRF
  have HF1 : Hid (d.flush.1 = 7) := by show _ = _; rw [flush_down hd]
  have HF2 : Hid (d.flush.2 = d) := by show _ = _; rw [flush_down hd]
  clear hE hG hS hok hr
  go_enter Tryz.func17,Tryz.ntmps17
  go_wp2_with (first | (go_at_call 38; refine HRF.mono ?_; rintro e w1 ⟨rfl,hb⟩; have HB : Hid (Below w.heap.size w w1) := hb; clear hb))
  go_ret
  exact ⟨by rw [HF1.out]; rfl,by rw [HF2.out]; exact HS0.out _ HB.out⟩
 | false =>
  cases ho : d.opn with
  | none =>
   have hr : refE d = 2 := by unfold refE; rw [if_neg (by simp [hd]),ho]; rfl
   rw [hr] at HRF
   have HF1 : Hid (d.flush.1 = 2) := by show _ = _; rw [flush_none hd ho]
   have HF2 : Hid (d.flush.2 = d) := by show _ = _; rw [flush_none hd ho]
   clear hE hG hS hok hr
   go_enter Tryz.func17,Tryz.ntmps17
   go_wp2_with (first | (go_at_call 38; refine HRF.mono ?_; rintro e w1 ⟨rfl,hb⟩; have HB : Hid (Below w.heap.size w w1) := hb; clear hb))
   go_ret
   exact ⟨by rw [HF1.out]; rfl,by rw [HF2.out]; exact HS0.out _ HB.out⟩
  | some blk =>
   have hr : refE d = 0 := by unfold refE; rw [if_neg (by simp [hd]),ho]; rfl
   rw [hr] at HRF
   have hw := hS.wait
   rw [ho] at hw
   obtain ⟨bw,hbw,hwa⟩ := wait_some hw
   have HC1 : Hid (∀ w1 : World,Below w.heap.size w w1 -> w1.cell? ⟨bs,1,none⟩ = some (.pointer (some ⟨bw,0,none⟩))) := fun w1 hb => by
    have : w1.cell? ⟨bs,1,none⟩ = some (optP q.ow) := (hS.box.below hb hS.box.lt).cell (j := 1) rfl
    rw [hbw] at this
    exact this
   have HAN : Hid (∀ w1 : World,Below w.heap.size w w1 -> _) := fun w1 hb => waitAny_any bw blk d.waits q.v w1 (hwa.below hb)
   cases hwe : d.waits.isEmpty with
   | true =>
    rw [hwe] at HAN
    have HSC : Hid (∀ (w1 w2 : World) (e : Ending),Below w.heap.size w w1 -> Made w1 (stSync 0) none e w2 -> _) := fun w1 w2 e hb hM => steps_call hE hG hS hok hd (st := stSync 0) stSync_fine hb hM (fun g' hg' => by cases hg')
    have HEV : Hid (∀ (w1 : World) (d' : Dk),Done E G bs w d' w1 -> Env w1 E) := fun w1 d' h => (done_env hE hG h).env
    have HFL : Hid (d.flush = d.steps [stSync 0]) := flush_sync hd ho hwe
    have HCO := codes_answer (steps_codes d [stSync 0])
    generalize d.steps [stSync 0] = r at *
    clear hE hG hS hok hr hw hwa hbw
    go_enter Tryz.func17,Tryz.ntmps17
    go_wp2_with (first | (go_at_call 38; refine HRF.mono ?_; rintro e w1 ⟨rfl,hb⟩; have k1 := HC1.out w1 hb; have HB : Hid (Below w.heap.size w w1) := hb; clear hb) | (go_at_call 39; refine (HAN.out w1 HB.out).mono ?_; rintro e w1 ⟨rfl,rfl⟩) | (go_at_call 43; refine (sync_log w1).mono ?_; intro e w2 hM; obtain ⟨s1,s2,k,caps,rfl,hcall⟩ := HSC.out w1 w2 e HB.out hM; clear hM) | (go_at_call 42; refine hcall.mono ?_; rintro e w4 ⟨v,rfl,hf,hdn⟩; have HFA : Hid (FaultIs w4 E r.1 v) := hf; have HDN : Hid (Done E G bs w r.2 w4) := hdn; clear hf hdn hcall) | (go_at_call 41; refine (answer_any E r.1 v w4 (HEV.out w4 _ HDN.out) HFA.out HCO).mono ?_; rintro e w5 ⟨rfl,hb5⟩))
    go_ret
    exact ⟨by rw [HFL.out]; rfl,by rw [HFL.out]; exact done_below HDN.out hb5⟩
   | false =>
    rw [hwe] at HAN
    have hne : d.waits ≠ [] := by intro e; rw [e] at hwe; cases hwe
    have HGL : Hid (∀ (w1 w4 : World) (d' : Dk),Done E G bs w d' w4 -> ∀ k,Fx G w w4 k -> n <= k /\ k < w4.heap.size) := fun w1 w4 d' h k hk => by
     have := hE.le
     have h2 := h.2.size
     rcases hk with hk | hk
     ·have := hG k hk; omega
     ·omega
    have HEV : Hid (∀ (w1 : World) (d' : Dk),Done E G bs w d' w1 -> Env0 n w1 E) := fun w1 d' h => done_env hE hG h
    have HWR : Hid (∀ w1 : World,Below w.heap.size w w1 -> Calls Tryz.prog 40 #[.pointer (some ⟨bs,0,none⟩)] w1 fun e w' => ∃ v,e = .returned v /\ FaultIs w' E d.write.1 v /\ Done E G bs w d.write.2 w') := fun w1 hb =>
     (write_any E n G bs blk d q w1 (hE.chg (F := fun _ => False) (Chg.of_below hb) (fun _ h => h.elim)) (fun k hk => ⟨(hG k hk).1,Nat.lt_of_lt_of_le (hG k hk).2 hb.size⟩) (hS.below hb) hok hd ho hne).mono fun e w' ⟨v,h1,h2,h3⟩ => ⟨v,h1,h2,h3.later hb⟩
    have HFL := flush_write hd ho hwe
    have hfine := write_fine hok hd
    have HCW := codes_answer (write_codes d)
    generalize d.write = r at *
    obtain ⟨re,rd⟩ := r
    simp only at HFL hfine HCW
    by_cases h0 : re = 0
    ·subst h0
     rw [if_pos rfl] at HFL
     obtain ⟨f1,f2,f3,f4⟩ := hfine rfl
     have HSC : Hid (∀ (w4 w5 : World) (e : Ending),Done E G bs w rd w4 -> Made w4 (stSync 0) none e w5 -> ∃ s1 s2 k caps,e = .returned (.agg #[.string s1,.string s2,.func (.func k) #[] caps]) /\ Calls Tryz.prog 42 #[.pointer (some ⟨bs,0,none⟩),.slice (some ⟨w5.heap.size,0,none⟩) 1 1] (w5.alloc (.cells #[.string s1,.string s2,.func (.func k) #[] caps] 86)) fun e w' => ∃ v,e = .returned v /\ FaultIs w' E (rd.steps [stSync 0]).1 v /\ Done E G bs w (rd.steps [stSync 0]).2 w') := fun w4 w5 e h hM => by
      obtain ⟨⟨q4,h1⟩,h2⟩ := h
      obtain ⟨s1,s2,k,caps,e1,hc⟩ := steps_call (HEV.out w4 rd ⟨⟨q4,h1⟩,h2⟩) (HGL.out w w4 rd ⟨⟨q4,h1⟩,h2⟩) h1 f1 f2 (st := stSync 0) stSync_fine (Below.refl _ _) hM (fun g' hg' => by cases hg')
      exact ⟨s1,s2,k,caps,e1,hc.mono fun e w' ⟨v,a1,a2,a3⟩ => ⟨v,a1,a2,Done.then ⟨⟨q4,h1⟩,h2⟩ a3⟩⟩
     have HF0 : Hid (d.flush = rd.steps [stSync 0]) := HFL
     have HCO := codes_answer (steps_codes rd [stSync 0])
     generalize rd.steps [stSync 0] = r at *
     clear hE hG hS hok hr hw hwa hbw HFL hfine f1 f2 f3 f4 HCW hne
     go_enter Tryz.func17,Tryz.ntmps17
     go_wp2_with (first | (go_at_call 38; refine HRF.mono ?_; rintro e w1 ⟨rfl,hb⟩; have k1 := HC1.out w1 hb; have HB : Hid (Below w.heap.size w w1) := hb; clear hb) | (go_at_call 39; refine (HAN.out w1 HB.out).mono ?_; rintro e w1 ⟨rfl,rfl⟩) | (go_at_call 40; refine (HWR.out w1 HB.out).mono ?_; rintro e w4 ⟨v,rfl,hf,hdn⟩; obtain rfl := fault_nil hf; have HD4 : Hid (Done E G bs w rd w4) := hdn; clear hf hdn) | (go_at_call 43; refine (sync_log w4).mono ?_; intro e w5 hM; obtain ⟨s1,s2,k,caps,rfl,hcall⟩ := HSC.out w4 w5 e HD4.out hM; clear hM) | (go_at_call 42; refine hcall.mono ?_; rintro e w6 ⟨v,rfl,hf,hdn⟩; have HFA : Hid (FaultIs w6 E r.1 v) := hf; have HDN : Hid (Done E G bs w r.2 w6) := hdn; clear hf hdn hcall) | (go_at_call 41; refine (answer_any E r.1 v w6 (HEV.out w6 _ HDN.out).env HFA.out HCO).mono ?_; rintro e w7 ⟨rfl,hb7⟩))
     go_ret
     exact ⟨by rw [HF0.out]; rfl,by rw [HF0.out]; exact done_below HDN.out hb7⟩
    ·rw [if_neg h0] at HFL
     have HF0 : Hid (d.flush = (re,rd)) := HFL
     clear hE hG hS hok hr hw hwa hbw HFL hfine hne
     go_enter Tryz.func17,Tryz.ntmps17
     go_wp2_with (first | (go_at_call 38; refine HRF.mono ?_; rintro e w1 ⟨rfl,hb⟩; have k1 := HC1.out w1 hb; have HB : Hid (Below w.heap.size w w1) := hb; clear hb) | (go_at_call 39; refine (HAN.out w1 HB.out).mono ?_; rintro e w1 ⟨rfl,rfl⟩) | (go_at_call 40; refine (HWR.out w1 HB.out).mono ?_; rintro e w4 ⟨v,rfl,hf,hdn⟩; obtain ⟨b,rfl⟩ := fault_some hf h0; have HFA : Hid (FaultIs w4 E re (.iface 128 (.pointer (some ⟨b,0,none⟩)))) := hf; have HDN : Hid (Done E G bs w rd w4) := hdn; clear hf hdn) | (go_at_call 41; refine (answer_any E re _ w4 (HEV.out w4 _ HDN.out).env HFA.out HCW).mono ?_; rintro e w7 ⟨rfl,hb7⟩))
     go_ret
     exact ⟨by rw [HF0.out]; rfl,by rw [HF0.out]; exact done_below HDN.out hb7⟩
theorem opening_eq (d : Dk) (blk : Nat) (ss : List St) : d.opening blk ss = if (d.steps ss).1 = 0 then (0,(d.steps ss).2.opens blk) else d.steps ss := by
 unfold Dk.opening
 generalize d.steps ss = r
 obtain ⟨e,d'⟩ := r
 rfl
theorem StoreAt.opened {W W' : World} {G : Nat -> Prop} {bs : Nat} {d : Dk} {q : StP} {blk bw : Nat} (h : StoreAt W G bs d q) (hGz : ∀ k,G k -> k < W.heap.size) (hb : Below W.heap.size W W') (hw : WaitAt W' bw blk [] (.slice none 0 0)) (hbw : W.heap.size <= bw) :
  StoreAt (W'.setCell ⟨bs,1,none⟩ (.pointer (some ⟨bw,0,none⟩))) (Fx G W W') bs (d.opens blk) ⟨q.bd,q.Fd,q.p,some bw,.slice none 0 0⟩ := by
 have hlt := h.box.lt
 have hs := h.below hb
 refine ⟨hs.box.setj 1 _,?_,?_,h.fs,?_,fun g e => (by cases e),.inl h.gs,fun k hk => .inl (h.gd k hk),?_,fun g e => (by cases e)⟩
 ·exact (hs.disk.keep (G := fun k => k = bs) (chg_one (grown_setB _ _ _ _) rfl) (fun k hk e => h.fs (by rw [<- e]; exact hk))).setW (some blk) []
 ·show WaitAt _ bw blk [] _
  exact hw.chg (F := fun k => k = bs) (chg_one (grown_setB _ _ _ _) rfl) (by omega) (fun g e => (by cases e))
 ·intro b e hf
  cases e
  have := hGz _ (h.gd _ hf)
  omega
 ·intro b e
  cases e
  exact .inr ⟨hbw,hw.box.lt⟩
theorem sopen_any (E : Sent) (n : Nat) (G : Nat -> Prop) (bs : Nat) (d : Dk) (q : StP) (blk seed bits : Nat) (g cap : Nat) (cs : Array Value) (ss : List St) (w : World) (hE : Env0 n w E) (hG : ∀ k,G k -> n <= k /\ k < w.heap.size) (hS : StoreAt w G bs d q) (hok : DkOk d) (hup : d.down = false) (hT : StepsAt w q.Fd g cs ss) (hcap : ss.length <= cap) (hl : ss.length <= 1000) :
  Calls Tryz.prog 70 #[.pointer (some ⟨bs,0,none⟩),.agg #[.int .i64 (blk : Int),.int .i64 (seed : Int),.int .i64 (bits : Int)],.slice (some ⟨g,0,none⟩) ss.length cap] w fun e w' => e = .returned (.int .i64 (d.opening blk ss).1) /\ Done E G bs w (d.opening blk ss).2 w' := by
 obtain ⟨W,hW⟩ : ∃ W : World,W = w.alloc (.cells #[.int .i64 (blk : Int),.int .i64 (seed : Int),.int .i64 (bits : Int)] 29) := ⟨_,rfl⟩
 have hB0 : Below w.heap.size w W := by rw [hW]; exact (Below.refl _ _).alloc (Nat.le_refl _) _
 have hx : Bx W w.heap.size #[.int .i64 (blk : Int),.int .i64 (seed : Int),.int .i64 (bits : Int)] 29 := by rw [hW]; exact bx_new w _ _ rfl
 have hnG : ¬ G w.heap.size := fun h => by have := (hG _ h).2; omega
 have hS1 := hS.below hB0
 have HDO := storeDo_any E n G bs d q g cap cs ss W (hE.chg (F := fun _ => False) (Chg.of_below hB0) (fun _ h => h.elim)) (fun k hk => ⟨(hG k hk).1,Nat.lt_of_lt_of_le (hG k hk).2 hB0.size⟩) hS1 hok hup (hT.turn (F' := q.Fd) (Chg.of_below (F := fun _ => False) hB0) (fun _ h => h.elim) (fun _ _ h => h)) hcap hl
 have HOE := opening_eq d blk ss
 have HCO := codes_answer (steps_codes d ss)
 have HEV : Hid (∀ (w1 : World) (d' : Dk),Done E G bs w d' w1 -> Env w1 E) := fun w1 d' h => (done_env hE hG h).env
 have HLT : Hid (∀ (w1 : World) (d' : Dk),Done E G bs W d' w1 -> Done E G bs w d' w1) := fun w1 d' h => h.later hB0
 have HCX : Hid (∀ (w1 : World) (d' : Dk),Done E G bs W d' w1 -> (w1.cell? ⟨w.heap.size,0,none⟩ = some (.int .i64 (blk : Int)) /\ w1.cell? ⟨w.heap.size,1,none⟩ = some (.int .i64 (seed : Int)) /\ w1.cell? ⟨w.heap.size,2,none⟩ = some (.int .i64 (bits : Int)))) := fun w1 d' h => by
  have := hx.chg h.2 hnG
  exact ⟨this.cell (j := 0) rfl,this.cell (j := 1) rfl,this.cell (j := 2) rfl⟩
 have HGZ : Hid (∀ k,G k -> k < w.heap.size) := fun k hk => (hG k hk).2
 generalize d.steps ss = r at *
 obtain ⟨re,rd⟩ := r
 simp only at HOE HCO
 by_cases h0 : re = 0
 ·subst h0
  rw [if_pos rfl] at HOE
  have HO : Hid (d.opening blk ss = (0,rd.opens blk)) := HOE
  have HOP : Hid (∀ w1 w2 : World,Done E G bs w rd w1 -> Below w1.heap.size w1 w2 -> WaitAt w2 (w1.heap.size + 1) blk [] (.slice none 0 0) -> (∃ c,w2.cell? ⟨bs,1,none⟩ = some c) /\ w2.frozen? ⟨bs,1,none⟩ = false /\ Done E G bs w (rd.opens blk) (w2.setCell ⟨bs,1,none⟩ (.pointer (some ⟨w1.heap.size + 1,0,none⟩)))) := fun w1 w2 h hb hw => by
   obtain ⟨⟨q1,h1⟩,h2⟩ := h
   have hb2 := (h1.below hb).box
   have hz := hb.size
   have hGz : ∀ k,Fx G w w1 k -> k < w1.heap.size := fun k hk => by
    rcases hk with hk | hk
    ·have := HGZ.out k hk; have := h2.size; omega
    ·exact hk.2
   refine ⟨⟨_,hb2.cell (j := 1) rfl⟩,hb2.frozen 1,⟨_,(h1.opened hGz hb hw (by omega)).mono ?_⟩,(h2.trans0 hb).set bs 1 _ ?_⟩
   ·intro k hk
    refine fx_setCell k ?_
    exact fx_trans h2.size hb.size k hk
   ·rcases h1.gs with h | h
    ·exact .inl h
    ·exact .inr h.1
  subst hW
  clear hE hG hS hS1 hok hT hB0 hx hnG HOE HCO
  go_enter Tryz.func70,Tryz.ntmps70
  go_wp2_with (first | (go_at_call 42; refine HDO.mono ?_; rintro e w1 ⟨v,rfl,hf,hdn⟩; obtain rfl := fault_nil hf; obtain ⟨x0,x1,x2⟩ := HCX.out w1 _ hdn; have HDN : Hid (Done E G bs w rd w1) := HLT.out w1 _ hdn; clear hf hdn) | (go_at_call 128; refine (newWaiting_any blk seed bits w1).mono ?_; rintro e w2 ⟨rfl,hw2,hb2⟩; obtain ⟨⟨cc,hcc⟩,hfz,hdn2⟩ := HOP.out w1 w2 HDN.out hb2 hw2; have HD2 : Hid _ := hdn2; clear hdn2 hw2 hb2))
  go_ret
  exact ⟨by rw [HO.out]; rfl,by rw [HO.out]; exact HD2.out⟩
 ·rw [if_neg h0] at HOE
  have HO : Hid (d.opening blk ss = (re,rd)) := HOE
  subst hW
  clear hE hG hS hS1 hok hT hB0 hx hnG HOE
  go_enter Tryz.func70,Tryz.ntmps70
  go_wp2_with (first | (go_at_call 42; refine HDO.mono ?_; rintro e w1 ⟨v,rfl,hf,hdn⟩; obtain ⟨b,rfl⟩ := fault_some hf h0; have HFA : Hid (FaultIs w1 E re (.iface 128 (.pointer (some ⟨b,0,none⟩)))) := hf; have HDN : Hid (Done E G bs w rd w1) := HLT.out w1 _ hdn; clear hf hdn) | (go_at_call 41; refine (answer_any E re _ w1 (HEV.out w1 _ HDN.out) HFA.out HCO).mono ?_; rintro e w7 ⟨rfl,hb7⟩))
  go_ret
  exact ⟨by rw [HO.out]; rfl,by rw [HO.out]; exact done_below HDN.out hb7⟩
end Go.Proofs.YtdhgebdbiehchaaGreatDoor
namespace Go.Proofs.YtdhgebdbiehchaaGreatDoor
open Go.RowKit
set_option linter.unusedSimpArgs false
set_option linter.unusedVariables false
theorem DkOk.opens {d : Dk} (h : DkOk d) {blk : Nat} (hf : d.f0.isSome = true) (hd : d.down = false) (h1 : 1 <= blk) (h2 : blk <= 400) : DkOk (d.opens blk) :=
 ⟨h.room,h.used,h.sync,fun b e => by cases e; exact ⟨hf,h1,h2,hd⟩,fun e => (by cases e),fun e he => (by cases he),by simp [Dk.opens],fun b e hl => by simp [Dk.opens] at hl⟩
theorem put_f0 {d : Dk} {i : Nat} {f : Option Fl} (h : d.f0.isSome = true) (hf : i = 0 -> f.isSome = true) : (d.put i f).f0.isSome = true := by
 rcases dk_cases d i f with ⟨h1,e⟩ | ⟨h1,e⟩ | ⟨h1,e⟩ | ⟨h1,e⟩
 ·rw [e]; exact hf h1
 ·rw [e]; exact h
 ·rw [e]; exact h
 ·rw [e]; exact h
theorem take_f0 {d : Dk} {s : St} (h : d.f0.isSome = true) (hs : StFine s) : (d.take s).2.f0.isSome = true := by
 unfold Dk.take
 split
 ·exact put_f0 h (fun _ => rfl)
 ·split
  ·exact h
  ·split
   ·split
    ·exact h
    ·exact put_f0 h (fun _ => rfl)
   ·split
    ·exact put_f0 h (fun _ => rfl)
    ·split
     ·exact put_f0 h (fun _ => rfl)
     ·split
      ·rename_i ht
       exact put_f0 (put_f0 h (fun e => absurd e (hs.1 ht))) (fun _ => rfl)
      ·exact put_f0 h (fun e => absurd e (hs.2.1 (by have := hs.2.2; omega)))
theorem count_f0 {d : Dk} (h : d.f0.isSome = true) : d.count.2.f0.isSome = true := by
 unfold Dk.count
 split
 ·exact h
 ·simp [Dk.falls,h]
 ·exact h
theorem one_f0 {d : Dk} {s : St} (h : d.f0.isSome = true) (hs : StFine s) : (d.one s).2.f0.isSome = true := by
 have hc := count_f0 h
 obtain ⟨b,d',hct⟩ : ∃ b d',d.count = (b,d') := ⟨_,_,rfl⟩
 rw [hct] at hc
 cases b with
 | false => rw [one_no hct]; exact hc
 | true => rw [one_yes hct]; exact take_f0 hc hs
theorem steps_f0 {d : Dk} (h : d.f0.isSome = true) (ss : List St) (hs : ∀ s ∈ ss,StFine s) : (d.steps ss).2.f0.isSome = true := by
 induction ss generalizing d with
 | nil => exact h
 | cons s ss ih =>
  rw [steps_cons]
  split
  ·exact ih (one_f0 h (hs s (by simp))) (fun x hx => hs x (by simp [hx]))
  ·exact one_f0 h (hs s (by simp))
theorem make_f0 {d : Dk} (ss : List St) (hs : ∀ s ∈ ss,StFine s) (h0 : (d.steps (stMake 0 :: ss)).1 = 0) : (d.steps (stMake 0 :: ss)).2.f0.isSome = true := by
 rw [steps_cons] at h0 ⊢
 split
 ·rename_i h1
  refine steps_f0 ?_ ss hs
  obtain ⟨b,d',hct⟩ : ∃ b d',d.count = (b,d') := ⟨_,_,rfl⟩
  cases b with
  | false => rw [one_no hct] at h1; cases h1
  | true => rw [one_yes hct]; rfl
 ·rename_i h1
  rw [if_neg h1] at h0
  exact absurd h0 h1
theorem DkOk.opening {d : Dk} (h : DkOk d) {blk : Nat} {ss : List St} (hs : ∀ s ∈ ss,StFine s) (hd : d.down = false) (h1 : 1 <= blk) (h2 : blk <= 400) (hf : (d.steps ss).1 = 0 -> (d.steps ss).2.f0.isSome = true) : DkOk (d.opening blk ss).2 := by
 have hk := h.steps ss hs
 have hsame := steps_same (d := d) ss
 rw [opening_eq]
 split
 ·rename_i h0
  exact hk.opens (hf h0) ((hsame.1 (by rw [h0]; decide)).1.trans hd) h1 h2
 ·exact hk
theorem wellB_blk {a b c : Int} (h : wellB a b c = true) : 1 <= a /\ a <= 400 := by
 unfold wellB at h
 simp at h
 omega
theorem fine_make (i : Nat) : StFine (stMake i) := ⟨by simp [stMake],by simp [stMake],by simp [stMake]⟩
theorem fine_append (i : Nat) (t : List UInt8) : StFine (stAppend i t) := ⟨by simp [stAppend],by simp [stAppend],by simp [stAppend]⟩
theorem fine_sync (i : Nat) : StFine (stSync i) := ⟨by simp [stSync],by simp [stSync],by simp [stSync]⟩
theorem DkOk.create {d : Dk} (h : DkOk d) (blk seed bits : Int) : DkOk (d.create blk seed bits).2 := by
 unfold Dk.create
 split
 ·exact h
 ·rename_i hw
  split
  ·exact h
  ·rename_i hd
   split
   ·exact h
   ·have hb := wellB_blk (a := blk) (b := seed) (c := bits) (by simpa using hw)
    have fine : ∀ s ∈ [stAppend 0 (headL blk.toNat seed.toNat bits.toNat),stSync 0],StFine s := by
     intro s hs
     simp at hs
     rcases hs with rfl | rfl
     ·exact fine_append _ _
     ·exact fine_sync _
    refine h.opening ?_ (by simpa using hd) (by omega) (by omega) (make_f0 _ fine)
    intro s hs
    rw [List.mem_cons] at hs
    rcases hs with rfl | hs
    ·exact fine_make _
    ·exact fine s hs
theorem DkOk.write {d : Dk} (h : DkOk d) : DkOk d.write.2 := by
 have hok2 := h.steps [stAppend 0 (blockB d.waits)] (by intro s hs; simp at hs; subst hs; exact fine_append _ _)
 rw [write_eq]
 split
 ·exact ⟨hok2.room,hok2.used,hok2.sync,hok2.opn,fun _ => rfl,by intro e he; simp at he,by simp,by intro b _ h1; simp at h1⟩
 ·exact hok2
theorem DkOk.waited {d : Dk} (h : DkOk d) {e : Ent} (he : EntOk e) {blk : Nat} (ho : d.opn = some blk) (hfit : d.fits blk e = true) : DkOk { d with waits := d.waits ++ [e] } := by
 refine ⟨h.room,h.used,h.sync,h.opn,fun e1 => ?_,fun x hx => ?_,?_,fun b hb hl => ?_⟩
 ·have : d.opn = none := e1
  rw [ho] at this; cases this
 ·simp at hx
  rcases hx with hx | rfl
  ·exact h.ents x hx
  ·exact he
 ·have := h.most
  unfold Dk.fits at hfit
  simp at hfit ⊢
  rcases hfit with h0 | ⟨h1,_⟩
  ·rw [h0]; simp
  ·omega
 ·have hb' : d.opn = some b := hb
  rw [ho] at hb'
  cases hb'
  unfold Dk.fits at hfit
  simp at hfit hl
  rcases hfit with h0 | ⟨h1,h2⟩
  ·rw [h0] at hl; simp at hl
  ·show (entsB (d.waits ++ [e])).length <= blk
   have : entsB (d.waits ++ [e]) = entsB d.waits ++ entB e := by simp [entsB]
   rw [this,List.length_append]
   exact h2
theorem DkOk.add {d : Dk} (h : DkOk d) {e : Ent} (he : e.put = false -> e.val = []) : DkOk (d.add e).2 := by
 unfold Dk.add
 split
 ·exact h
 ·rename_i hz
  have hek : EntOk e := by
   simp only [not_or,Nat.not_lt] at hz
   exact ⟨hz.1,hz.2.1,hz.2.2,he⟩
  split
  ·exact h
  ·rename_i hd
   split
   ·exact h
   ·rename_i blk ho
    split
    ·rename_i hfit
     exact h.waited hek ho hfit
    ·have hw := h.write
     have hf := write_fine h (by simpa using hd)
     generalize d.write = r at *
     obtain ⟨re,rd⟩ := r
     simp only at *
     split
     ·rename_i h0
      obtain ⟨f1,f2,f3,f4⟩ := hf h0
      exact f1.waited hek (f3.trans ho) (by unfold Dk.fits; rw [f4]; rfl)
     ·exact hw
theorem DkOk.flush {d : Dk} (h : DkOk d) : DkOk d.flush.2 := by
 have fs : ∀ s ∈ [stSync 0],StFine s := by intro s hs; simp at hs; subst hs; exact fine_sync _
 unfold Dk.flush
 split
 ·exact h
 ·split
  ·exact h
  ·split
   ·exact h.steps _ fs
   ·have hw := h.write
    generalize d.write = r at *
    obtain ⟨re,rd⟩ := r
    simp only at *
    split
    ·exact hw.steps _ fs
    ·exact hw
theorem DkOk.disk {room : Int} {d : Dk} (h : diskD room = some d) : DkOk d := by
 unfold diskD at h
 split at h
 ·cases h
 ·cases h
  refine ⟨by simp; omega,by simp [Dk.used,lenF],fun i f hf => ?_,fun b e => (by cases e),fun _ => rfl,fun e he => (by cases he),by simp,fun b e => (by cases e)⟩
  unfold Dk.file at hf
  simp at hf
end Go.Proofs.YtdhgebdbiehchaaGreatDoor
namespace Go.Proofs.YtdhgebdbiehchaaGreatDoor
open Go.RowKit Go.Maps
set_option linter.unusedSimpArgs false
set_option linter.unusedVariables false
set_option maxRecDepth 100000
set_option maxHeartbeats 1600000
def txtO (f : Option Fl) : List UInt8 := match f with
 | none => []
 | some f => f.text
def synO (f : Option Fl) : Nat := match f with
 | none => 0
 | some f => f.sync
def leftI (l : Option (Nat × Nat)) : Int := match l with
 | none => -1
 | some p => p.1
structure RfP where
 keep : Nat
 c0 : Int
 c1 : Int
 c2 : Int
 v : Value
def refC (d : Dk) (q : RfP) : Array Value := #[.int .i64 d.room,.bool d.down,.bool d.f0.isSome,.string (S (txtO d.f0)),.int .i64 (synO d.f0),.bool d.f1.isSome,.string (S (txtO d.f1)),.int .i64 (synO d.f1),.bool d.f2.isSome,.string (S (txtO d.f2)),.int .i64 (synO d.f2),
 .int .i64 (leftI d.left),.int .i64 q.keep,.bool d.opn.isSome,.int .i64 q.c0,.int .i64 q.c1,.int .i64 q.c2,q.v]
structure RefAt (W : World) (G : Nat -> Prop) (b : Nat) (d : Dk) (q : RfP) : Prop where
 box : Bx W b (refC d q) 273
 row : W.ownsRow 0 114 3 q.v d.waits.length (cellsE d.waits)
 ne : q.v.ownBlock ≠ some b
 left : ∀ n k,d.left = some (n,k) -> n <= 9223372036854775807 /\ q.keep = k
 keep : q.keep <= 9223372036854775807
 blk : ∀ blk,d.opn = some blk -> q.c0 = blk
 gb : G b
 gv : ∀ g,q.v.ownBlock = some g -> G g
theorem RefAt.mono {W : World} {G G' : Nat -> Prop} {b : Nat} {d : Dk} {q : RfP} (h : RefAt W G b d q) (hG : ∀ k,G k -> G' k) : RefAt W G' b d q :=
 ⟨h.box,h.row,h.ne,h.left,h.keep,h.blk,hG _ h.gb,fun g e => hG _ (h.gv g e)⟩
theorem RefAt.kept {W W' : World} {G K : Nat -> Prop} {b : Nat} {d : Dk} {q : RfP} (h : RefAt W G b d q) (hc : Chg K W W') (hK : ∀ k,G k -> ¬ K k) : RefAt W' G b d q :=
 ⟨h.box.chg hc (hK _ h.gb),own_chg h.row hc (fun g e => hK _ (h.gv g e)),h.ne,h.left,h.keep,h.blk,h.gb,h.gv⟩
theorem RefAt.below {W W' : World} {G : Nat -> Prop} {b : Nat} {d : Dk} {q : RfP} (h : RefAt W G b d q) (hb : Below W.heap.size W W') : RefAt W' G b d q :=
 ⟨h.box.below hb h.box.lt,own_chg h.row (Chg.of_below (F := fun _ => False) hb) (fun _ _ h => h),h.ne,h.left,h.keep,h.blk,h.gb,h.gv⟩
def RDone (G : Nat -> Prop) (b : Nat) (w : World) (d' : Dk) (w' : World) : Prop := (∃ q',RefAt w' (Fx G w w') b d' q') /\ Chg G w w'
theorem RDone.refl {G : Nat -> Prop} {b : Nat} {w : World} {d : Dk} {q : RfP} (h : RefAt w G b d q) : RDone G b w d w := ⟨⟨q,h.mono (fun k hk => .inl hk)⟩,Chg.refl _ _⟩
theorem RDone.of_below {G : Nat -> Prop} {b : Nat} {w w' : World} {d : Dk} {q : RfP} (h : RefAt w G b d q) (hb : Below w.heap.size w w') : RDone G b w d w' := ⟨⟨q,(h.below hb).mono (fun k hk => .inl hk)⟩,Chg.of_below hb⟩
theorem RDone.below {G : Nat -> Prop} {b : Nat} {w w1 w2 : World} {d : Dk} (h : RDone G b w d w1) (hb : Below w1.heap.size w1 w2) : RDone G b w d w2 := by
 obtain ⟨⟨q,h1⟩,h2⟩ := h
 refine ⟨⟨q,(h1.below hb).mono ?_⟩,h2.trans0 hb⟩
 rintro k (hk | hk)
 ·exact .inl hk
 ·exact .inr ⟨hk.1,Nat.lt_of_lt_of_le hk.2 hb.size⟩
theorem RDone.later {G : Nat -> Prop} {b : Nat} {w w1 w2 : World} {d : Dk} (hb : Below w.heap.size w w1) (h : RDone G b w1 d w2) : RDone G b w d w2 := by
 obtain ⟨⟨q,h1⟩,h2⟩ := h
 refine ⟨⟨q,h1.mono ?_⟩,(Chg.of_below hb).trans (h2.mono (fun k _ hk => .inl hk))⟩
 rintro k (hk | hk)
 ·exact .inl hk
 ·exact .inr ⟨Nat.le_trans hb.size hk.1,hk.2⟩
theorem RDone.then {G : Nat -> Prop} {b : Nat} {w w1 w2 : World} {d d2 : Dk} (h : RDone G b w d w1) (k : RDone (Fx G w w1) b w1 d2 w2) : RDone G b w d2 w2 := by
 obtain ⟨_,h2⟩ := h
 obtain ⟨⟨q,k1⟩,k2⟩ := k
 exact ⟨⟨q,k1.mono (fx_trans h2.size k2.size)⟩,h2.trans k2⟩

theorem refC_put1 {d : Dk} {q : RfP} {i : Nat} {f : Fl} (hi : i < 3) (hf : d.file i = some f) (t : List UInt8) : (refC d q).setIfInBounds (2 + i * 3 + 1) (.string (S t)) = refC (d.put i (some ⟨t,f.sync⟩)) q := by
 match i,hi with
 | 0,_ => have h : d.f0 = some f := hf; simp [refC,Dk.put,h,synO,txtO]
 | 1,_ => have h : d.f1 = some f := hf; simp [refC,Dk.put,h,synO,txtO]
 | 2,_ => have h : d.f2 = some f := hf; simp [refC,Dk.put,h,synO,txtO]
theorem refC_put2 {d : Dk} {q : RfP} {i : Nat} {f : Fl} (hi : i < 3) (hf : d.file i = some f) (n : Nat) : (refC d q).setIfInBounds (2 + i * 3 + 2) (.int .i64 (n : Int)) = refC (d.put i (some ⟨f.text,n⟩)) q := by
 match i,hi with
 | 0,_ => have h : d.f0 = some f := hf; simp [refC,Dk.put,h,synO,txtO]
 | 1,_ => have h : d.f1 = some f := hf; simp [refC,Dk.put,h,synO,txtO]
 | 2,_ => have h : d.f2 = some f := hf; simp [refC,Dk.put,h,synO,txtO]
theorem refC_put3 {d : Dk} {q : RfP} {i : Nat} (hi : i < 3) : (((refC d q).setIfInBounds (2 + i * 3) (.bool true)).setIfInBounds (2 + i * 3 + 1) (.string ⟨#[]⟩)).setIfInBounds (2 + i * 3 + 2) (.int .i64 0) = refC (d.put i (some ⟨[],0⟩)) q := by
 match i,hi with
 | 0,_ => rfl
 | 1,_ => rfl
 | 2,_ => rfl
theorem RefAt.file {W W' : World} {G : Nat -> Prop} {b : Nat} {d : Dk} {q : RfP} {i : Nat} {f : Option Fl} (h : RefAt W G b d q) (hb : Bx W' b (refC (d.put i f) q) 273) (hg : W.grownBy W' (some b)) : RefAt W' G b (d.put i f) q := by
 obtain ⟨p1,p2,p3,p4,p5⟩ := put_same d i f
 refine ⟨hb,?_,h.ne,by rw [p3]; exact h.left,h.keep,by rw [p4]; exact h.blk,h.gb,h.gv⟩
 rw [p5]
 exact own_chg h.row (chg_one (F := fun k => k = b) hg rfl) (fun g e hk => h.ne (by rw [e,hk]))
theorem RefAt.text {W : World} {G : Nat -> Prop} {b : Nat} {d : Dk} {q : RfP} {i : Nat} {f : Fl} (h : RefAt W G b d q) (hi : i < 3) (hf : d.file i = some f) (t : List UInt8) : RefAt (W.setCell ⟨b,2 + i * 3 + 1,none⟩ (.string (S t))) G b (d.put i (some ⟨t,f.sync⟩)) q :=
 h.file (by have := h.box.setj (2 + i * 3 + 1) (.string (S t)); rw [refC_put1 hi hf] at this; exact this) (grown_setB _ _ _ _)
theorem RefAt.synced {W : World} {G : Nat -> Prop} {b : Nat} {d : Dk} {q : RfP} {i : Nat} {f : Fl} (h : RefAt W G b d q) (hi : i < 3) (hf : d.file i = some f) (n : Nat) : RefAt (W.setCell ⟨b,2 + i * 3 + 2,none⟩ (.int .i64 (n : Int))) G b (d.put i (some ⟨f.text,n⟩)) q :=
 h.file (by have := h.box.setj (2 + i * 3 + 2) (.int .i64 (n : Int)); rw [refC_put2 hi hf] at this; exact this) (grown_setB _ _ _ _)
theorem RefAt.made {W : World} {G : Nat -> Prop} {b : Nat} {d : Dk} {q : RfP} {i : Nat} (h : RefAt W G b d q) (hi : i < 3) : RefAt (((W.setCell ⟨b,2 + i * 3,none⟩ (.bool true)).setCell ⟨b,2 + i * 3 + 1,none⟩ (.string ⟨#[]⟩)).setCell ⟨b,2 + i * 3 + 2,none⟩ (.int .i64 0)) G b (d.put i (some ⟨[],0⟩)) q :=
 h.file (by have := ((h.box.setj (2 + i * 3) (.bool true)).setj (2 + i * 3 + 1) (.string ⟨#[]⟩)).setj (2 + i * 3 + 2) (.int .i64 0); rw [refC_put3 hi] at this; exact this) (grown_trans (grown_trans (grown_setB _ _ _ _) (grown_setB _ _ _ _)) (grown_setB _ _ _ _))
theorem RDone.at {G : Nat -> Prop} {b : Nat} {w w1 : World} {d' d2 : Dk} {q : RfP} {w2 : World} (h : RDone G b w d' w1) (h2 : RefAt w2 (Fx G w w1) b d2 q) (hg : w1.grownBy w2 (some b)) (hb : G b) (hs : w2.heap.size = w1.heap.size) : RDone G b w d2 w2 := by
 refine ⟨⟨q,h2.mono ?_⟩,h.2.grown hg (fun k e => by cases e; exact .inl hb)⟩
 rintro k (hk | hk)
 ·exact .inl hk
 ·exact .inr ⟨hk.1,by omega⟩
theorem RefAt.opened {W : World} {G : Nat -> Prop} {b : Nat} {d : Dk} {q : RfP} {blk : Nat} {c1 c2 : Int} (h : RefAt W G b d q) : RefAt (((((W.setCell ⟨b,13,none⟩ (.bool true)).setCell ⟨b,14,none⟩ (.int .i64 (blk : Int))).setCell ⟨b,15,none⟩ (.int .i64 c1)).setCell ⟨b,16,none⟩ (.int .i64 c2)).setCell ⟨b,17,none⟩ (.slice none 0 0)) G b (d.opens blk) ⟨q.keep,blk,c1,c2,.slice none 0 0⟩ :=
 ⟨((((h.box.setj 13 _).setj 14 _).setj 15 _).setj 16 _).setj 17 _,World.ownsRow_nil _ _ _ _,fun e => (by cases e),h.left,h.keep,fun b e => by cases e; rfl,h.gb,fun g e => (by cases e)⟩
theorem done_add {E : Sent} {G : Nat -> Prop} {bs blk : Nat} {w w4 : World} {rd : Dk} {en : Ent} (hG : ∀ k,G k -> k < w.heap.size) (h : Done E G bs w rd w4) (ho : rd.opn = some blk) (hok : DkOk rd) (hk : en.key.length <= 20) (hv : en.val.length <= 30) :
  ∃ bw4,w4.cell? ⟨bs,1,none⟩ = some (.pointer (some ⟨bw4,0,none⟩)) /\ ∀ w5 : World,Below w4.heap.size w4 w5 -> Calls Tryz.prog 101 #[.pointer (some ⟨bw4,0,none⟩),entV en] w5 fun e w' => e = .returned (.tuple #[]) /\ Done E G bs w { rd with waits := rd.waits ++ [en] } w' := by
 have hD := h
 obtain ⟨⟨q4,h1⟩,h2⟩ := h
 have hw := h1.wait
 rw [ho] at hw
 obtain ⟨bw4,hb,hwa⟩ := wait_some hw
 have c1 : w4.cell? ⟨bs,1,none⟩ = some (optP q4.ow) := h1.box.cell (j := 1) rfl
 rw [hb] at c1
 refine ⟨bw4,c1,fun w5 hb5 => ?_⟩
 have hwl := hok_waits hok
 have hmo := hok.most
 refine (addW_any bw4 blk rd.waits en q4.v w5 (hwa.below hb5) hk hv (by omega) (by omega)).mono ?_
 rintro e w6 ⟨rfl,v',k1,k2,k3⟩
 have hz5 := hb5.size
 have hGz : ∀ k,Fx G w w4 k -> k < w5.heap.size := fun k hk => by
  rcases hk with hk | hk
  ·have := hG k hk; have := h2.size; omega
  ·omega
 have hst := (h1.below hb5).waited hGz ho hb k3 k1 k2
 have h25 : Chg G w w5 := h2.trans0 hb5
 refine ⟨rfl,⟨_,hst.mono ?_⟩,h25.trans (k3.mono ?_)⟩
 ·rintro k ((hk | hk) | hk)
  ·exact .inl hk
  ·exact .inr (by have := k3.size; omega)
  ·exact .inr (by have := h2.size; omega)
 ·intro k hk e
  have hg4 : Fx G w w4 k := by
   rcases e with e | e
   ·rw [e]; exact h1.gw _ hb
   ·exact h1.gv _ e
  rcases hg4 with hg | hg
  ·exact .inl hg
  ·exact .inr (by omega)
theorem add_wrong {d : Dk} {en : Ent} (h : rightB en = false) : d.add en = (1,d) := by
 unfold Dk.add
 unfold rightB at h
 rw [Bool.not_eq_eq_eq_not,Bool.not_false] at h
 rw [if_pos (of_decide_eq_true h)]
theorem right_not {en : Ent} (h : rightB en = true) : ¬ (en.key.length < 1 \/ 20 < en.key.length \/ 30 < en.val.length) := by
 unfold rightB at h
 simpa using h
theorem add_down {d : Dk} {en : Ent} (h : rightB en = true) (hd : d.down = true) : d.add en = (7,d) := by
 unfold Dk.add
 rw [if_neg (right_not h),if_pos hd]
theorem add_none {d : Dk} {en : Ent} (h : rightB en = true) (hd : d.down = false) (ho : d.opn = none) : d.add en = (2,d) := by
 unfold Dk.add
 rw [if_neg (right_not h),if_neg (by simp [hd]),ho]
theorem add_fits {d : Dk} {en : Ent} {blk : Nat} (h : rightB en = true) (hd : d.down = false) (ho : d.opn = some blk) (hf : takesB blk d.waits en = true) : d.add en = (0,{ d with waits := d.waits ++ [en] }) := by
 unfold Dk.add
 rw [if_neg (right_not h),if_neg (by simp [hd]),ho]
 simp only
 rw [if_pos (show d.fits blk en = true from hf)]
theorem add_write {d : Dk} {en : Ent} {blk : Nat} (h : rightB en = true) (hd : d.down = false) (ho : d.opn = some blk) (hf : takesB blk d.waits en = false) : d.add en = if d.write.1 = 0 then (0,{ d.write.2 with waits := d.write.2.waits ++ [en] }) else d.write := by
 unfold Dk.add
 rw [if_neg (right_not h),if_neg (by simp [hd]),ho]
 simp only
 rw [if_neg (by rw [show d.fits blk en = false from hf]; simp)]
theorem add_refused (E : Sent) (n : Nat) (G : Nat -> Prop) (bs : Nat) (d : Dk) (q : StP) (en : Ent) (w : World) (hE : Env0 n w E) (hS : StoreAt w G bs d q) (h : rightB en = false \/ refE d ≠ 0) :
  Calls Tryz.prog 53 #[.pointer (some ⟨bs,0,none⟩),entV en] w fun e w' => e = .returned (.int .i64 (d.add en).1) /\ Done E G bs w (d.add en).2 w' := by
 have HS0 : Hid (∀ w1 : World,Below w.heap.size w w1 -> Done E G bs w d w1) := fun w1 hb => ⟨⟨q,(hS.below hb).mono (fun k h => .inl h)⟩,Chg.of_below hb⟩
 have hB0 : Below w.heap.size w (w.alloc (.cells #[.bool en.put,.string (S en.key),.string (S en.val)] 106)) := (Below.refl _ _).alloc (Nat.le_refl _) _
 have HRI := entRight_any en (w.alloc (.cells #[.bool en.put,.string (S en.key),.string (S en.val)] 106))
 have HB0 : Hid (Below w.heap.size w (w.alloc (.cells #[.bool en.put,.string (S en.key),.string (S en.val)] 106))) := hB0
 have HRF : Hid (∀ w1 : World,Below w.heap.size w w1 -> _) := fun w1 hb => refusal_any E n G bs d q w1 (hE.chg (F := fun _ => False) (Chg.of_below hb) (fun _ h => h.elim)) (hS.below hb)
 cases hr : rightB en with
 | false =>
  rw [hr] at HRI
  have HA : Hid (d.add en = (1,d)) := add_wrong hr
  unfold entV at HRI ⊢
  clear hE hS hB0
  go_enter Tryz.func53,Tryz.ntmps53
  go_wp2_with (first | (go_at_call 99; refine HRI.mono ?_; rintro e w1 ⟨rfl,hb⟩; have HB : Hid (Below w.heap.size w w1) := HB0.out.trans (hb.mono HB0.out.size); clear hb))
  go_ret
  exact ⟨by rw [HA.out]; rfl,by rw [HA.out]; exact HS0.out _ HB.out⟩
 | true =>
  rw [hr] at HRI h
  have h' : refE d ≠ 0 := by rcases h with h | h; cases h; exact h
  have HA : Hid (d.add en = (refE d,d)) := by
   show _ = _
   unfold refE at h' ⊢
   cases hd : d.down with
   | true => rw [add_down hr hd]; simp
   | false =>
    cases ho : d.opn with
    | none => rw [add_none hr hd ho]; simp
    | some b => rw [hd,ho] at h'; simp at h'
  unfold entV at HRI ⊢
  clear hE hS hB0 h
  generalize refE d = rf at *
  go_enter Tryz.func53,Tryz.ntmps53
  go_wp2_with (first | (go_at_call 99; refine HRI.mono ?_; rintro e w1 ⟨rfl,hb⟩; have HB : Hid (Below w.heap.size w w1) := HB0.out.trans (hb.mono HB0.out.size); clear hb) | (go_at_call 38; refine (HRF.out w1 HB.out).mono ?_; rintro e w2 ⟨rfl,hb2⟩; have HB2 : Hid (Below w.heap.size w w2) := HB.out.trans (hb2.mono HB.out.size); clear hb2))
  go_ret
  exact ⟨by rw [HA.out]; rfl,by rw [HA.out]; exact HS0.out _ HB2.out⟩
end Go.Proofs.YtdhgebdbiehchaaGreatDoor
