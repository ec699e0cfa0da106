/- On the way: PFail, PFail2. -/
import Derived.Test.YtdhgebdbiehchaaGreatDoorB37
namespace Go.Proofs.YtdhgebdbiehchaaGreatDoor
open Go.RowKit Go.Maps
set_option linter.unusedSimpArgs false
set_option linter.unusedVariables false
set_option maxRecDepth 100000
set_option maxHeartbeats 1600000
def Dk.lefts (d : Dk) (s k : Nat) : Dk := { d with left := some (s,k) }
def comeW (w : World) (bd s k : Nat) : World := (w.alloc (.cells #[.int .i64 (s : Int),.int .i64 (k : Int)] 185)).setCell ⟨bd,3,none⟩ (.pointer (some ⟨w.heap.size,0,none⟩))
theorem comeW_size (w : World) (bd s k : Nat) : (comeW w bd s k).heap.size = w.heap.size + 1 := by
 have h1 := (grown_setB (w.alloc (.cells #[.int .i64 (s : Int),.int .i64 (k : Int)] 185)) bd 3 (.pointer (some ⟨w.heap.size,0,none⟩))).size
 rw [World.size_alloc] at h1
 unfold comeW
 simp [go_sem]
theorem DiskAt.comes {W : World} {F : Nat -> Prop} {bd : Nat} {d : Dk} {p : Pr} (h : DiskAt W F bd d p) (s k : Nat) (hs : s <= 9223372036854775807) (hk : k <= 9223372036854775807) :
  DiskAt (comeW W bd s k) (Fx F W (comeW W bd s k)) bd (d.lefts s k) { p with bc := some W.heap.size } := by
 have hlt := h.dk.lt
 have hz := comeW_size W bd s k
 have h1 : DiskAt W (Fx F W (comeW W bd s k)) bd d p := h.mono (fun k hk => .inl hk)
 have hg : W.grownBy (comeW W bd s k) (some bd) := grown_trans (World.grownBy_alloc W _ (some bd)) (grown_setB _ bd 3 _)
 refine h1.setDk (d' := d.lefts s k) (bc' := some W.heap.size) hg (fun i => rfl) ((h.dk.alloc _).setj 3 _) ?_ ?_ ?_
 ·show Bx _ _ _ _
  exact Bx.other (bx_new W #[.int .i64 (s : Int),.int .i64 (k : Int)] 185 rfl) (by omega) _
 ·intro c e
  cases e
  exact .inr ⟨Nat.le_refl _,by omega⟩
 ·intro s' k' e
  simp only [Dk.lefts,Option.some.injEq,Prod.mk.injEq] at e
  omega
theorem DkOk.lefts {d : Dk} (h : DkOk d) (s k : Nat) : DkOk (d.lefts s k) := ⟨h.room,h.used,h.sync,h.opn,h.waits,h.ents,h.most,h.size⟩
theorem falls_lefts (d : Dk) (s k j : Nat) : (d.lefts s k).falls j = d.falls j := rfl
theorem comeW_chg (F : Nat -> Prop) (w : World) (bd s k : Nat) (h : F bd) : Chg F w (comeW w bd s k) := ((Chg.refl F w).alloc _).set bd 3 _ (.inl h)
theorem dfail_down (E : Sent) (n : Nat) (F : Nat -> Prop) (bd : Nat) (d : Dk) (p : Pr) (s k : Int) (w : World) (hE : Env0 n w E) (hD : DiskAt w F bd d p) (hd : d.down = true) :
  Calls Tryz.prog 57 #[.pointer (some ⟨bd,0,none⟩),.int .i64 s,.int .i64 k] w fun e w' => ∃ v,e = .returned v /\ FaultIs w' E 7 v /\ Below w.heap.size w w' := by
 have c2 : w.cell? ⟨bd,2,none⟩ = some (.bool d.down) := hD.dk.cell (j := 2) rfl
 have gd := hE.env.down
 have e7 : errVal E 7 = .iface 352 (.pointer (some E.down)) := by simp [errVal,errAd]
 have HF : Hid (∀ (wx : World) (g : Nat),g = wx.heap.size -> FaultIs (wx.alloc (.cells #[.string ⟨#[102,97,105,108]⟩,.string ⟨#[]⟩,errVal E 7] 152)) E 7 (.iface 128 (.pointer (some ⟨g,0,none⟩)))) := fun wx g hg => fault_new (by omega) _ _ hg
 rw [hd] at c2
 rw [e7] at HF
 clear hD hE hd e7
 go_enter Tryz.func57,Tryz.ntmps57
 go_wp2
 go_ret
 exact ⟨_,rfl,(HF.out w _ rfl),((Below.refl _ _).alloc (Nat.le_refl _) _)⟩
theorem dfail_later (F : Nat -> Prop) (bd : Nat) (d : Dk) (p : Pr) (s k : Nat) (w : World) (hD : DiskAt w F bd d p) (hd : d.down = false) (hs : s <= 9223372036854775807) (hk : k <= 9223372036854775807) (h0 : s ≠ 0) :
  Calls Tryz.prog 57 #[.pointer (some ⟨bd,0,none⟩),.int .i64 (s : Int),.int .i64 (k : Int)] w fun e w' => e = .returned .nilIface /\ (∃ p',DiskAt w' (Fx F w w') bd (d.lefts s k) p') /\ Chg F w w' := by
 have c2 : w.cell? ⟨bd,2,none⟩ = some (.bool d.down) := hD.dk.cell (j := 2) rfl
 have hA := hD.dk.alloc (.cells #[.int .i64 (s : Int),.int .i64 (k : Int)] 185)
 have c3 : (w.alloc (.cells #[.int .i64 (s : Int),.int .i64 (k : Int)] 185)).cell? ⟨bd,3,none⟩ = some (optP p.bc) := hA.cell (j := 3) rfl
 have z3 := hA.frozen 3
 have HD : Hid (∀ w',w' = comeW w bd s k -> (∃ p',DiskAt w' (Fx F w w') bd (d.lefts s k) p') /\ Chg F w w') := by
  rintro w' rfl
  exact ⟨⟨_,hD.comes s k hs hk⟩,comeW_chg F w bd s k hD.fd⟩
 have hne : (((s : Nat) : Int) == 0) = false := by simp; omega
 rw [hd] at c2
 clear hD hd hA
 go_enter Tryz.func57,Tryz.ntmps57
 go_wp2
 go_ret
 exact ⟨rfl,HD.out _ rfl⟩
theorem dfail_now (F : Nat -> Prop) (bd : Nat) (d : Dk) (p : Pr) (k : Nat) (w : World) (hD : DiskAt w F bd d p) (hok : DkOk d) (hd : d.down = false) (hk : k <= 9223372036854775807) (hFz : ∀ q,F q -> q < w.heap.size) :
  Calls Tryz.prog 57 #[.pointer (some ⟨bd,0,none⟩),.int .i64 0,.int .i64 (k : Int)] w fun e w' => e = .returned .nilIface /\ (∃ p',DiskAt w' (Fx F w w') bd (d.falls k) p') /\ Chg F w w' := by
 have c2 : w.cell? ⟨bd,2,none⟩ = some (.bool d.down) := hD.dk.cell (j := 2) rfl
 have hA := hD.dk.alloc (.cells #[.int .i64 0,.int .i64 (k : Int)] 185)
 have c3 : (w.alloc (.cells #[.int .i64 0,.int .i64 (k : Int)] 185)).cell? ⟨bd,3,none⟩ = some (optP p.bc) := hA.cell (j := 3) rfl
 have z3 := hA.frozen 3
 have hz := comeW_size w bd 0 k
 have HGD : Hid (Calls Tryz.prog 106 #[.pointer (some ⟨bd,0,none⟩)] ((w.alloc (.cells #[.int .i64 0,.int .i64 (k : Int)] 185)).setCell ⟨bd,3,none⟩ (.pointer (some ⟨w.heap.size,0,none⟩))) fun e w' => e = .returned (.tuple #[]) /\ (∃ p',DiskAt w' (Fx F w w') bd (d.falls k) p') /\ Chg F w w') := by
  refine (goDown_any _ bd (d.lefts 0 k) _ 0 k (comeW w bd 0 k) (hD.comes 0 k (by omega) hk) rfl (hok.lefts 0 k) ?_).mono ?_
  ·rintro q (hq | hq)
   ·have := hFz q hq; omega
   ·exact hq.2
  ·rintro e w1 ⟨rfl,⟨p1,h1⟩,h2⟩
   refine ⟨rfl,⟨p1,?_⟩,(comeW_chg F w bd 0 k hD.fd).trans h2⟩
   rw [falls_lefts] at h1
   refine h1.mono ?_
   rintro q (hq | hq)
   ·exact .inl hq
   ·exact .inr ⟨hq.1,Nat.lt_of_lt_of_le hq.2 h2.size⟩
 rw [hd] at c2
 clear hD hd hA hok hFz hz
 go_enter Tryz.func57,Tryz.ntmps57
 go_wp2_with fail
 refine HGD.out.mono ?_
 rintro e w1 ⟨rfl,hp⟩
 have HP : Hid _ := hp
 clear hp
 go_wp2
 go_ret
 exact ⟨rfl,HP.out⟩
theorem dstart_up (E : Sent) (n : Nat) (F : Nat -> Prop) (bd : Nat) (d : Dk) (p : Pr) (w : World) (hE : Env0 n w E) (hD : DiskAt w F bd d p) (hd : d.down = false) :
  Calls Tryz.prog 58 #[.pointer (some ⟨bd,0,none⟩)] w fun e w' => ∃ v,e = .returned v /\ FaultIs w' E 1 v /\ Below w.heap.size w w' := by
 have c2 : w.cell? ⟨bd,2,none⟩ = some (.bool d.down) := hD.dk.cell (j := 2) rfl
 have gd := hE.env.up
 have e1 : errVal E 1 = .iface 352 (.pointer (some E.up)) := by simp [errVal,errAd]
 have HF : Hid (∀ (wx : World) (g : Nat),g = wx.heap.size -> FaultIs (wx.alloc (.cells #[.string ⟨#[115,116,97,114,116]⟩,.string ⟨#[]⟩,errVal E 1] 152)) E 1 (.iface 128 (.pointer (some ⟨g,0,none⟩)))) := fun wx g hg => fault_new (by omega) _ _ hg
 rw [hd] at c2
 rw [e1] at HF
 clear hD hE hd e1
 go_enter Tryz.func58,Tryz.ntmps58
 go_wp2
 go_ret
 exact ⟨_,rfl,(HF.out w _ rfl),((Below.refl _ _).alloc (Nat.le_refl _) _)⟩
def Dk.ups (d : Dk) : Dk := { d with down := false }
theorem DiskAt.ups {W : World} {F : Nat -> Prop} {bd : Nat} {d : Dk} {p : Pr} (h : DiskAt W F bd d p) : DiskAt (W.setCell ⟨bd,2,none⟩ (.bool false)) F bd d.ups { p with bc := p.bc } :=
 h.setDk (d' := d.ups) (bc' := p.bc) (grown_setB _ bd 2 _) (fun i => rfl) (h.dk.setj 2 _) (h.coming.chg (F := fun k => k = bd) (chg_one (grown_setB _ _ _ _) rfl) (fun b e e2 => by
  subst e2
  have hc := h.coming
  cases hl : d.left with
  | none => rw [hl] at hc; rw [coming_none hc] at e; cases e
  | some sk =>
   obtain ⟨s,k⟩ := sk
   rw [hl] at hc
   obtain ⟨c,e3,hx⟩ := coming_some hc
   rw [e3] at e
   cases e
   exact bx_unlike hx h.dk (by decide) rfl)) h.fc h.small
theorem dstart_down (F : Nat -> Prop) (bd : Nat) (d : Dk) (p : Pr) (w : World) (hD : DiskAt w F bd d p) (hd : d.down = true) :
  Calls Tryz.prog 58 #[.pointer (some ⟨bd,0,none⟩)] w fun e w' => e = .returned .nilIface /\ (∃ p',DiskAt w' F bd d.ups p') /\ Chg F w w' := by
 have c2 : w.cell? ⟨bd,2,none⟩ = some (.bool d.down) := hD.dk.cell (j := 2) rfl
 have z2 := hD.dk.frozen 2
 have HD : Hid (∀ w',w' = w.setCell ⟨bd,2,none⟩ (.bool false) -> (∃ p',DiskAt w' F bd d.ups p') /\ Chg F w w') := by
  rintro w' rfl
  exact ⟨⟨_,hD.ups⟩,(Chg.refl F w).set bd 2 _ (.inl hD.fd)⟩
 rw [hd] at c2
 clear hD hd
 go_enter Tryz.func58,Tryz.ntmps58
 go_wp2
 go_ret
 exact ⟨rfl,HD.out _ rfl⟩
theorem fail_arg {d : Dk} {s k : Int} (h : s < 0 \/ k < 0) : d.fail s k = (1,d) := by unfold Dk.fail; rw [if_pos h]
theorem fail_down {d : Dk} {s k : Int} (h : ¬ (s < 0 \/ k < 0)) (hd : d.down = true) : d.fail s k = (7,d) := by unfold Dk.fail; rw [if_neg h,if_pos hd]
theorem fail_now {d : Dk} (k : Nat) (hd : d.down = false) : d.fail 0 (k : Int) = (0,d.falls k) := by
 unfold Dk.fail
 rw [if_neg (by omega),if_neg (by simp [hd]),if_pos rfl]
 rfl
theorem fail_later {d : Dk} (s k : Nat) (hd : d.down = false) (h0 : s ≠ 0) : d.fail (s : Int) (k : Int) = (0,d.lefts s k) := by
 unfold Dk.fail
 rw [if_neg (by omega),if_neg (by simp [hd]),if_neg (by omega)]
 rfl
theorem start_up {d : Dk} (hd : d.down = false) : d.start = (1,d) := by unfold Dk.start; rw [if_neg (by simp [hd])]
theorem start_down {d : Dk} (hd : d.down = true) : d.start = (0,d.ups) := by unfold Dk.start; rw [if_pos hd]; rfl
theorem sfail_any (E : Sent) (n : Nat) (G : Nat -> Prop) (bs : Nat) (d : Dk) (q : StP) (s k : Int) (w : World) (hE : Env0 n w E) (hG : ∀ k,G k -> n <= k /\ k < w.heap.size) (hS : StoreAt w G bs d q) (hok : DkOk d) (hs : s <= 9223372036854775807) (hk : k <= 9223372036854775807) :
  Calls Tryz.prog 28 #[.pointer (some ⟨bs,0,none⟩),.int .i64 s,.int .i64 k] w fun e w' => e = .returned (.int .i64 (d.fail s k).1) /\ Done E G bs w (d.fail s k).2 w' := by
 have c0 : w.cell? ⟨bs,0,none⟩ = some (.pointer (some ⟨q.bd,0,none⟩)) := hS.box.cell (j := 0) rfl
 have HS0 : Hid (∀ w1 : World,Below w.heap.size w w1 -> Done E G bs w d w1) := fun w1 hb => ⟨⟨q,(hS.below hb).mono (fun k h => .inl h)⟩,Chg.of_below hb⟩
 have HEV : Hid (∀ w1 : World,Below w.heap.size w w1 -> Env w1 E) := fun w1 hb => hE.env.below hb
 by_cases hneg : s < 0 \/ k < 0
 ·rw [fail_arg hneg]
  clear hE hG hS hok
  by_cases h1 : s < 0
  ·go_enter Tryz.func28,Tryz.ntmps28
   go_wp2
   go_ret
   exact ⟨rfl,HS0.out _ (Below.refl _ _)⟩
  ·have h2 : k < 0 := by omega
   go_enter Tryz.func28,Tryz.ntmps28
   go_wp2
   go_ret
   exact ⟨rfl,HS0.out _ (Below.refl _ _)⟩
 ·have h1 : ¬ s < 0 := by omega
  have h2 : ¬ k < 0 := by omega
  cases hd : d.down with
  | true =>
   rw [fail_down hneg hd]
   have HDF : Hid _ := dfail_down E n q.Fd q.bd d q.p s k w hE hS.disk hd
   clear hE hG hS hok
   go_enter Tryz.func28,Tryz.ntmps28
   go_wp2_with (first | (go_at_call 57; refine Calls.mono HDF.out ?_; rintro e w1 ⟨v,rfl,hf,hb⟩; obtain ⟨b,rfl⟩ := fault_some hf (by decide); have HB : Hid (Below w.heap.size w w1) := hb; have HFA : Hid (FaultIs w1 E 7 (.iface 128 (.pointer (some ⟨b,0,none⟩)))) := hf; clear hf hb) | (go_at_call 41; refine (answer_any E 7 _ w1 (HEV.out w1 HB.out) HFA.out (by decide)).mono ?_; rintro e w2 ⟨rfl,hb2⟩))
   go_ret
   exact ⟨rfl,HS0.out _ (HB.out.trans (hb2.mono HB.out.size))⟩
  | false =>
   obtain ⟨sn,rfl⟩ := Int.eq_ofNat_of_zero_le (show 0 <= s by omega)
   obtain ⟨kn,rfl⟩ := Int.eq_ofNat_of_zero_le (show 0 <= k by omega)
   by_cases h0 : sn = 0
   ·subst h0
    show Calls _ _ #[_,.int .i64 0,_] _ fun e w' => e = .returned (.int .i64 (d.fail 0 (kn : Int)).1) /\ Done E G bs w (d.fail 0 (kn : Int)).2 w'
    rw [fail_now kn hd]
    have HDF : Hid _ := dfail_now q.Fd q.bd d q.p kn w hS.disk hok hd (by omega) (fun k hk => (hG k (hS.gd k hk)).2)
    have HFI : Hid (∀ (w1 : World) (p' : Pr),DiskAt w1 (Fx q.Fd w w1) q.bd (d.falls kn) p' -> Chg q.Fd w w1 -> (∃ c,w1.cell? ⟨bs,1,none⟩ = some c) /\ w1.frozen? ⟨bs,1,none⟩ = false /\ Done E G bs w (d.falls kn) (w1.setCell ⟨bs,1,none⟩ (.pointer none))) := fun w1 p' h3 h4 =>
     have hb := hS.box.chg h4 hS.fs
     ⟨⟨_,hb.cell (j := 1) rfl⟩,hb.frozen 1,⟨_,(hS.shut h4 h3 rfl).mono fx_setCell⟩,(h4.mono (fun k _ hk => hS.gd k hk)).set bs 1 _ (.inl hS.gs)⟩
    clear hE hG hS hok hneg h1 hs
    go_enter Tryz.func28,Tryz.ntmps28
    go_wp2_with (first | (go_at_call 57; refine Calls.mono HDF.out ?_; rintro e w1 ⟨rfl,⟨p',h3⟩,h4⟩; obtain ⟨⟨cc,hcc⟩,hfz,hdn⟩ := HFI.out w1 p' h3 h4; have HDN : Hid _ := hdn; clear h3 h4 hdn))
    go_ret
    exact ⟨rfl,HDN.out⟩
   ·rw [fail_later sn kn hd h0]
    have HDF : Hid _ := dfail_later q.Fd q.bd d q.p sn kn w hS.disk hd (by omega) (by omega) h0
    have HFI : Hid (∀ (w1 : World) (p' : Pr),DiskAt w1 (Fx q.Fd w w1) q.bd (d.lefts sn kn) p' -> Chg q.Fd w w1 -> Done E G bs w (d.lefts sn kn) w1) := fun w1 p' h3 h4 =>
     ⟨⟨_,hS.disked h4 h3 rfl rfl⟩,h4.mono (fun k _ hk => hS.gd k hk)⟩
    have hne : (((sn : Nat) : Int) == 0) = false := by simp; omega
    clear hE hG hS hok hneg
    go_enter Tryz.func28,Tryz.ntmps28
    go_wp2_with (first | (go_at_call 57; refine Calls.mono HDF.out ?_; rintro e w1 ⟨rfl,⟨p',h3⟩,h4⟩; have HDN : Hid _ := HFI.out w1 p' h3 h4; clear h3 h4))
    go_ret
    exact ⟨rfl,HDN.out⟩
theorem sstart_any (E : Sent) (n : Nat) (G : Nat -> Prop) (bs : Nat) (d : Dk) (q : StP) (w : World) (hE : Env0 n w E) (hG : ∀ k,G k -> n <= k /\ k < w.heap.size) (hS : StoreAt w G bs d q) :
  Calls Tryz.prog 29 #[.pointer (some ⟨bs,0,none⟩)] w fun e w' => e = .returned (.int .i64 d.start.1) /\ Done E G bs w d.start.2 w' := by
 have c0 : w.cell? ⟨bs,0,none⟩ = some (.pointer (some ⟨q.bd,0,none⟩)) := hS.box.cell (j := 0) rfl
 have HS0 : Hid (∀ w1 : World,Below w.heap.size w w1 -> Done E G bs w d w1) := fun w1 hb => ⟨⟨q,(hS.below hb).mono (fun k h => .inl h)⟩,Chg.of_below hb⟩
 have HEV : Hid (∀ w1 : World,Below w.heap.size w w1 -> Env w1 E) := fun w1 hb => hE.env.below hb
 cases hd : d.down with
 | false =>
  rw [start_up hd]
  have HDF : Hid _ := dstart_up E n q.Fd q.bd d q.p w hE hS.disk hd
  clear hE hG hS
  go_enter Tryz.func29,Tryz.ntmps29
  go_wp2_with (first | (go_at_call 58; refine Calls.mono HDF.out ?_; rintro e w1 ⟨v,rfl,hf,hb⟩; have HB : Hid (Below w.heap.size w w1) := hb; have HFA : Hid (FaultIs w1 E 1 v) := hf; clear hf hb) | (go_at_call 41; refine (answer_any E 1 _ w1 (HEV.out w1 HB.out) HFA.out (by decide)).mono ?_; rintro e w2 ⟨rfl,hb2⟩))
  go_ret
  exact ⟨rfl,HS0.out _ (HB.out.trans (hb2.mono HB.out.size))⟩
 | true =>
  rw [start_down hd]
  have HDF : Hid _ := dstart_down q.Fd q.bd d q.p w hS.disk hd
  have HFI : Hid (∀ (w1 : World) (p' : Pr),DiskAt w1 q.Fd q.bd d.ups p' -> Chg q.Fd w w1 -> Done E G bs w d.ups w1) := fun w1 p' h3 h4 =>
   ⟨⟨_,hS.disked h4 (h3.mono (fun k hk => .inl hk)) rfl rfl⟩,h4.mono (fun k _ hk => hS.gd k hk)⟩
  have HE2 : Hid (∀ (w1 : World),Done E G bs w d.ups w1 -> Env w1 E) := fun w1 h => (done_env hE hG h).env
  clear hE hG hS
  go_enter Tryz.func29,Tryz.ntmps29
  go_wp2_with (first | (go_at_call 58; refine Calls.mono HDF.out ?_; rintro e w1 ⟨rfl,⟨p',h3⟩,h4⟩; have HDN : Hid (Done E G bs w d.ups w1) := HFI.out w1 p' h3 h4; clear h3 h4) | (go_at_call 41; refine (answer_any E 0 _ w1 (HE2.out w1 HDN.out) faultIs_nil (by decide)).mono ?_; rintro e w2 ⟨rfl,hb2⟩))
  go_ret
  exact ⟨rfl,done_below HDN.out hb2⟩
end Go.Proofs.YtdhgebdbiehchaaGreatDoor
