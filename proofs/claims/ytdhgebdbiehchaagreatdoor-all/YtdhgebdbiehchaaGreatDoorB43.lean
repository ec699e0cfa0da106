/- On the way: RfAdd, RfAdd2, LwDoes, RfFile, LwAsk, LwStep, LwPlays, LwLooks, LwSteps. -/
import Derived.Test.YtdhgebdbiehchaaGreatDoorB39
namespace Go.Proofs.YtdhgebdbiehchaaGreatDoor
open Go.RowKit Go.Maps
set_option linter.unusedSimpArgs false
set_option linter.unusedVariables false
set_option maxRecDepth 100000
set_option maxHeartbeats 3200000
theorem entsB_cat (ws : List Ent) (e : Ent) : entsB (ws ++ [e]) = entsB ws ++ entB e := by simp [entsB]
theorem entsB_take {ws : List Ent} {k : Nat} (h : k < ws.length) : (entsB (ws.take (k + 1))).length = (entsB (ws.take k)).length + (entB ws[k]).length := by
 rw [List.take_succ_eq_append_getElem h,entsB_cat,List.length_append]
theorem app_ent {W : World} {v : Value} {ws : List Ent} {en : Ent} {g0 : Nat} (h1 : W.ownsRow 0 114 3 v ws.length (cellsE ws)) (hg : ∀ j u,[Value.bool en.put,.string (S en.key),.string (S en.val)][j]? = some u -> W.cell? ((⟨g0,0,none⟩ : Addr).add j) = some u) (hl : ws.length <= 1000000) :
  ∃ g cap w',(Builtin.append_ #[115,115] 115 #[v,.slice (some ⟨g0,0,none⟩) 1 1]).run Tryz.prog W = .ok (.slice (some ⟨g,0,none⟩) (ws.length + 1) cap) w' /\
   w'.ownsRow 0 114 3 (.slice (some ⟨g,0,none⟩) (ws ++ [en]).length cap) (ws ++ [en]).length (cellsE (ws ++ [en])) /\ W.grownBy w' v.ownBlock /\ (v.ownBlock = some g \/ g = W.heap.size) /\ g < w'.heap.size := by
 obtain ⟨i0,hi,hz0,hz1,hz2⟩ := info_parts info_ent
 obtain ⟨g,cap,w',a1,a2,a3,a4,a5⟩ := run_append_lies (P := Tryz.prog) W 115 115 0 114 i0 (.agg #[.bool false,.string ⟨#[]⟩,.string ⟨#[]⟩]) 3 40 Tryz.underlying115 hi hz0 hz1 hz2 rfl (by decide) v ws.length (cellsE ws) h1 ⟨g0,0,none⟩ 1 1 [.bool en.put,.string (S en.key),.string (S en.val)] rfl hg (by simp [Value.oneCell']) (by omega) (by unfold maxLen; omega) (by omega) (Nat.zero_le _) _ rfl
 rw [<- cellsE_snoc] at a2
 rw [List.length_append]
 exact ⟨g,cap,w',a1,a2,a3,a4,a5⟩
theorem RefAt.waited {W X : World} {G : Nat -> Prop} {b : Nat} {d : Dk} {q : RfP} {en : Ent} {g cap : Nat} (h : RefAt W G b d q) (hX : W.grownBy X q.v.ownBlock) (ho : X.ownsRow 0 114 3 (.slice (some ⟨g,0,none⟩) (d.waits ++ [en]).length cap) (d.waits ++ [en]).length (cellsE (d.waits ++ [en]))) (hat : q.v.ownBlock = some g \/ W.heap.size <= g) (hg : g < X.heap.size) :
  RefAt (X.setCell ⟨b,17,none⟩ (.slice (some ⟨g,0,none⟩) (d.waits ++ [en]).length cap)) (Fx G W X) b { d with waits := d.waits ++ [en] } ⟨q.keep,q.c0,q.c1,q.c2,.slice (some ⟨g,0,none⟩) (d.waits ++ [en]).length cap⟩ := by
 have hlt := h.box.lt
 have hne : (Value.slice (some ⟨g,0,none⟩) (d.waits ++ [en]).length cap).ownBlock ≠ some b := by
  intro e
  have e' : g = b := by simpa [Value.ownBlock] using e
  rcases hat with h5 | h5
  ·exact h.ne (by rw [h5,e'])
  ·omega
 have hbx : Bx X b (refC d q) 273 := (hX.block b hlt (fun e => h.ne e.symm)).trans h.box
 refine ⟨hbx.setj 17 _,own_box (cs := refC d q) (t := 0) ho hne 17 _,hne,h.left,h.keep,h.blk,.inl h.gb,fun k e => ?_⟩
 have e' : g = k := by simpa [Value.ownBlock] using e
 subst e'
 rcases hat with h5 | h5
 ·exact .inl (h.gv _ h5)
 ·exact .inr ⟨h5,hg⟩
theorem RDone.waited {W0 W X Y : World} {G : Nat -> Prop} {b : Nat} {d : Dk} {q : RfP} {en : Ent} {g cap : Nat} (hD : RDone G b W0 d W) (h : RefAt W (Fx G W0 W) b d q) (hb : Below W.heap.size W Y) (hX : Y.grownBy X q.v.ownBlock) (ho : X.ownsRow 0 114 3 (.slice (some ⟨g,0,none⟩) (d.waits ++ [en]).length cap) (d.waits ++ [en]).length (cellsE (d.waits ++ [en]))) (hat : q.v.ownBlock = some g \/ g = Y.heap.size) (hg : g < X.heap.size) :
  RDone G b W0 { d with waits := d.waits ++ [en] } (X.setCell ⟨b,17,none⟩ (.slice (some ⟨g,0,none⟩) (d.waits ++ [en]).length cap)) := by
 have hc := hD.2
 have hY := h.below hb
 have hR := RefAt.waited hY hX ho (hat.imp id (fun e => by omega)) hg
 have hzz : (X.setCell ⟨b,17,none⟩ (.slice (some ⟨g,0,none⟩) (d.waits ++ [en]).length cap)).heap.size = X.heap.size := by simp
 have z1 := hc.size
 have z2 := hb.size
 have z3 := hX.size
 refine ⟨⟨_,hR.mono ?_⟩,?_⟩
 ·rintro k ((hk | hk) | hk)
  ·exact .inl hk
  ·exact .inr ⟨hk.1,by rw [hzz]; omega⟩
  ·exact .inr ⟨by omega,by rw [hzz]; exact hk.2⟩
 ·have c1 := hc.trans0 hb
  have c2 : Chg G W0 X := c1.grown hX (fun k e => by
   rcases h.gv k e with h5 | h5
   ·exact .inl h5
   ·exact .inr h5.1)
  refine c2.set b 17 _ ?_
  rcases h.gb with h5 | h5
  ·exact .inl h5
  ·exact .inr h5.1
theorem radd_bad {d : Dk} {e : Ent} (h : e.key.length < 1 \/ 20 < e.key.length \/ 30 < e.val.length) : d.add e = (1,d) := by unfold Dk.add; rw [if_pos h]
theorem radd_down {d : Dk} {e : Ent} (h : ¬ (e.key.length < 1 \/ 20 < e.key.length \/ 30 < e.val.length)) (hd : d.down = true) : d.add e = (7,d) := by unfold Dk.add; rw [if_neg h,if_pos hd]
theorem radd_none {d : Dk} {e : Ent} (h : ¬ (e.key.length < 1 \/ 20 < e.key.length \/ 30 < e.val.length)) (hd : d.down = false) (ho : d.opn = none) : d.add e = (2,d) := by unfold Dk.add; rw [if_neg h,if_neg (by simp [hd]),ho]
theorem radd_fits {d : Dk} {e : Ent} {blk : Nat} (h : ¬ (e.key.length < 1 \/ 20 < e.key.length \/ 30 < e.val.length)) (hd : d.down = false) (ho : d.opn = some blk) (hf : d.fits blk e = true) : d.add e = (0,{ d with waits := d.waits ++ [e] }) := by unfold Dk.add; rw [if_neg h,if_neg (by simp [hd]),ho]; simp only; rw [if_pos hf]
theorem radd_writes {d : Dk} {e : Ent} {blk : Nat} (h : ¬ (e.key.length < 1 \/ 20 < e.key.length \/ 30 < e.val.length)) (hd : d.down = false) (ho : d.opn = some blk) (hf : d.fits blk e = false) : d.add e = if d.write.1 = 0 then (0,{ d.write.2 with waits := d.write.2.waits ++ [e] }) else d.write := by
 unfold Dk.add; rw [if_neg h,if_neg (by simp [hd]),ho]; simp only; rw [if_neg (by simp [hf])]
theorem radd_not (G : Nat -> Prop) (b : Nat) (d : Dk) (q : RfP) (en : Ent) (w : World) (hR : RefAt w G b d q) (h : (en.key.length < 1 \/ 20 < en.key.length \/ 30 < en.val.length) \/ d.down = true \/ d.opn = none) :
  Calls Tryz.prog 119 #[.pointer (some ⟨b,0,none⟩),.agg #[.bool en.put,.string (S en.key),.string (S en.val)]] w fun e w' => e = .returned (.int .i64 (d.add en).1) /\ RDone G b w (d.add en).2 w' := by
 have HB : Hid (Below w.heap.size w (w.alloc (.cells #[.bool en.put,.string (S en.key),.string (S en.val)] 114))) := (Below.refl _ _).alloc (Nat.le_refl _) _
 have HS0 : Hid (RDone G b w d (w.alloc (.cells #[.bool en.put,.string (S en.key),.string (S en.val)] 114))) := RDone.of_below hR HB.out
 have hzk : (S en.key).size = en.key.length := S_size _
 have hzv : (S en.val).size = en.val.length := S_size _
 have c1 : w.cell? ⟨b,1,none⟩ = some (.bool d.down) := hR.box.cell (j := 1) rfl
 have c13 : w.cell? ⟨b,13,none⟩ = some (.bool d.opn.isSome) := hR.box.cell (j := 13) rfl
 have hbl := hR.box.lt
 by_cases hkb : keyB (S en.key) = true
 ·have HK : Hid (∀ wx : World,Calls Tryz.prog 161 #[.string (S en.key)] wx fun e w' => e = .returned (.bool true) /\ w' = wx) := fun wx => by have := key_any (S en.key) wx; rw [hkb] at this; exact this
  by_cases hv : 30 < en.val.length
  ·have HE : Hid (d.add en = (1,d)) := radd_bad (.inr (.inr hv))
   have hvI : (30 : Int) < (en.val.length : Int) := by omega
   clear hR h hkb
   go_enter Tryz.func119,Tryz.ntmps119
   go_wp2_with (first | (go_at_call 161; refine (HK.out _).mono ?_; rintro e w1 ⟨rfl,rfl⟩))
   go_ret
   exact ⟨by rw [HE.out]; rfl,by rw [HE.out]; exact HS0.out⟩
  ·have hgood : ¬ (en.key.length < 1 \/ 20 < en.key.length \/ 30 < en.val.length) := by
    unfold keyB at hkb
    simp at hkb
    omega
   have hvI : ¬ (30 : Int) < (en.val.length : Int) := by omega
   cases hd : d.down with
   | true =>
    have HE : Hid (d.add en = (7,d)) := radd_down hgood hd
    rw [hd] at c1
    clear hR h hkb hgood
    go_enter Tryz.func119,Tryz.ntmps119
    go_wp2_with (first | (go_at_call 161; refine (HK.out _).mono ?_; rintro e w1 ⟨rfl,rfl⟩))
    go_ret
    exact ⟨by rw [HE.out]; rfl,by rw [HE.out]; exact HS0.out⟩
   | false =>
    have ho : d.opn = none := by
     rcases h with h | h | h
     ·exact absurd h hgood
     ·rw [hd] at h; cases h
     ·exact h
    have HE : Hid (d.add en = (2,d)) := radd_none hgood hd ho
    rw [hd] at c1
    rw [ho] at c13
    have c13' : w.cell? ⟨b,13,none⟩ = some (.bool false) := c13
    clear hR h hkb hgood c13
    go_enter Tryz.func119,Tryz.ntmps119
    go_wp2_with (first | (go_at_call 161; refine (HK.out _).mono ?_; rintro e w1 ⟨rfl,rfl⟩))
    go_ret
    exact ⟨by rw [HE.out]; rfl,by rw [HE.out]; exact HS0.out⟩
 ·have hkf : keyB (S en.key) = false := by simpa using hkb
  have HK : Hid (∀ wx : World,Calls Tryz.prog 161 #[.string (S en.key)] wx fun e w' => e = .returned (.bool false) /\ w' = wx) := fun wx => by have := key_any (S en.key) wx; rw [hkf] at this; exact this
  have HE : Hid (d.add en = (1,d)) := radd_bad (by unfold keyB at hkb; simp at hkb; omega)
  clear hR h hkb hkf
  go_enter Tryz.func119,Tryz.ntmps119
  go_wp2_with (first | (go_at_call 161; refine (HK.out _).mono ?_; rintro e w1 ⟨rfl,rfl⟩))
  go_ret
  exact ⟨by rw [HE.out]; rfl,by rw [HE.out]; exact HS0.out⟩
theorem add_end {W0 Wr : World} {G : Nat -> Prop} {b : Nat} {d : Dk} {q : RfP} (en : Ent) (hD : RDone G b W0 d Wr) (h : RefAt Wr (Fx G W0 Wr) b d q) (hl : d.waits.length <= 255) :
  ∃ g cap X,(Builtin.append_ #[115,115] 115 #[q.v,.slice (some ⟨Wr.heap.size,0,none⟩) 1 1]).run Tryz.prog (Wr.alloc (.cells #[.bool en.put,.string (S en.key),.string (S en.val)] 114)).drew = .ok (.slice (some ⟨g,0,none⟩) (d.waits.length + 1) cap) X /\
   X.cell? ⟨b,17,none⟩ = some q.v /\ X.frozen? ⟨b,17,none⟩ = false /\ Hid (RDone G b W0 { d with waits := d.waits ++ [en] } (X.setCell ⟨b,17,none⟩ (.slice (some ⟨g,0,none⟩) (d.waits.length + 1) cap))) := by
 have hb : Below Wr.heap.size Wr (Wr.alloc (.cells #[.bool en.put,.string (S en.key),.string (S en.val)] 114)).drew := ((Below.refl _ _).alloc (Nat.le_refl _) _).drew
 have hY := h.below hb
 obtain ⟨g,cap,X,a1,a2,a3,a4,a5⟩ := app_ent (en := en) (g0 := Wr.heap.size) hY.row (fun j u hu => cells_three_new Wr _ _ _ _ j u hu) (by omega)
 have hbx : Bx X b (refC d q) 273 := (a3.block b hY.box.lt (fun e => h.ne e.symm)).trans hY.box
 have hend := RDone.waited hD h hb a3 a2 a4 a5
 rw [List.length_append] at hend
 exact ⟨g,cap,X,a1,hbx.cell (j := 17) rfl,hbx.frozen 17,hend⟩
theorem radd_some (G : Nat -> Prop) (b : Nat) (d : Dk) (q : RfP) (en : Ent) (blk : Nat) (w : World) (hR : RefAt w G b d q) (hok : DkOk d) (hGz : ∀ k,G k -> k < w.heap.size) (hgood : ¬ (en.key.length < 1 \/ 20 < en.key.length \/ 30 < en.val.length)) (hd : d.down = false) (ho : d.opn = some blk) :
  Calls Tryz.prog 119 #[.pointer (some ⟨b,0,none⟩),.agg #[.bool en.put,.string (S en.key),.string (S en.val)]] w fun e w' => e = .returned (.int .i64 (d.add en).1) /\ RDone G b w (d.add en).2 w' := by
 obtain ⟨W,hW⟩ : ∃ W : World,W = w.alloc (.cells #[.bool en.put,.string (S en.key),.string (S en.val)] 114) := ⟨_,rfl⟩
 have hzW : W.heap.size = w.heap.size + 1 := by rw [hW]; simp
 have hBW : Below w.heap.size w W := by rw [hW]; exact (Below.refl _ _).alloc (Nat.le_refl _) _
 have hxW : Bx W w.heap.size #[.bool en.put,.string (S en.key),.string (S en.val)] 114 := by rw [hW]; exact bx_new _ _ _ rfl
 have HBB : Hid (∀ w1 : World,Below W.heap.size W w1 -> Below w.heap.size w w1) := fun w1 hb => hBW.trans (hb.mono (by omega))
 have HRB : Hid (∀ w1 : World,Below W.heap.size W w1 -> RefAt w1 G b d q) := fun w1 hb => hR.below (HBB.out w1 hb)
 have HXB : Hid (∀ w1 : World,Below W.heap.size W w1 -> Bx w1 w.heap.size #[.bool en.put,.string (S en.key),.string (S en.val)] 114) := fun w1 hb => hxW.below hb (by omega)
 have hzk : (S en.key).size = en.key.length := S_size _
 have hzv : (S en.val).size = en.val.length := S_size _
 have hkb : keyB (S en.key) = true := by unfold keyB; simp; omega
 have HK : Hid (∀ wx : World,Calls Tryz.prog 161 #[.string (S en.key)] wx fun e w' => e = .returned (.bool true) /\ w' = wx) := fun wx => by have := key_any (S en.key) wx; rw [hkb] at this; exact this
 have hvI : ¬ (30 : Int) < (en.val.length : Int) := by omega
 have HBY : Hid (∀ wx : World,Calls Tryz.prog 111 #[.agg #[.bool en.put,.string (S en.key),.string (S en.val)]] wx fun e w' => e = .returned (.string (S (entB en))) /\ Below wx.heap.size wx w') := fun wx => by
  have := bytes_any en.put (S en.key) (S en.val) wx (by omega) (by omega)
  rw [entB_L] at this
  exact this
 have hlen := hok.most
 have hsizes := ent_sizes hok.ents
 have heb : (entB en).length <= 53 := by rw [entB_length]; omega
 have hes : (S (entB en)).size = (entB en).length := S_size _
 have c1 : W.cell? ⟨b,1,none⟩ = some (.bool d.down) := (hR.below hBW).box.cell (j := 1) rfl
 have c13 : W.cell? ⟨b,13,none⟩ = some (.bool d.opn.isSome) := (hR.below hBW).box.cell (j := 13) rfl
 rw [hd] at c1
 rw [ho] at c13
 have c13' : W.cell? ⟨b,13,none⟩ = some (.bool true) := c13
 have x0 : W.cell? ⟨w.heap.size,0,none⟩ = some (.bool en.put) := hxW.cell (j := 0) rfl
 have x1 : W.cell? ⟨w.heap.size,1,none⟩ = some (.string (S en.key)) := hxW.cell (j := 1) rfl
 have x2 : W.cell? ⟨w.heap.size,2,none⟩ = some (.string (S en.val)) := hxW.cell (j := 2) rfl
 have HOK : Hid (DkOk d) := hok
 clear hR hBW hxW c13 hok hkb
 go_enter Tryz.func119,Tryz.ntmps119
 go_wp2_with fail
 have hW' : w.alloc (.cells #[.bool en.put,.string (S en.key),.string (S en.val)] 114) = W := hW.symm
 rw [hW']
 clear hW hW'
 go_wp2_with (first | (go_at_call 161; refine (HK.out _).mono ?_; rintro e W ⟨rfl,rfl⟩) | (go_at_call 111; refine (HBY.out _).mono ?_; rintro e w1 ⟨rfl,hb1⟩; have HB1 : Hid (Below W.heap.size W w1) := hb1; clear hb1))
 have hw53 : ∀ k,(entsB (d.waits.take k)).length <= 13515 := fun k => by
  have h1 := ent_sizes (ws := d.waits.take k) (fun e he => HOK.out.ents e (List.mem_of_mem_take he))
  have h2 : (d.waits.take k).length <= 255 := by simp; omega
  omega
 have HW53 : Hid (∀ k,(entsB (d.waits.take k)).length <= 13515) := hw53
 clear hw53 hsizes c1 c13' x0 x1 x2
 go_loopw [6,7] (fun sz i wr => ∃ k : Nat,k <= d.waits.length /\ i = .int .i64 k /\ sz = .int .i64 (((entB en).length : Int) + ((entsB (d.waits.take k)).length : Int)) /\ Below W.heap.size W wr) (fun _ i _ => d.waits.length - (intOf i).toNat)
 case atStart => exact ⟨0,by omega,rfl,by simp [entsB,hes],HB1.out⟩
 case round =>
  obtain ⟨k,hk,rfl,rfl,hb⟩ := hrel
  have hRr := HRB.out wr hb
  have hle := HW53.out k
  by_cases hlt : k < d.waits.length
  ·obtain ⟨g,cap,hv,_,hgl,hgc⟩ := own_cellsN hRr.row (by omega)
   have c17 : wr.cell? ⟨b,17,none⟩ = some q.v := hRr.box.cell (j := 17) rfl
   rw [hv] at c17
   obtain ⟨a0,a1,a2⟩ := cellsE_get hlt
   have g0 := (hgc (k * 3) (by omega)).trans a0
   have g1 := (hgc (k * 3 + 1) (by omega)).trans a1
   have g2 := (hgc (k * 3 + 2) (by omega)).trans a2
   have hek := HOK.out.ents d.waits[k] (List.getElem_mem hlt)
   have HN : Hid ((entsB (d.waits.take (k + 1))).length = (entsB (d.waits.take k)).length + (entB d.waits[k]).length) := entsB_take hlt
   have HB : Hid (Below W.heap.size W wr) := hb
   have hes2 : (S (entB d.waits[k])).size = (entB d.waits[k]).length := S_size _
   obtain ⟨e1,e2,e3,_⟩ := hek
   have hel : (entB d.waits[k]).length <= 53 := by rw [entB_length]; omega
   have HBYk : Hid (∀ wx : World,Calls Tryz.prog 111 #[.agg #[.bool d.waits[k].put,.string (S d.waits[k].key),.string (S d.waits[k].val)]] wx fun e w' => e = .returned (.string (S (entB d.waits[k]))) /\ Below wx.heap.size wx w') := fun wx => by
    have := bytes_any d.waits[k].put (S d.waits[k].key) (S d.waits[k].val) wx (by rw [S_size]; omega) (by rw [S_size]; omega)
    rw [entB_L] at this
    exact this
   clear a0 a1 a2 hgc hRr hb hv e1 e2 e3
   generalize d.waits[k] = ek at *
   go_wp2_with (first | (go_at_call 111; refine (HBYk.out _).mono ?_; rintro e w2 ⟨rfl,hb2⟩; have HB2 : Hid (Below wr.heap.size wr w2) := hb2; clear hb2))
   go_roundw
   case rel => exact ⟨k + 1,by omega,by go_num,by rw [HN.out]; congr 1; omega,HB.out.trans (HB2.out.mono HB.out.size)⟩
   case measure => simp [intOf]; omega
  ·have hkn : k = d.waits.length := by omega
   subst hkn
   rw [List.take_length] at hle
   rw [List.take_length]
   have HB : Hid (Below W.heap.size W wr) := hb
   have c14 : wr.cell? ⟨b,14,none⟩ = some (.int .i64 q.c0) := hRr.box.cell (j := 14) rfl
   rw [hRr.blk blk ho] at c14
   obtain ⟨a,cp,hv⟩ := own_len hRr.row
   have c17 : wr.cell? ⟨b,17,none⟩ = some q.v := hRr.box.cell (j := 17) rfl
   have hxr := HXB.out wr hb
   have x0 : wr.cell? ⟨w.heap.size,0,none⟩ = some (.bool en.put) := hxr.cell (j := 0) rfl
   have x1 : wr.cell? ⟨w.heap.size,1,none⟩ = some (.string (S en.key)) := hxr.cell (j := 1) rfl
   have x2 : wr.cell? ⟨w.heap.size,2,none⟩ = some (.string (S en.val)) := hxr.cell (j := 2) rfl
   by_cases hA : (entB en).length + (entsB d.waits).length <= blk /\ d.waits.length < 255
   ·rw [hv] at c17
    have g1 : ¬ ((blk : Int) < ((entB en).length : Int) + ((entsB d.waits).length : Int)) := by omega
    have g2 : ¬ ((d.waits.length : Int) = 255) := by omega
    have hE0 : d.add en = (0,{ d with waits := d.waits ++ [en] }) := radd_fits hgood hd ho (by unfold Dk.fits; simp; omega)
    have HE : Hid (d.add en = (0,{ d with waits := d.waits ++ [en] })) := hE0
    obtain ⟨g,gc,X,hrun,k17,kf17,HEND⟩ := add_end (q := q) en (RDone.of_below (HRB.out W (Below.refl _ _)) hb) ((hRr).mono (fun k hk => .inl hk)) hlen
    rw [hv] at hrun k17
    have HRUN : Hid _ := hrun
    have HB0 : Hid (Below w.heap.size w W) := HBB.out W (Below.refl _ _)
    have lt1 := hRr.box.lt
    have lt2 := hxr.lt
    have ne1 : b ≠ wr.heap.size := by omega
    have ne2 : wr.heap.size ≠ b := by omega
    have ne3 : w.heap.size ≠ wr.heap.size := by omega
    have ne4 : wr.heap.size ≠ w.heap.size := by omega
    clear hrun hE0 hRr hb hgood hd ho hv hxr hle hA
    go_wp2_with fail
    go_region_law (refine step_append_run rfl (.tmp 76) (.tmp 78) 115 rfl (by simp [Act.eval,Act.put]) (by simp [Act.eval,Act.put]) HRUN.out ?_)
    all_goals
     go_wp2
     go_ret
     exact ⟨by rw [HE.out]; rfl,by rw [HE.out]; exact RDone.later HB0.out HEND.out⟩
   ·have lt1 := hRr.box.lt
    have lt2 := hxr.lt
    have hf0 := (HOK.out.opn blk ho).1
    by_cases hw0 : d.waits = []
    ·have HE : Hid (d.add en = (0,{ d with waits := d.waits ++ [en] })) := radd_fits hgood hd ho (by unfold Dk.fits; rw [hw0]; rfl)
     have g1 : ((blk : Int) < ((entB en).length : Int) + ((entsB d.waits).length : Int)) := by
      have : d.waits.length = 0 := by rw [hw0]; rfl
      omega
     have HWR := rwrites_none b d q wr G hRr hw0
     obtain ⟨g,gc,X,hrun,k17,kf17,HEND⟩ := add_end (q := q) en (RDone.of_below (HRB.out W (Below.refl _ _)) hb) ((hRr).mono (fun k hk => .inl hk)) hlen
     rw [hv] at hrun k17 c17
     have HRUN : Hid _ := hrun
     have HB0 : Hid (Below w.heap.size w W) := HBB.out W (Below.refl _ _)
     have ne1 : b ≠ wr.heap.size := by omega
     have ne2 : wr.heap.size ≠ b := by omega
     have ne3 : w.heap.size ≠ wr.heap.size := by omega
     have ne4 : wr.heap.size ≠ w.heap.size := by omega
     clear hrun hRr hb hgood hd ho hv hxr hle hA hw0 hf0
     go_wp2_with (first | (go_at_call 174; refine HWR.mono ?_; rintro e wr ⟨rfl,rfl⟩))
     go_region_law (refine step_append_run rfl (.tmp 76) (.tmp 78) 115 rfl (by simp [Act.eval,Act.put]) (by simp [Act.eval,Act.put]) HRUN.out ?_)
     all_goals
      go_wp2
      go_ret
      exact ⟨by rw [HE.out]; rfl,by rw [HE.out]; exact RDone.later HB0.out HEND.out⟩
    ·have hfit : d.fits blk en = false := by
      unfold Dk.fits
      simp [hw0]
      omega
     have HAW := radd_writes hgood hd ho hfit
     have HWR := rwrites_some G b d q wr hRr HOK.out hw0 hf0
     have hfine := write_fine HOK.out hd
     have HBwr : Hid (Below w.heap.size w wr) := HBB.out wr hb
     generalize d.write = r at *
     obtain ⟨re,rd⟩ := r
     simp only at HAW HWR hfine
     have hsplit : ((blk : Int) < ((entB en).length : Int) + ((entsB d.waits).length : Int)) \/ (¬ ((blk : Int) < ((entB en).length : Int) + ((entsB d.waits).length : Int)) /\ (d.waits.length : Int) = 255) := by omega
     by_cases h0 : re = 0
     ·subst h0
      rw [if_pos rfl] at HAW
      have HE : Hid (d.add en = (0,{ rd with waits := rd.waits ++ [en] })) := HAW
      obtain ⟨f1,f2,f3,f4⟩ := hfine rfl
      have HAFT : Hid (∀ w2 : World,RDone G b wr rd w2 -> ∃ a2 cp2 g gc X,w2.cell? ⟨b,17,none⟩ = some (.slice a2 0 cp2) /\ w2.cell? ⟨w.heap.size,0,none⟩ = some (.bool en.put) /\ w2.cell? ⟨w.heap.size,1,none⟩ = some (.string (S en.key)) /\ w2.cell? ⟨w.heap.size,2,none⟩ = some (.string (S en.val)) /\ wr.heap.size <= w2.heap.size /\
        (Builtin.append_ #[115,115] 115 #[.slice a2 0 cp2,.slice (some ⟨w2.heap.size,0,none⟩) 1 1]).run Tryz.prog (w2.alloc (.cells #[.bool en.put,.string (S en.key),.string (S en.val)] 114)).drew = .ok (.slice (some ⟨g,0,none⟩) 1 gc) X /\
        X.cell? ⟨b,17,none⟩ = some (.slice a2 0 cp2) /\ X.frozen? ⟨b,17,none⟩ = false /\ Hid (RDone G b wr { rd with waits := rd.waits ++ [en] } (X.setCell ⟨b,17,none⟩ (.slice (some ⟨g,0,none⟩) 1 gc)))) := fun w2 h => by
       have h' := h
       obtain ⟨⟨q2,h1⟩,h2⟩ := h'
       obtain ⟨g,gc,X,e1,e2,e3,e4⟩ := add_end en h h1 (by rw [f4]; simp)
       obtain ⟨a2,cp2,hv2⟩ := own_len h1.row
       have c2 : w2.cell? ⟨b,17,none⟩ = some q2.v := h1.box.cell (j := 17) rfl
       have hl0 : rd.waits.length = 0 := by rw [f4]; rfl
       rw [hl0] at hv2 e1 e4
       rw [hv2] at e1 e2 c2
       have hx2 := hxr.chg h2 (fun hg => by have := hGz _ hg; omega)
       exact ⟨a2,cp2,g,gc,X,c2,hx2.cell (j := 0) rfl,hx2.cell (j := 1) rfl,hx2.cell (j := 2) rfl,h2.size,e1,e2,e3,e4⟩
      rw [hv] at c17
      clear hRr hb hgood hd ho hv hxr hle hA hw0 hf0 HAW hfine f1 f2 f3 f4 hfit
      rcases hsplit with g1 | ⟨g1,g2⟩
      all_goals
       go_wp2_with (first | (go_at_call 174; refine HWR.mono ?_; rintro e w2 ⟨rfl,hd2⟩; obtain ⟨a2,cp2,g,gc,X,d17,y0,y1,y2,hz2,hrun,k17,kf17,HEND⟩ := HAFT.out w2 hd2; have HRUN : Hid _ := hrun; have lt3 : b < w2.heap.size := (by omega); have lt4 : w.heap.size < w2.heap.size := (by omega); have ne1 : b ≠ w2.heap.size := (by omega); have ne2 : w2.heap.size ≠ b := (by omega); have ne3 : w.heap.size ≠ w2.heap.size := (by omega); have ne4 : w2.heap.size ≠ w.heap.size := (by omega); clear hd2 hrun))
       go_region_law (refine step_append_run rfl (.tmp 76) (.tmp 78) 115 rfl (by simp [Act.eval,Act.put]) (by simp [Act.eval,Act.put]) HRUN.out ?_)
       all_goals
        go_wp2
        go_ret
        exact ⟨by rw [HE.out]; rfl,by rw [HE.out]; exact RDone.later HBwr.out HEND.out⟩
     ·rw [if_neg h0] at HAW
      have HE : Hid (d.add en = (re,rd)) := HAW
      rw [hv] at c17
      clear hRr hb hgood hd ho hv hxr hle hA hw0 hf0 HAW hfine hfit
      rcases hsplit with g1 | ⟨g1,g2⟩
      all_goals
       go_wp2_with (first | (go_at_call 174; refine HWR.mono ?_; rintro e w2 ⟨rfl,hd2⟩; have HD2 : Hid (RDone G b wr rd w2) := hd2; clear hd2))
       go_ret
       exact ⟨by rw [HE.out]; rfl,by rw [HE.out]; exact RDone.later HBwr.out HD2.out⟩
theorem radd_any (G : Nat -> Prop) (b : Nat) (d : Dk) (q : RfP) (en : Ent) (w : World) (hR : RefAt w G b d q) (hok : DkOk d) (hGz : ∀ k,G k -> k < w.heap.size) :
  Calls Tryz.prog 119 #[.pointer (some ⟨b,0,none⟩),.agg #[.bool en.put,.string (S en.key),.string (S en.val)]] w fun e w' => e = .returned (.int .i64 (d.add en).1) /\ RDone G b w (d.add en).2 w' := by
 by_cases h1 : en.key.length < 1 \/ 20 < en.key.length \/ 30 < en.val.length
 ·exact radd_not G b d q en w hR (.inl h1)
 ·cases hd : d.down with
  | true => exact radd_not G b d q en w hR (.inr (.inl hd))
  | false =>
   cases ho : d.opn with
   | none => exact radd_not G b d q en w hR (.inr (.inr ho))
   | some blk => exact radd_some G b d q en blk w hR hok hGz h1 hd ho
theorem does_create (m : Bool) (o : OpV) (hk : o.kind = 6) : Does m o := by
 intro E n bw nd c Fr w κ ds P ls j d p h1 h2 h3 h4 h5 h6 h7 hcb hd hp
 obtain ⟨kind,at',x,y,s,t,u,c0,c1,c2⟩ := o
 dsimp only at hk
 subst hk
 have hok : DkOk d := (h3 _ (List.mem_of_getElem? hd)).2
 obtain ⟨XD,hS0,hX,hY⟩ := does_two (d' := (d.create c0 c1 c2).2) ⟨6,at',x,y,s,t,u,c0,c1,c2⟩ h1 h2 h3 h4 h5 h6 h7 hd hp (hok.create c0 c1 c2) 36 118
  #[.pointer (some ⟨p.2.1,0,none⟩),.agg #[.int .i64 c0,.int .i64 c1,.int .i64 c2]] #[.pointer (some ⟨p.2.2,0,none⟩),.agg #[.int .i64 c0,.int .i64 c1,.int .i64 c2]] (d.create c0 c1 c2).1
  (fun w1 G q e1 e2 e3 => create_any E n G p.2.1 d q c0 c1 c2 w1 e1 e2 e3 hok) (fun w1 G q e1 e2 => rcreate_any G p.2.2 d q c0 c1 c2 w1 e2 hok e1)
 generalize (d.create c0 c1 c2).1 = code at *
 clear h1 h2 h3 h4 h5 h6 h7 hok hd hp
 obtain ⟨pb,px,py⟩ := p
 dsimp only at *
 have HS0 : Hid (dS pb px py w.heap.size x y s t c0 c1 c2 (w.alloc (.cells (opC ⟨6,at',x,y,s,t,u,c0,c1,c2⟩) 68))) := hS0
 have HX : Hid (∀ w1 : World,Below (w.alloc (.cells (opC ⟨6,at',x,y,s,t,u,c0,c1,c2⟩) 68)).heap.size (w.alloc (.cells (opC ⟨6,at',x,y,s,t,u,c0,c1,c2⟩) 68)) w1 -> _) := hX
 have HY : Hid (∀ w2 : World,XD w2 -> _) := hY
 clear hS0 hX hY
 unfold OpV.val
 dsimp only
 go_enter Tryz.func65,Tryz.ntmps65
 go_wp2_with fail
 go_region_held3 (fun w' => (w'.cell? ⟨pb,0,none⟩ = some (.pointer (some ⟨px,0,none⟩)) /\ w'.cell? ⟨pb,1,none⟩ = some (.pointer (some ⟨py,0,none⟩))) /\ (w'.cell? ⟨w.heap.size,2,none⟩ = some (.int .i64 x) /\ w'.cell? ⟨w.heap.size,3,none⟩ = some (.int .i64 y)) /\ (w'.cell? ⟨w.heap.size,4,none⟩ = some (.string s) /\ w'.cell? ⟨w.heap.size,5,none⟩ = some (.string t)) /\ (w'.cell? ⟨w.heap.size,7,none⟩ = some (.int .i64 c0) /\ w'.cell? ⟨w.heap.size,8,none⟩ = some (.int .i64 c1) /\ w'.cell? ⟨w.heap.size,9,none⟩ = some (.int .i64 c2))) (first | (exact HS0.out) | (assumption)) (first | (go_at_call 36; refine (HX.out _ ?_).mono ?_; exact (Below.refl _ _).drew; rintro e w2 ⟨rfl,hx⟩; obtain ⟨hS2,hy2⟩ := HY.out w2 hx; have HS2 : Hid (dS pb px py w.heap.size x y s t c0 c1 c2 w2) := hS2; have HY2 : Hid (∀ w3 : World,Below w2.heap.size w2 w3 -> _) := hy2; clear hx hy2))
 all_goals
  clear hS2
  go_wp2_with fail
  go_region_held3 (fun w' => (w'.cell? ⟨pb,0,none⟩ = some (.pointer (some ⟨px,0,none⟩)) /\ w'.cell? ⟨pb,1,none⟩ = some (.pointer (some ⟨py,0,none⟩))) /\ (w'.cell? ⟨w.heap.size,2,none⟩ = some (.int .i64 x) /\ w'.cell? ⟨w.heap.size,3,none⟩ = some (.int .i64 y)) /\ (w'.cell? ⟨w.heap.size,4,none⟩ = some (.string s) /\ w'.cell? ⟨w.heap.size,5,none⟩ = some (.string t)) /\ (w'.cell? ⟨w.heap.size,7,none⟩ = some (.int .i64 c0) /\ w'.cell? ⟨w.heap.size,8,none⟩ = some (.int .i64 c1) /\ w'.cell? ⟨w.heap.size,9,none⟩ = some (.int .i64 c2))) (first | (exact HS2.out) | (assumption)) (first | (go_at_call 118; refine (HY2.out _ ?_).mono ?_; exact (Below.refl _ _).drew; rintro e w3 ⟨rfl,hS3,hl⟩; have HL : Hid (Left E n bw m nd c Fr (6 = (10 : Int)) P.pv w w3) := hl; clear hl))
  all_goals
   clear hS3
   go_wp2_with (first | (go_at_call 114; refine (num_any _ _).mono ?_; rintro e w3 ⟨rfl,rfl⟩))
   go_ret
   exact ⟨by simp,HL.out⟩
theorem does_put (m : Bool) (o : OpV) (hk : o.kind = 7) : Does m o := by
 intro E n bw nd c Fr w κ ds P ls j d p h1 h2 h3 h4 h5 h6 h7 hcb hd hp
 obtain ⟨kind,at',x,y,s,t,u,c0,c1,c2⟩ := o
 dsimp only at hk
 subst hk
 obtain ⟨key,rfl⟩ : ∃ l,s = S l := ⟨s.data.toList,rfl⟩
 obtain ⟨val,rfl⟩ : ∃ l,t = S l := ⟨t.data.toList,rfl⟩
 have hok : DkOk d := (h3 _ (List.mem_of_getElem? hd)).2
 obtain ⟨XD,hS0,hX,hY⟩ := does_two (d' := (d.add ⟨true,key,val⟩).2) ⟨7,at',x,y,(S key),(S val),u,c0,c1,c2⟩ h1 h2 h3 h4 h5 h6 h7 hd hp (hok.add (fun e => by cases e)) 26 119
  #[.pointer (some ⟨p.2.1,0,none⟩),.string (S key),.string (S val)] #[.pointer (some ⟨p.2.2,0,none⟩),.agg #[.bool true,.string (S key),.string (S val)]] (d.add ⟨true,key,val⟩).1
  (fun w1 G q e1 e2 e3 => putS_any E n G p.2.1 d q key val w1 e1 e2 e3 hok) (fun w1 G q e1 e2 => radd_any G p.2.2 d q ⟨true,key,val⟩ w1 e2 hok e1)
 generalize (d.add ⟨true,key,val⟩).1 = code at *
 clear h1 h2 h3 h4 h5 h6 h7 hok hd hp
 obtain ⟨pb,px,py⟩ := p
 dsimp only at *
 have HS0 : Hid (dS pb px py w.heap.size x y (S key) (S val) c0 c1 c2 (w.alloc (.cells (opC ⟨7,at',x,y,(S key),(S val),u,c0,c1,c2⟩) 68))) := hS0
 have HX : Hid (∀ w1 : World,Below (w.alloc (.cells (opC ⟨7,at',x,y,(S key),(S val),u,c0,c1,c2⟩) 68)).heap.size (w.alloc (.cells (opC ⟨7,at',x,y,(S key),(S val),u,c0,c1,c2⟩) 68)) w1 -> _) := hX
 have HY : Hid (∀ w2 : World,XD w2 -> _) := hY
 clear hS0 hX hY
 unfold OpV.val
 dsimp only
 go_enter Tryz.func65,Tryz.ntmps65
 go_wp2_with fail
 go_region_held3 (fun w' => (w'.cell? ⟨pb,0,none⟩ = some (.pointer (some ⟨px,0,none⟩)) /\ w'.cell? ⟨pb,1,none⟩ = some (.pointer (some ⟨py,0,none⟩))) /\ (w'.cell? ⟨w.heap.size,2,none⟩ = some (.int .i64 x) /\ w'.cell? ⟨w.heap.size,3,none⟩ = some (.int .i64 y)) /\ (w'.cell? ⟨w.heap.size,4,none⟩ = some (.string (S key)) /\ w'.cell? ⟨w.heap.size,5,none⟩ = some (.string (S val))) /\ (w'.cell? ⟨w.heap.size,7,none⟩ = some (.int .i64 c0) /\ w'.cell? ⟨w.heap.size,8,none⟩ = some (.int .i64 c1) /\ w'.cell? ⟨w.heap.size,9,none⟩ = some (.int .i64 c2))) (first | (exact HS0.out) | (assumption)) (first | (go_at_call 26; refine (HX.out _ ?_).mono ?_; exact (Below.refl _ _).drew; rintro e w2 ⟨rfl,hx⟩; obtain ⟨hS2,hy2⟩ := HY.out w2 hx; have HS2 : Hid (dS pb px py w.heap.size x y (S key) (S val) c0 c1 c2 w2) := hS2; have HY2 : Hid (∀ w3 : World,Below w2.heap.size w2 w3 -> _) := hy2; clear hx hy2))
 all_goals
  clear hS2
  go_wp2_with fail
  go_region_held3 (fun w' => (w'.cell? ⟨pb,0,none⟩ = some (.pointer (some ⟨px,0,none⟩)) /\ w'.cell? ⟨pb,1,none⟩ = some (.pointer (some ⟨py,0,none⟩))) /\ (w'.cell? ⟨w.heap.size,2,none⟩ = some (.int .i64 x) /\ w'.cell? ⟨w.heap.size,3,none⟩ = some (.int .i64 y)) /\ (w'.cell? ⟨w.heap.size,4,none⟩ = some (.string (S key)) /\ w'.cell? ⟨w.heap.size,5,none⟩ = some (.string (S val))) /\ (w'.cell? ⟨w.heap.size,7,none⟩ = some (.int .i64 c0) /\ w'.cell? ⟨w.heap.size,8,none⟩ = some (.int .i64 c1) /\ w'.cell? ⟨w.heap.size,9,none⟩ = some (.int .i64 c2))) (first | (exact HS2.out) | (assumption)) (first | (go_at_call 119; refine (HY2.out _ ?_).mono ?_; exact (Below.refl _ _).drew; rintro e w3 ⟨rfl,hS3,hl⟩; have HL : Hid (Left E n bw m nd c Fr (7 = (10 : Int)) P.pv w w3) := hl; clear hl))
  all_goals
   clear hS3
   go_wp2_with (first | (go_at_call 114; refine (num_any _ _).mono ?_; rintro e w3 ⟨rfl,rfl⟩))
   go_ret
   exact ⟨by simp,HL.out⟩
theorem does_delete (m : Bool) (o : OpV) (hk : o.kind = 8) : Does m o := by
 intro E n bw nd c Fr w κ ds P ls j d p h1 h2 h3 h4 h5 h6 h7 hcb hd hp
 obtain ⟨kind,at',x,y,s,t,u,c0,c1,c2⟩ := o
 dsimp only at hk
 subst hk
 obtain ⟨key,rfl⟩ : ∃ l,s = S l := ⟨s.data.toList,rfl⟩
 have hok : DkOk d := (h3 _ (List.mem_of_getElem? hd)).2
 obtain ⟨XD,hS0,hX,hY⟩ := does_two (d' := (d.add ⟨false,key,[]⟩).2) ⟨8,at',x,y,(S key),t,u,c0,c1,c2⟩ h1 h2 h3 h4 h5 h6 h7 hd hp (hok.add (fun _ => rfl)) 24 119
  #[.pointer (some ⟨p.2.1,0,none⟩),.string (S key)] #[.pointer (some ⟨p.2.2,0,none⟩),.agg #[.bool false,.string (S key),.string ⟨#[]⟩]] (d.add ⟨false,key,[]⟩).1
  (fun w1 G q e1 e2 e3 => delS_any E n G p.2.1 d q key w1 e1 e2 e3 hok) (fun w1 G q e1 e2 => radd_any G p.2.2 d q ⟨false,key,[]⟩ w1 e2 hok e1)
 generalize (d.add ⟨false,key,[]⟩).1 = code at *
 clear h1 h2 h3 h4 h5 h6 h7 hok hd hp
 obtain ⟨pb,px,py⟩ := p
 dsimp only at *
 have HS0 : Hid (dS pb px py w.heap.size x y (S key) t c0 c1 c2 (w.alloc (.cells (opC ⟨8,at',x,y,(S key),t,u,c0,c1,c2⟩) 68))) := hS0
 have HX : Hid (∀ w1 : World,Below (w.alloc (.cells (opC ⟨8,at',x,y,(S key),t,u,c0,c1,c2⟩) 68)).heap.size (w.alloc (.cells (opC ⟨8,at',x,y,(S key),t,u,c0,c1,c2⟩) 68)) w1 -> _) := hX
 have HY : Hid (∀ w2 : World,XD w2 -> _) := hY
 clear hS0 hX hY
 unfold OpV.val
 dsimp only
 go_enter Tryz.func65,Tryz.ntmps65
 go_wp2_with fail
 go_region_held3 (fun w' => (w'.cell? ⟨pb,0,none⟩ = some (.pointer (some ⟨px,0,none⟩)) /\ w'.cell? ⟨pb,1,none⟩ = some (.pointer (some ⟨py,0,none⟩))) /\ (w'.cell? ⟨w.heap.size,2,none⟩ = some (.int .i64 x) /\ w'.cell? ⟨w.heap.size,3,none⟩ = some (.int .i64 y)) /\ (w'.cell? ⟨w.heap.size,4,none⟩ = some (.string (S key)) /\ w'.cell? ⟨w.heap.size,5,none⟩ = some (.string t)) /\ (w'.cell? ⟨w.heap.size,7,none⟩ = some (.int .i64 c0) /\ w'.cell? ⟨w.heap.size,8,none⟩ = some (.int .i64 c1) /\ w'.cell? ⟨w.heap.size,9,none⟩ = some (.int .i64 c2))) (first | (exact HS0.out) | (assumption)) (first | (go_at_call 24; refine (HX.out _ ?_).mono ?_; exact (Below.refl _ _).drew; rintro e w2 ⟨rfl,hx⟩; obtain ⟨hS2,hy2⟩ := HY.out w2 hx; have HS2 : Hid (dS pb px py w.heap.size x y (S key) t c0 c1 c2 w2) := hS2; have HY2 : Hid (∀ w3 : World,Below w2.heap.size w2 w3 -> _) := hy2; clear hx hy2))
 all_goals
  clear hS2
  go_wp2_with fail
  go_region_held3 (fun w' => (w'.cell? ⟨pb,0,none⟩ = some (.pointer (some ⟨px,0,none⟩)) /\ w'.cell? ⟨pb,1,none⟩ = some (.pointer (some ⟨py,0,none⟩))) /\ (w'.cell? ⟨w.heap.size,2,none⟩ = some (.int .i64 x) /\ w'.cell? ⟨w.heap.size,3,none⟩ = some (.int .i64 y)) /\ (w'.cell? ⟨w.heap.size,4,none⟩ = some (.string (S key)) /\ w'.cell? ⟨w.heap.size,5,none⟩ = some (.string t)) /\ (w'.cell? ⟨w.heap.size,7,none⟩ = some (.int .i64 c0) /\ w'.cell? ⟨w.heap.size,8,none⟩ = some (.int .i64 c1) /\ w'.cell? ⟨w.heap.size,9,none⟩ = some (.int .i64 c2))) (first | (exact HS2.out) | (assumption)) (first | (go_at_call 119; refine (HY2.out _ ?_).mono ?_; exact (Below.refl _ _).drew; rintro e w3 ⟨rfl,hS3,hl⟩; have HL : Hid (Left E n bw m nd c Fr (8 = (10 : Int)) P.pv w w3) := hl; clear hl))
  all_goals
   clear hS3
   go_wp2_with (first | (go_at_call 114; refine (num_any _ _).mono ?_; rintro e w3 ⟨rfl,rfl⟩))
   go_ret
   exact ⟨by simp,HL.out⟩
theorem does_flush (m : Bool) (o : OpV) (hk : o.kind = 9) : Does m o := by
 intro E n bw nd c Fr w κ ds P ls j d p h1 h2 h3 h4 h5 h6 h7 hcb hd hp
 obtain ⟨kind,at',x,y,s,t,u,c0,c1,c2⟩ := o
 dsimp only at hk
 subst hk
 have hok : DkOk d := (h3 _ (List.mem_of_getElem? hd)).2
 have hpr := h1.pairs j _ p hd hp
 obtain ⟨XD,hS0,hX,hY⟩ := does_two (d' := d.flush.2) ⟨9,at',x,y,s,t,u,c0,c1,c2⟩ h1 h2 h3 h4 h5 h6 h7 hd hp (hok.flush) 17 120
  #[.pointer (some ⟨p.2.1,0,none⟩)] #[.pointer (some ⟨p.2.2,0,none⟩)] d.flush.1
  (fun w1 G q e1 e2 e3 => flush_any E n G p.2.1 d q w1 e1 e2 e3 hok) (fun w1 G q e1 e2 => rflush_any G p.2.2 d q w1 e2 hok)
 generalize d.flush.1 = code at *
 clear h1 h2 h3 h4 h5 h6 h7 hok hd hp
 obtain ⟨pb,px,py⟩ := p
 dsimp only at *
 have HS0 : Hid (dS pb px py w.heap.size x y s t c0 c1 c2 (w.alloc (.cells (opC ⟨9,at',x,y,s,t,u,c0,c1,c2⟩) 68))) := hS0
 have HX : Hid (∀ w1 : World,Below (w.alloc (.cells (opC ⟨9,at',x,y,s,t,u,c0,c1,c2⟩) 68)).heap.size (w.alloc (.cells (opC ⟨9,at',x,y,s,t,u,c0,c1,c2⟩) 68)) w1 -> _) := hX
 have HY : Hid (∀ w2 : World,XD w2 -> _) := hY
 have pc0 : w.cell? ⟨pb,0,none⟩ = some (.pointer (some ⟨px,0,none⟩)) := hpr.box.cell (j := 0) rfl
 have plt : pb < w.heap.size := hpr.box.lt
 clear hS0 hX hY hpr
 unfold OpV.val
 dsimp only
 go_enter Tryz.func65,Tryz.ntmps65
 go_wp2_with (first | (go_at_call 17; refine (HX.out _ ?_).mono ?_; exact (Below.refl _ _); rintro e w2 ⟨rfl,hx⟩; obtain ⟨hS2,hy2⟩ := HY.out w2 hx; have HS2 : Hid (dS pb px py w.heap.size x y s t c0 c1 c2 w2) := hS2; have HY2 : Hid (∀ w3 : World,Below w2.heap.size w2 w3 -> _) := hy2; clear hx hy2; obtain ⟨⟨k0,k1⟩,_⟩ := hS2) | (go_at_call 120; refine (HY2.out _ ?_).mono ?_; exact (Below.refl _ _); rintro e w3 ⟨rfl,hS3,hl⟩; have HL : Hid (Left E n bw m nd c Fr (9 = (10 : Int)) P.pv w w3) := hl; clear hl; clear hS3) | (go_at_call 114; refine (num_any _ _).mono ?_; rintro e w3 ⟨rfl,rfl⟩))
 go_ret
 exact ⟨by simp,HL.out⟩
theorem fileR_down {d : Dk} {l : List UInt8} (h : d.down = true) : d.fileR l = ([],7) := by unfold Dk.fileR; rw [if_pos h]
theorem fileR_none {d : Dk} {s : ByteArray} (hd : d.down = false) (h : ∀ i,i < 3 -> ¬ (S (nm i) = s /\ (d.file i).isSome = true)) : d.fileR s.data.toList = ([],2) := by
 unfold Dk.fileR
 rw [if_neg (by simp [hd])]
 cases hf : d.file (nameN s.data.toList) with
 | none => rfl
 | some f =>
  exfalso
  have h2 := file_le hf
  refine h (nameN s.data.toList) (by omega) ⟨?_,by rw [hf]; rfl⟩
  rw [nm_nameN h2]
  rfl
theorem fileR_some {d : Dk} {s : ByteArray} {i : Nat} {f : Fl} (hd : d.down = false) (hi : i < 3) (hs : S (nm i) = s) (hf : d.file i = some f) : d.fileR s.data.toList = (f.text,0) := by
 subst hs
 unfold Dk.fileR
 rw [if_neg (by simp [hd]),show (S (nm i)).data.toList = nm i from rfl,nameN_nm (by omega),hf]
theorem rfile_any (G : Nat -> Prop) (b : Nat) (d : Dk) (q : RfP) (s : ByteArray) (w : World) (hR : RefAt w G b d q) :
  Calls Tryz.prog 178 #[.pointer (some ⟨b,0,none⟩),.string s] w fun e w' => e = .returned (.tuple #[.string (S (d.fileR s.data.toList).1),.int .i64 (d.fileR s.data.toList).2]) /\ Below w.heap.size w w' := by
 have c1 : w.cell? ⟨b,1,none⟩ = some (.bool d.down) := hR.box.cell (j := 1) rfl
 cases hd : d.down with
 | true =>
  have HE : Hid (d.fileR s.data.toList = ([],7)) := fileR_down hd
  rw [hd] at c1
  clear hR
  go_enter Tryz.func178,Tryz.ntmps178
  go_wp2
  go_ret2
  exact ⟨by rw [HE.out]; rfl,Below.refl _ _⟩
 | false =>
  rw [hd] at c1
  have HR : Hid (RefAt w G b d q) := hR
  clear hR
  go_enter Tryz.func178,Tryz.ntmps178
  go_wp2
  go_loopw [7] (fun i wr => ∃ (k : Nat),k <= 3 /\ i = .int .i64 k /\ Hid (∀ i,i < k -> ¬ (S (nm i) = s /\ (d.file i).isSome = true)) /\ wr = w.alloc (.cells #[.string ⟨#[108,111,103]⟩,.string ⟨#[110,101,119]⟩,.string ⟨#[105,110,100,101,120]⟩] 9)) (fun i _ => 3 - (intOf i).toNat)
  case atStart => exact ⟨0,by omega,rfl,fun i hi => absurd hi (by omega),rfl⟩
  case round =>
   obtain ⟨k,hk,rfl,HN,rfl⟩ := hrel
   have HB : Hid (Below w.heap.size w (w.alloc (.cells #[.string ⟨#[108,111,103]⟩,.string ⟨#[110,101,119]⟩,.string ⟨#[105,110,100,101,120]⟩] 9))) := (Below.refl _ _).alloc (Nat.le_refl _) _
   by_cases hlt : k < 3
   ·have HRA := HR.out.below HB.out
    obtain ⟨g0,g1,g2⟩ := file_cells HRA.box hlt
    have nmc : (w.alloc (.cells #[.string ⟨#[108,111,103]⟩,.string ⟨#[110,101,119]⟩,.string ⟨#[105,110,100,101,120]⟩] 9)).cell? ⟨w.heap.size,k,none⟩ = some (.string (S (nm k))) := by
     have e : (w.alloc (.cells #[.string ⟨#[108,111,103]⟩,.string ⟨#[110,101,119]⟩,.string ⟨#[105,110,100,101,120]⟩] 9)).cell? ⟨w.heap.size,k,none⟩ = _ := World.cell?_alloc_new w _ _ k
     rw [e]
     match k,hlt with
     | 0,_ => rfl
     | 1,_ => rfl
     | 2,_ => rfl
    clear g2 HRA
    generalize hW : (w.alloc (.cells #[.string ⟨#[108,111,103]⟩,.string ⟨#[110,101,119]⟩,.string ⟨#[105,110,100,101,120]⟩] 9)) = W at *
    by_cases hs : S (nm k) = s
    ·have HS : Hid (S (nm k) = s) := hs
     rw [hs] at nmc
     clear hs
     cases hf : d.file k with
     | none =>
      have HF : Hid (d.file k = none) := hf
      rw [hf] at g0 g1
      have g0' : W.cell? ⟨b,2 + k * 3,none⟩ = some (.bool false) := g0
      clear g0 g1 hf
      go_wp2
      go_roundw
      case rel =>
       refine ⟨k + 1,by omega,by go_num,fun i hi => ?_,trivial⟩
       by_cases e : i = k
       ·subst e; rw [HF.out]; simp
       ·exact HN.out i (by omega)
      case measure => simp [intOf]; omega
     | some f =>
      have HE : Hid (d.fileR s.data.toList = (f.text,0)) := fileR_some hd hlt HS.out hf
      rw [hf] at g0 g1
      have g0' : W.cell? ⟨b,2 + k * 3,none⟩ = some (.bool true) := g0
      have g1' : W.cell? ⟨b,2 + k * 3 + 1,none⟩ = some (.string (S f.text)) := g1
      clear g0 g1 hf HN
      go_wp2
      go_ret2
      exact ⟨by rw [HE.out]; rfl,HB.out⟩
    ·have hs' : ¬ (Value.string (S (nm k)) = Value.string s) := by intro e; injection e with e; exact hs e
     have HSN : Hid (¬ S (nm k) = s) := hs
     clear g0 g1
     have hsl : ((S (nm k)).toList == s.toList) = false := by
      rw [ByteArray.toList_eq,ByteArray.toList_eq,S_data,beq_eq_false_iff_ne]
      intro e
      exact hs (by rw [e]; rfl)
     clear hs' HSN
     generalize hnk : S (nm k) = nk at *
     go_wp2
     go_roundw
     case rel =>
      refine ⟨k + 1,by omega,by go_num,fun i hi => ?_,trivial⟩
      by_cases e : i = k
      ·subst e; exact fun h => hs (hnk.symm.trans h.1)
      ·exact HN.out i (by omega)
     case measure => simp [intOf]; omega
   ·have e : k = 3 := by omega
    subst e
    have HE : Hid (d.fileR s.data.toList = ([],2)) := fileR_none hd HN.out
    go_wp2
    go_ret2
    exact ⟨by rw [HE.out]; rfl,HB.out⟩
theorem asked_file (o : OpV) (hk : o.kind = 10) (bw pb : Nat) (x y : Nat) (r : List UInt8 × Int) (w : World) (c0 : ∀ w1 : World,Below w.heap.size w w1 -> w1.cell? ⟨pb,0,none⟩ = some (.pointer (some ⟨x,0,none⟩)) /\ w1.cell? ⟨pb,1,none⟩ = some (.pointer (some ⟨y,0,none⟩)))
  (HX : ∀ w1 : World,Below w.heap.size w w1 -> Calls Tryz.prog 19 #[.pointer (some ⟨x,0,none⟩),.string o.s] w1 fun e w' => e = .returned (.tuple #[.string (S r.1),.int .i64 r.2]) /\ Below w1.heap.size w1 w')
  (HY : ∀ w1 : World,Below w.heap.size w w1 -> Calls Tryz.prog 178 #[.pointer (some ⟨y,0,none⟩),.string o.s] w1 fun e w' => e = .returned (.tuple #[.string (S r.1),.int .i64 r.2]) /\ Below w1.heap.size w1 w') :
  Calls Tryz.prog 125 #[.pointer (some ⟨bw,0,none⟩),.pointer (some ⟨pb,0,none⟩),o.val] w fun e w' => e = .returned (.bool true) /\ Below w.heap.size w w' := by
 obtain ⟨kind,at',xx,yy,s,t,u,c0',c1,c2⟩ := o
 dsimp only at hk HX HY
 subst hk
 have hB : Below w.heap.size w (w.alloc (.cells (opC ⟨10,at',xx,yy,s,t,u,c0',c1,c2⟩) 68)) := (Below.refl _ _).alloc (Nat.le_refl _) _
 have hzW : w.heap.size < (w.alloc (.cells (opC ⟨10,at',xx,yy,s,t,u,c0',c1,c2⟩) 68)).heap.size := by simp
 have HBB : Hid (∀ w1 : World,Below (w.alloc (.cells (opC ⟨10,at',xx,yy,s,t,u,c0',c1,c2⟩) 68)).heap.size (w.alloc (.cells (opC ⟨10,at',xx,yy,s,t,u,c0',c1,c2⟩) 68)) w1 -> Below w.heap.size w w1) := fun w1 hb => hB.trans (hb.mono (by omega))
 have HC : Hid (∀ w1 : World,Below (w.alloc (.cells (opC ⟨10,at',xx,yy,s,t,u,c0',c1,c2⟩) 68)).heap.size (w.alloc (.cells (opC ⟨10,at',xx,yy,s,t,u,c0',c1,c2⟩) 68)) w1 -> (w1.cell? ⟨pb,0,none⟩ = some (.pointer (some ⟨x,0,none⟩)) /\ w1.cell? ⟨pb,1,none⟩ = some (.pointer (some ⟨y,0,none⟩))) /\ w1.cell? ⟨w.heap.size,4,none⟩ = some (.string s)) := fun w1 hb => ⟨c0 w1 (HBB.out w1 hb),((bx_new w (opC ⟨10,at',xx,yy,s,t,u,c0',c1,c2⟩) 68 rfl).below hb hzW).cell (j := 4) rfl⟩
 have HXh : Hid (∀ w1 : World,Below w.heap.size w w1 -> _) := HX
 have HYh : Hid (∀ w1 : World,Below w.heap.size w w1 -> _) := HY
 have HS0 := HC.out _ (Below.refl _ _)
 have HS0h : Hid ((_ /\ _) /\ _) := HS0
 clear hB c0 HX HY hzW HS0
 obtain ⟨rs,rn⟩ := r
 dsimp only at *
 unfold OpV.val
 dsimp only
 go_enter Tryz.func125,Tryz.ntmps125
 go_wp2_with fail
 go_region_held3 (fun w' => (w'.cell? ⟨pb,0,none⟩ = some (.pointer (some ⟨x,0,none⟩)) /\ w'.cell? ⟨pb,1,none⟩ = some (.pointer (some ⟨y,0,none⟩))) /\ w'.cell? ⟨w.heap.size,4,none⟩ = some (.string s)) (first | (exact HS0h.out) | (assumption)) (first | (go_at_call 19; refine (HXh.out _ ?_).mono ?_; exact ((Below.refl _ _).alloc (Nat.le_refl _) _).drew; rintro e w1 ⟨rfl,hb1⟩; have hb1' : Below (w.alloc (.cells (opC ⟨10,at',xx,yy,s,t,u,c0',c1,c2⟩) 68)).heap.size (w.alloc (.cells (opC ⟨10,at',xx,yy,s,t,u,c0',c1,c2⟩) 68)) w1 := ⟨hb1.os,hb1.tape,hb1.output,hb1.size,hb1.block⟩; have hS1 := HC.out w1 hb1'; have HB1 : Hid (Below w.heap.size w w1) := HBB.out w1 hb1'; have HBA : Hid (∀ w2 : World,Below w1.heap.size w1 w2 -> Below (w.alloc (.cells (opC ⟨10,at',xx,yy,s,t,u,c0',c1,c2⟩) 68)).heap.size (w.alloc (.cells (opC ⟨10,at',xx,yy,s,t,u,c0',c1,c2⟩) 68)) w2) := fun w2 hb2 => hb1'.trans (hb2.mono hb1'.size); have HS1 : Hid ((_ /\ _) /\ _) := hS1; clear hb1 hb1'))
 all_goals
  clear hS1
  go_wp2_with fail
  go_region_held3 (fun w' => (w'.cell? ⟨pb,0,none⟩ = some (.pointer (some ⟨x,0,none⟩)) /\ w'.cell? ⟨pb,1,none⟩ = some (.pointer (some ⟨y,0,none⟩))) /\ w'.cell? ⟨w.heap.size,4,none⟩ = some (.string s)) (first | (exact HS1.out) | (assumption)) (first | (go_at_call 178; refine (HYh.out _ ?_).mono ?_; exact HB1.out.drew; rintro e w2 ⟨rfl,hb2⟩; have hb2' : Below w1.heap.size w1 w2 := ⟨hb2.os,hb2.tape,hb2.output,hb2.size,hb2.block⟩; have hS2 := HC.out w2 (HBA.out w2 hb2'); have HB2 : Hid (Below w.heap.size w w2) := HBB.out w2 (HBA.out w2 hb2'); clear hb2 hb2'))
  all_goals
   clear hS2
   go_wp2_with (first | (go_at_call 114; refine (num_any _ _).mono ?_; rintro e w2 ⟨rfl,rfl⟩))
   go_ret
   exact ⟨by simp,HB2.out⟩
theorem does_asked (o : OpV) (bw pb : Nat) (w : World) (Q : World -> Prop) (hk : o.kind = 10 \/ o.kind = 12 \/ o.kind = 13) (HA : ∀ w1 : World,Below w.heap.size w w1 -> Calls Tryz.prog 125 #[.pointer (some ⟨bw,0,none⟩),.pointer (some ⟨pb,0,none⟩),o.val] w1 fun e w' => e = .returned (.bool true) /\ Q w') :
  Calls Tryz.prog 65 #[.pointer (some ⟨bw,0,none⟩),.pointer (some ⟨pb,0,none⟩),o.val] w fun e w' => e = .returned (.bool true) /\ Q w' := by
 obtain ⟨kind,at',x,y,s,t,u,c0,c1,c2⟩ := o
 dsimp only at hk
 unfold OpV.val at HA ⊢
 dsimp only at HA ⊢
 have HAh : Hid (∀ w1 : World,Below w.heap.size w w1 -> _) := HA
 clear HA
 rcases hk with rfl | rfl | rfl
 all_goals
  go_enter Tryz.func65,Tryz.ntmps65
  go_wp2_with (first | (go_at_call 125; refine (HAh.out _ ?_).mono ?_; exact (Below.refl _ _).alloc (Nat.le_refl _) _; rintro e w1 ⟨rfl,hq⟩; have HQ : Hid (Q w1) := hq; clear hq))
  go_ret
  exact ⟨rfl,HQ.out⟩
theorem does_file (m : Bool) (o : OpV) (hk : o.kind = 10) (hs : o.s.size <= 140737488351232) : Does m o := by
 intro E n bw nd c Fr w κ ds P ls j d p h1 h2 h3 h4 h5 h6 h7 hcb hd hp
 have hpr : ∀ w1 : World,Below w.heap.size w w1 -> PairAt w1 κ n j (d,d) p := fun w1 hb => (h1.below hb).pairs j _ p hd hp
 refine (does_asked o bw p.1 w (fun w' => Below w.heap.size w w') (.inl hk) fun w1 hb => ?_).mono ?_
 ·refine (asked_file o hk bw p.1 p.2.1 p.2.2 (d.fileR o.s.data.toList) w1 (fun w2 hb2 => ?_) (fun w2 hb2 => ?_) (fun w2 hb2 => ?_)).mono fun e w' ⟨a1,a2⟩ => ⟨a1,hb.trans (a2.mono hb.size)⟩
  ·have := (hpr w2 (hb.trans (hb2.mono hb.size))).box
   exact ⟨this.cell (j := 0) rfl,this.cell (j := 1) rfl⟩
  ·have hb02 := hb.trans (hb2.mono hb.size)
   obtain ⟨q,hq⟩ := (hpr w2 hb02).px
   exact fileS_any E n _ p.2.1 d q o.s w2 (h2.below (hb02.mono h2.le)) hq hs
  ·have hb02 := hb.trans (hb2.mono hb.size)
   obtain ⟨q,hq⟩ := (hpr w2 hb02).py
   exact rfile_any _ p.2.2 d q o.s w2 hq
 ·rintro e w' ⟨rfl,hb⟩
  exact ⟨rfl,⟨c,by omega,fun _ => rfl,Inv.below ⟨κ,ds,P,ls,h1,h2,h3,h4,h5,h6,h7⟩ hb⟩,Chg.of_below hb,hb.cell (p := ⟨bw,0,none⟩) h1.box.lt,fun g hg => hb.block g (h1.crow g hg).2.2⟩
def Steps (m : Bool) (o : OpV) : Prop := ∀ (E : Sent) (n bw nd c : Nat) (Fr : Nat -> Prop) (w : World),Inv E n bw m nd c Fr w -> nd <= 1353245081000 -> c <= 1353245081000 -> HalvesAt w ->
 Calls Tryz.prog 33 #[.pointer (some ⟨bw,0,none⟩),o.val] w fun e w' => e = .returned (.bool true) /\ (∃ nd' c',nd' <= nd + 1 /\ c' <= c + 1 /\ (o.kind = 10 -> nd' = nd /\ c' = c) /\ Inv E n bw m nd' c' Fr w') /\ Chg (Mv n Fr) w w'
def pickN (k : Int) (n : Nat) : Nat := if k < 0 \/ (n : Int) <= k then 0 else k.toNat
theorem pickN_lt {k : Int} {n : Nat} (h : 0 < n) : pickN k n < n := by unfold pickN; split <;> omega
theorem pick_any (k : Int) (n : Nat) (w : World) : Calls Tryz.prog 66 #[.int .i64 k,.int .i64 (n : Int)] w fun e w' => e = .returned (.int .i64 (pickN k n : Int)) /\ w' = w := by
 by_cases h0 : k < 0
 ·have e : pickN k n = 0 := by unfold pickN; rw [if_pos (.inl h0)]
  rw [e]
  go_enter Tryz.func66,Tryz.ntmps66
  go_wp2
  go_ret
  exact ⟨rfl,rfl⟩
 ·by_cases h1 : (n : Int) <= k
  ·have e : pickN k n = 0 := by unfold pickN; rw [if_pos (.inr h1)]
   rw [e]
   go_enter Tryz.func66,Tryz.ntmps66
   go_wp2
   go_ret
   exact ⟨rfl,rfl⟩
  ·have e : (pickN k n : Int) = k := by unfold pickN; rw [if_neg (by omega)]; omega
   rw [e]
   go_enter Tryz.func66,Tryz.ntmps66
   go_wp2
   go_ret
   exact ⟨rfl,rfl⟩
theorem chg_mv {n : Nat} {Fr : Nat -> Prop} {w w1 w2 : World} (hb : Below w.heap.size w w1) (h : Chg (Mv n Fr) w1 w2) : Chg (Mv n Fr) w w2 := (Chg.of_below hb).trans (h.mono (fun k _ hk => .inl hk))
theorem step_does (m : Bool) (o : OpV) (h6 : 6 <= o.kind) (h16 : o.kind <= 16) (hD : Does m o) : Steps m o := by
 intro E n bw nd c Fr w hI hnd hcb hH
 have HI : Hid (Inv E n bw m nd c Fr w) := hI
 obtain ⟨κ,ds,P,ls,h1,h2,h3,h4,h5,h6',h7⟩ := hI
 have cb0 : w.cell? ⟨bw,0,none⟩ = some P.pv := h1.box.cell (j := 0) rfl
 have hbl := h1.box.lt
 obtain ⟨a,cp,hv⟩ := own_len h1.row
 by_cases hz : ds.length = 0
 ·rw [hv,hz] at cb0
  have cb0' : w.cell? ⟨bw,0,none⟩ = some (.slice a 0 cp) := cb0
  obtain ⟨kind,at',x,y,s,t,u,c0,c1,c2⟩ := o
  dsimp only at h6 h16
  clear h1 h2 h3 h4 h5 h6' h7 hv cb0 hz hD hH
  unfold OpV.val
  dsimp only
  go_enter Tryz.func33,Tryz.ntmps33
  go_wp2
  go_ret
  refine ⟨rfl,⟨nd,c,by omega,by omega,fun _ => ⟨rfl,rfl⟩,?_⟩,?_⟩
  ·exact HI.out.below ((Below.refl _ _).alloc (Nat.le_refl _) _)
  ·exact Chg.of_below ((Below.refl _ _).alloc (Nat.le_refl _) _)
 ·have hpos : 0 < ds.length := by omega
  obtain ⟨g,cap,hv2,_,hgl,hgc⟩ := own_cellsN h1.row hpos
  rw [hv2] at cb0
  have hjl : pickN o.at' ds.length < ds.length := pickN_lt hpos
  obtain ⟨dd,hdd⟩ : ∃ d,ds[pickN o.at' ds.length]? = some d := ⟨_,List.getElem?_eq_getElem hjl⟩
  obtain ⟨p,hpp⟩ : ∃ p,P.ps[pickN o.at' ds.length]? = some p := ⟨_,List.getElem?_eq_getElem (by rw [h1.len]; exact hjl)⟩
  have cg : w.cell? ⟨g,pickN o.at' ds.length,none⟩ = some (.pointer (some ⟨p.1,0,none⟩)) := by
   rw [hgc _ (by omega),List.getElem?_map,hpp]; rfl
  have hda : dd = (dd.1,dd.1) := by have := (h3 dd (List.mem_of_getElem? hdd)).1; obtain ⟨x,y⟩ := dd; simp at this ⊢; exact this.symm
  rw [hda] at hdd
  have hWB : Below w.heap.size w (w.alloc (.cells (opC o) 68)) := (Below.refl _ _).alloc (Nat.le_refl _) _
  have hob : ∀ w1 : World,w1.heap[w.heap.size]? = (w.alloc (.cells (opC o) 68)).heap[w.heap.size]? -> Bx w1 w.heap.size (opC o) 68 := fun w1 e => e.trans (bx_new w _ _ rfl)
  have HSO : Hid (∀ w1 : World,w1.cell? ⟨bw,0,none⟩ = w.cell? ⟨bw,0,none⟩ -> w1.heap[g]? = w.heap[g]? -> w1.heap[w.heap.size]? = (w.alloc (.cells (opC o) 68)).heap[w.heap.size]? ->
    (w1.cell? ⟨bw,0,none⟩ = some (.slice (some ⟨g,0,none⟩) ds.length cap) /\ w1.cell? ⟨g,pickN o.at' ds.length,none⟩ = some (.pointer (some ⟨p.1,0,none⟩))) /\ (w1.cell? ⟨w.heap.size,0,none⟩ = some (.int .i64 o.kind) /\ w1.cell? ⟨w.heap.size,1,none⟩ = some (.int .i64 o.at') /\ w1.cell? ⟨w.heap.size,2,none⟩ = some (.int .i64 o.x) /\ w1.cell? ⟨w.heap.size,3,none⟩ = some (.int .i64 o.y) /\ w1.cell? ⟨w.heap.size,4,none⟩ = some (.string o.s) /\ w1.cell? ⟨w.heap.size,5,none⟩ = some (.string o.t) /\ w1.cell? ⟨w.heap.size,6,none⟩ = some (.string o.u) /\ w1.cell? ⟨w.heap.size,7,none⟩ = some (.int .i64 o.c0) /\ w1.cell? ⟨w.heap.size,8,none⟩ = some (.int .i64 o.c1) /\ w1.cell? ⟨w.heap.size,9,none⟩ = some (.int .i64 o.c2))) := fun w1 e1 e2 e3 => by
   have hx := hob w1 e3
   refine ⟨⟨e1.trans cb0,?_⟩,hx.cell (j := 0) rfl,hx.cell (j := 1) rfl,hx.cell (j := 2) rfl,hx.cell (j := 3) rfl,hx.cell (j := 4) rfl,hx.cell (j := 5) rfl,hx.cell (j := 6) rfl,hx.cell (j := 7) rfl,hx.cell (j := 8) rfl,hx.cell (j := 9) rfl⟩
   rw [<- cg]
   unfold World.cell?
   rw [e2]
  have HS0 := HSO.out (w.alloc (.cells (opC o) 68)) (hWB.cell (p := ⟨bw,0,none⟩) hbl) (hWB.block g hgl) rfl
  have HDO : Hid (∀ w1 : World,Below (w.alloc (.cells (opC o) 68)).heap.size (w.alloc (.cells (opC o) 68)) w1 -> Calls Tryz.prog 65 #[.pointer (some ⟨bw,0,none⟩),.pointer (some ⟨p.1,0,none⟩),o.val] w1 fun e w' => e = .returned (.bool true) /\ (w'.cell? ⟨bw,0,none⟩ = w.cell? ⟨bw,0,none⟩ /\ w'.heap[g]? = w.heap[g]? /\ w'.heap[w.heap.size]? = (w.alloc (.cells (opC o) 68)).heap[w.heap.size]?) /\ (∃ nd' c',nd' <= nd + 1 /\ c' <= c + 1 /\ (o.kind = 10 -> nd' = nd /\ c' = c) /\ Inv E n bw m nd' c' Fr w') /\ Chg (Mv n Fr) w w') := fun w1 hb1 => by
   have hz1 : w.heap.size < w1.heap.size := by have := hb1.size; simp at this; omega
   have hb : Below w.heap.size w w1 := hWB.trans (hb1.mono (by simp))
   have hobx : w1.heap[w.heap.size]? = (w.alloc (.cells (opC o) 68)).heap[w.heap.size]? := hb1.block _ (by simp)
   refine (hD E n bw nd c (fun k => Fr k \/ k = w.heap.size) w1 κ ds P ls _ dd.1 p (h1.below hb) (h2.below (hb.mono h2.le)) h3 h4 h5 h6' (fun k hk => ?_) hcb hdd hpp).mono ?_
   ·rcases hk with hk | hk
    ·exact ⟨(h7 k hk).1,Nat.lt_of_lt_of_le (h7 k hk).2 hb.size⟩
    ·exact ⟨h1.out k (by omega),by omega⟩
   ·rintro e w' ⟨rfl,⟨c',a1,a2,a3⟩,a4,a5,a6⟩
    refine ⟨rfl,⟨a5.trans (hb.cell (p := ⟨bw,0,none⟩) hbl),(a6 g (by rw [hv2]; rfl)).trans (hb.block g hgl),(a4.keep _ hz1 (fun h => h.2 (.inr rfl))).trans hobx⟩,⟨nd,c',by omega,a1,fun e => ⟨rfl,a2 e⟩,?_⟩,chg_mv hb (a4.mono (fun k _ hk => ⟨hk.1,fun hf => hk.2 (.inl hf)⟩))⟩
    obtain ⟨κ',ds',P',ls',b1,b2,b3,b4,b5,b6,b7⟩ := a3
    exact ⟨κ',ds',P',ls',b1,b2,b3,b4,b5,b6,fun k hk => b7 k (.inl hk)⟩
  have hposI : (0 : Int) < (ds.length : Int) := by omega
  have hjI : (pickN o.at' ds.length : Int) < (ds.length : Int) := by omega
  have HPK : Hid (∀ wx : World,Calls Tryz.prog 66 #[.int .i64 o.at',.int .i64 (ds.length : Int)] wx fun e w' => e = .returned (.int .i64 (pickN o.at' ds.length : Int)) /\ w' = wx) := fun wx => pick_any _ _ wx
  clear h1 h2 h3 h4 h5 h6' h7 hD hH hv hda hdd hpp hgc HI hz hob hWB
  have HS0h : Hid ((_ /\ _) /\ _) := HS0
  clear HS0
  generalize pickN o.at' ds.length = jj at *
  generalize ds.length = nn at *
  obtain ⟨kind,at',x,y,s,t,u,c0,c1,c2⟩ := o
  dsimp only at h6 h16
  unfold OpV.val at HDO ⊢
  dsimp only at HDO HPK HSO HS0h ⊢
  go_enter Tryz.func33,Tryz.ntmps33
  go_wp2_with fail
  go_region_held3 (fun w1 => (w1.cell? ⟨bw,0,none⟩ = some (.slice (some ⟨g,0,none⟩) nn cap) /\ w1.cell? ⟨g,jj,none⟩ = some (.pointer (some ⟨p.1,0,none⟩))) /\ (w1.cell? ⟨w.heap.size,0,none⟩ = some (.int .i64 kind) /\ w1.cell? ⟨w.heap.size,1,none⟩ = some (.int .i64 at') /\ w1.cell? ⟨w.heap.size,2,none⟩ = some (.int .i64 x) /\ w1.cell? ⟨w.heap.size,3,none⟩ = some (.int .i64 y) /\ w1.cell? ⟨w.heap.size,4,none⟩ = some (.string s) /\ w1.cell? ⟨w.heap.size,5,none⟩ = some (.string t) /\ w1.cell? ⟨w.heap.size,6,none⟩ = some (.string u) /\ w1.cell? ⟨w.heap.size,7,none⟩ = some (.int .i64 c0) /\ w1.cell? ⟨w.heap.size,8,none⟩ = some (.int .i64 c1) /\ w1.cell? ⟨w.heap.size,9,none⟩ = some (.int .i64 c2))) (first | (exact HS0h.out) | (assumption)) (first | (go_at_call 66; refine (HPK.out _).mono ?_; rintro e w' ⟨rfl,rfl⟩) | (go_at_call 65; refine (HDO.out _ ?_).mono ?_; exact (Below.refl _ _).drew; rintro e w2 ⟨rfl,⟨f1,f2,f3⟩,hi,hc⟩; have hS2 := HSO.out w2 f1 f2 f3; have HI2 : Hid _ := hi; have HC2 : Hid _ := hc; clear hi hc f1 f2 f3))
  all_goals
   clear hS2
   go_wp2
   go_ret
   exact ⟨rfl,HI2.out,HC2.out⟩
theorem Chg.mvBelow {n : Nat} {Fr : Nat -> Prop} {w w' : World} (h : Chg (Mv n Fr) w w') (hn : n <= w.heap.size) : Below n w w' := h.below hn (fun k hk => hk.1)
theorem Inv.le {E : Sent} {n bw nd c : Nat} {m : Bool} {Fr : Nat -> Prop} {W : World} (h : Inv E n bw m nd c Fr W) : n <= W.heap.size := by
 obtain ⟨κ,ds,P,ls,h1,h2,h3,h4,h5,h6,h7⟩ := h
 exact h2.le
theorem Inv.pv {E : Sent} {n bw nd c : Nat} {m : Bool} {Fr : Nat -> Prop} {W : World} (h : Inv E n bw m nd c Fr W) : ∃ a cp,W.cell? ⟨bw,0,none⟩ = some (.slice a nd cp) := by
 obtain ⟨κ,ds,P,ls,h1,h2,h3,h4,h5,h6,h7⟩ := h
 obtain ⟨a,cp,hv⟩ := own_len h1.row
 have c0 : W.cell? ⟨bw,0,none⟩ = some P.pv := h1.box.cell (j := 0) rfl
 rw [hv,h5] at c0
 exact ⟨a,cp,c0⟩
theorem given_all (m : Bool) (E : Sent) (n bw : Nat) (lo hi : Int) (w : World) (hI : Inv E n bw m 0 0 (fun _ => False) w) (HS : ∀ o : OpV,lo <= o.kind -> o.kind <= hi -> o.sized -> Steps m o) (hH : ∀ w',Below n w w' -> HalvesAt w') :
  Calls Tryz.prog 32 #[.pointer (some ⟨bw,0,none⟩),.int .i64 lo,.int .i64 hi] w fun e w' => e = .returned (.bool true) /\ (∃ nd c,nd <= 10 /\ c <= 10 /\ Inv E n bw m nd c (fun _ => False) w') /\ Below n w w' := by
 have hnw := hI.le
 have HI : Hid (Inv E n bw m 0 0 (fun _ => False) w) := hI
 have HSh : Hid (∀ o : OpV,lo <= o.kind -> o.kind <= hi -> o.sized -> Steps m o) := HS
 have HH : Hid (∀ w',Below n w w' -> HalvesAt w') := hH
 clear hI HS hH
 go_enter Tryz.func32,Tryz.ntmps32
 go_wp2_with fail
 refine (head_any 100 7 32 _ (by omega) (by omega) (by omega) (by omega) (by omega) (by omega)).mono ?_
 rintro e w1 ⟨rfl,hb1⟩
 obtain ⟨hd,hhd⟩ : ∃ t,t = S (sealL ([76,71] ++ lowL (100 : Int).toNat 2 ++ lowL (7 : Int).toNat 4 ++ lowL (32 : Int).toNat 2)) := ⟨_,rfl⟩
 have z1 : hd.size <= 100 := by rw [hhd,S_size,sealL_length]; simp [lowL_length]
 rw [<- hhd]
 clear hhd
 go_wp2_with fail
 refine (block_any w1.heap.size 1 [(true,⟨#[97]⟩,⟨#[120]⟩)] _ (by simp) ?_ (by simp) ?_).mono ?_
 ·intro i hi
  match i,hi with
  | 0,_ => simp
 ·intro e he
  simp at he
  subst he
  exact ⟨by decide,by decide⟩
 rintro e w2 ⟨rfl,hb2⟩
 obtain ⟨bl,hbl⟩ : ∃ t,t = S (blockL [(true,⟨#[97]⟩,⟨#[120]⟩)]) := ⟨_,rfl⟩
 have z2 : bl.size <= 100 := by
  rw [hbl,S_size]; decide +kernel
 rw [<- hbl]
 clear hbl
 have hb12 : Below w.heap.size w w2 := hb1.trans ((((Below.refl w1.heap.size w1).alloc (Nat.le_refl _) _).trans (hb2.mono (by simp))).mono hb1.size)
 clear hb1 hb2
 have q1 : ¬ 9223372036854775807 < hd.size + bl.size := by omega
 have hbz := hb12.size
 have HW2 : Hid (∀ o : Obj,Inv E n bw m 0 0 (fun k => k = w2.heap.size) (w2.alloc o) /\ Below n w (w2.alloc o)) := fun o => ⟨HI.out.hold (hb12.alloc hbz o) hbz (by simp),(hb12.alloc hbz o).mono hnw⟩
 go_wp2
 go_loopw [9] (fun i wr => ∃ (k nd c : Nat),k <= 10 /\ i = .int .i64 k /\ nd <= k /\ c <= k /\ (∀ j (hj : j < 10),OpAt wr w2.heap.size (j * 10) ((givenOps (hd ++ bl))[j]'hj)) /\ Inv E n bw m nd c (fun k => k = w2.heap.size) wr /\ Below n w wr) (fun i _ => 10 - (intOf i).toNat)
 case atStart => exact ⟨0,0,0,by omega,rfl,Nat.le_refl _,Nat.le_refl _,given_lit w2 (hd ++ bl) _,(HW2.out _).1,(HW2.out _).2⟩
 case round =>
  obtain ⟨k,nd,c,hk,rfl,hnd,hc,hops,hIr,hb⟩ := hrel
  have HIr : Hid (Inv E n bw m nd c (fun k => k = w2.heap.size) wr) := hIr
  have hz2 : w2.heap.size < wr.heap.size := by
   obtain ⟨κ,ds,P,ls,a1,a2,a3,a4,a5,a6,a7⟩ := hIr
   exact (a7 _ rfl).2
  have HB : Hid (Below n w wr) := hb
  have hnr := hIr.le
  clear hIr hb
  by_cases hlt : k < 10
  ·have hop := hops k hlt
   have hsz : ((givenOps (hd ++ bl))[k]'hlt).sized := given_sized (by simp; omega) _ (List.getElem_mem _)
   have hrd := HSh.out ((givenOps (hd ++ bl))[k]'hlt)
   have HO : Hid (∀ j (hj : j < 10),OpAt wr w2.heap.size (j * 10) ((givenOps (hd ++ bl))[j]'hj)) := hops
   clear hops
   generalize (givenOps (hd ++ bl))[k]'hlt = o at *
   by_cases hk1 : lo <= o.kind /\ o.kind <= hi
   ·obtain ⟨hka,hkb⟩ := hk1
    have HST : Hid (Calls Tryz.prog 33 #[.pointer (some ⟨bw,0,none⟩),o.val] wr fun e w' => e = .returned (.bool true) /\ (∃ nd' c',nd' <= nd + 1 /\ c' <= c + 1 /\ Inv E n bw m nd' c' (fun k => k = w2.heap.size) w') /\ Chg (Mv n (fun k => k = w2.heap.size)) wr w') :=
     (hrd hka hkb hsz E n bw nd c _ wr HIr.out (by omega) (by omega) (HH.out _ HB.out)).mono fun e w' ⟨a1,⟨nd',c',a2,a3,_,a4⟩,a5⟩ => ⟨a1,⟨nd',c',a2,a3,a4⟩,a5⟩
    clear hrd
    obtain ⟨kind,at',x,y,s,t,u,c0,c1,c2⟩ := o
    obtain ⟨h0,h1',h2,h3,h4',h5,h6,h7,h8,h9⟩ := hop
    unfold OpV.val at HST
    dsimp only at *
    go_wp2_with fail
    refine HST.out.mono ?_
    rintro e w3 ⟨rfl,⟨nd',c',b1,b2,b3⟩,b4⟩
    have HI3 : Hid (Inv E n bw m nd' c' (fun k => k = w2.heap.size) w3) := b3
    have HC3 : Hid (Chg (Mv n (fun k => k = w2.heap.size)) wr w3) := b4
    clear h0 h1' h2 h3 h4' h5 h6 h7 h8 h9 b3 b4
    go_wp2
    go_roundw
    case rel =>
     refine ⟨k + 1,nd',c',by omega,by go_num,by omega,by omega,fun j hj => ?_,HI3.out,HB.out.trans (HC3.out.mvBelow hnr)⟩
     have hkeep := HC3.out.keep w2.heap.size hz2 (fun h => h.2 rfl)
     have hcell : ∀ i,w3.cell? ⟨w2.heap.size,i,none⟩ = wr.cell? ⟨w2.heap.size,i,none⟩ := fun i => by unfold World.cell?; rw [hkeep]
     have := HO.out j hj
     unfold OpAt at this ⊢
     simp only [hcell]
     exact this
    case measure => simp [intOf]; omega
   ·clear hrd
    obtain ⟨kind,at',x,y,s,t,u,c0,c1,c2⟩ := o
    obtain ⟨h0,h1',h2,h3,h4',h5,h6,h7,h8,h9⟩ := hop
    dsimp only at *
    rcases (show kind < lo \/ (lo <= kind /\ hi < kind) from by omega) with hka | ⟨hka,hkb⟩
    all_goals
     clear hk1
     go_wp2
     go_roundw
     case rel => exact ⟨k + 1,nd,c,by omega,by go_num,by omega,by omega,HO.out,HIr.out,HB.out⟩
     case measure => simp [intOf]; omega
  ·clear hops
   go_wp2
   go_ret
   exact ⟨rfl,⟨nd,c,by omega,by omega,HIr.out.drop⟩,HB.out⟩
def Looks (m : Bool) : Prop := ∀ (E : Sent) (n bw nd c : Nat) (Fr : Nat -> Prop) (w : World),Inv E n bw m nd c Fr w -> Calls Tryz.prog 34 #[.pointer (some ⟨bw,0,none⟩)] w fun e w' => e = .returned (.bool true) /\ Below w.heap.size w w'
theorem inv_new {E : Sent} {w : World} (m : Bool) (hE : Env w E) : Inv E w.heap.size w.heap.size m 0 0 (fun _ => False) (w.alloc (.cells #[.slice none 0 0,.slice none 0 0,.slice none 0 0,.int .i64 0] 65)) := by
 refine ⟨fun k => if k = w.heap.size then 0 else 1,[],⟨.slice none 0 0,[],.slice none 0 0,.slice none 0 0,0⟩,[],⟨bx_new _ _ _ rfl,⟨by simp,Nat.le_refl _,by simp⟩,World.ownsRow_nil _ _ _ _,rfl,fun g e => (by cases e),fun j d p hd => (by simp at hd),⟨World.ownsRow_nil _ _ _ _,World.ownsRow_nil _ _ _ _,fun g e => (by cases e),fun g e => (by cases e),fun mk hm => (by cases hm)⟩,fun k hk => ?_⟩,⟨w,rfl,hE,(Below.refl _ _).alloc (Nat.le_refl _) _⟩,fun d hd => (by cases hd),fun _ => rfl,rfl,⟨by simp,Int.le_refl _,Int.le_refl _⟩,fun k hk => hk.elim⟩
 have : w.heap.size < k := by simp at hk; omega
 show (if k = w.heap.size then 0 else 1) = 1
 rw [if_neg (by omega)]
theorem plays_all (m : Bool) (E : Sent) (a : Option Addr) (L : List OpV) (cap : Nat) (lo hi : Int) (w : World) (hlo : lo <= 10) (hhi : 10 <= hi) (HS : ∀ o : OpV,lo <= o.kind -> o.kind <= hi -> o.sized -> Steps m o) (HLK : Looks m) (hS : ScriptAt w a L) (hL : ∀ o ∈ L,o.sized) (hn : L.length <= 1353245080300) (hH : HalvesAt w) (hE : Env w E) :
  Calls Tryz.prog 12 #[.slice a L.length cap,.int .i64 lo,.int .i64 hi] w fun e w' => e = .returned (.bool true) /\ Below w.heap.size w w' := by
 have HHA : Hid (∀ w',Below w.heap.size w w' -> HalvesAt w') := fun w' hb => hH.below hb hH.1
 have HI0 : Hid (Inv E w.heap.size w.heap.size m 0 0 (fun _ => False) (w.alloc (.cells #[.slice none 0 0,.slice none 0 0,.slice none 0 0,.int .i64 0] 65))) := inv_new m hE
 have hB0 : Below w.heap.size w (w.alloc (.cells #[.slice none 0 0,.slice none 0 0,.slice none 0 0,.int .i64 0] 65)) := (Below.refl _ _).alloc (Nat.le_refl _) _
 have HGV := given_all m E w.heap.size w.heap.size lo hi _ HI0.out HS (fun w' hb => HHA.out w' (hB0.trans hb))
 have HB0 : Hid (Below w.heap.size w (w.alloc (.cells #[.slice none 0 0,.slice none 0 0,.slice none 0 0,.int .i64 0] 65))) := hB0
 have HSh : Hid (∀ o : OpV,lo <= o.kind -> o.kind <= hi -> o.sized -> Steps m o) := HS
 have HLh : Hid (Looks m) := HLK
 clear hH hE hB0 HS HLK
 go_enter Tryz.func12,Tryz.ntmps12
 go_wp2_with fail
 refine HGV.mono ?_
 rintro e w1 ⟨rfl,⟨nd1,c1,b1,b2,b3⟩,b4⟩
 have HI1 : Hid (Inv E w.heap.size w.heap.size m nd1 c1 (fun _ => False) w1) := b3
 have HB1 : Hid (Below w.heap.size w w1) := HB0.out.trans b4
 clear b3 b4
 go_wp2
 go_loopw [9] (fun i wr => ∃ (k nd c : Nat),k <= L.length /\ i = .int .i64 k /\ nd <= k + 10 /\ c <= k + 10 /\ Inv E w.heap.size w.heap.size m nd c (fun _ => False) wr /\ Below w.heap.size w wr) (fun i _ => L.length - (intOf i).toNat)
 case atStart => exact ⟨0,nd1,c1,by omega,rfl,by omega,by omega,HI1.out,HB1.out⟩
 case round =>
  obtain ⟨k,nd,c,hk,rfl,hnd,hc,hIr,hb⟩ := hrel
  have HIr : Hid (Inv E w.heap.size w.heap.size m nd c (fun _ => False) wr) := hIr
  have HB : Hid (Below w.heap.size w wr) := hb
  have hnr := hIr.le
  by_cases hlt : k < L.length
  ·rcases hS with hS | ⟨b,off,rfl,hbw,hops⟩
   ·subst hS; simp at hlt
   have hop := (hops k hlt).below hb hbw
   have hsz := hL L[k] (List.getElem_mem _)
   have hrd := HSh.out L[k]
   clear hops hIr hb
   generalize L[k] = o at *
   by_cases hk1 : lo <= o.kind /\ o.kind <= hi
   ·obtain ⟨hka,hkb⟩ := hk1
    have HST : Hid (Calls Tryz.prog 33 #[.pointer (some ⟨w.heap.size,0,none⟩),o.val] wr fun e w' => e = .returned (.bool true) /\ (∃ nd' c',nd' <= nd + 1 /\ c' <= c + 1 /\ Inv E w.heap.size w.heap.size m nd' c' (fun _ => False) w') /\ Chg (Mv w.heap.size (fun _ => False)) wr w') :=
     (hrd hka hkb hsz E _ _ nd c _ wr HIr.out (by omega) (by omega) (HHA.out _ HB.out)).mono fun e w' ⟨a1,⟨nd',c',a2,a3,_,a4⟩,a5⟩ => ⟨a1,⟨nd',c',a2,a3,a4⟩,a5⟩
    clear hrd
    obtain ⟨kind,at',x,y,s,t,u,c0,c1,c2⟩ := o
    obtain ⟨g0,g1,g2,g3,g4,g5,g6,g7,g8,g9⟩ := hop
    unfold OpV.val at HST
    dsimp only at *
    go_wp2_with fail
    refine HST.out.mono ?_
    rintro e w3 ⟨rfl,⟨nd',c',d1,d2,d3⟩,d4⟩
    have HI3 : Hid (Inv E w.heap.size w.heap.size m nd' c' (fun _ => False) w3) := d3
    have HC3 : Hid (Chg (Mv w.heap.size (fun _ => False)) wr w3) := d4
    clear g0 g1 g2 g3 g4 g5 g6 g7 g8 g9 d3 d4
    go_wp2
    go_roundw
    case rel => exact ⟨k + 1,nd',c',by omega,by go_num,by omega,by omega,HI3.out,HB.out.trans (HC3.out.mvBelow hnr)⟩
    case measure => simp [intOf]; omega
   ·clear hrd
    obtain ⟨kind,at',x,y,s,t,u,c0,c1,c2⟩ := o
    obtain ⟨g0,g1,g2,g3,g4,g5,g6,g7,g8,g9⟩ := hop
    dsimp only at *
    rcases (show kind < lo \/ (lo <= kind /\ hi < kind) from by omega) with hka | ⟨hka,hkb⟩
    all_goals
     clear hk1
     go_wp2
     go_roundw
     case rel => exact ⟨k + 1,nd,c,by omega,by go_num,by omega,by omega,HIr.out,HB.out⟩
     case measure => simp [intOf]; omega
  ·clear hS hIr hb
   obtain ⟨W1,rfl⟩ : ∃ W1,W1 = wr := ⟨_,rfl⟩
   go_wp2
   go_loopw [10] (fun i wr => ∃ (k2 : Nat),k2 <= nd /\ i = .int .i64 k2 /\ Inv E w.heap.size w.heap.size m nd c (fun _ => False) wr /\ Below w.heap.size w wr) (fun i _ => nd - (intOf i).toNat)
   case atStart => exact ⟨0,by omega,rfl,HIr.out,HB.out⟩
   case round =>
    obtain ⟨k2,hk2,rfl,hIr2,hb2⟩ := hrel
    have HI2 : Hid (Inv E w.heap.size w.heap.size m nd c (fun _ => False) wr) := hIr2
    have HB2 : Hid (Below w.heap.size w wr) := hb2
    have hnr2 := hIr2.le
    obtain ⟨pa,pcp,cpv⟩ := hIr2.pv
    clear hIr2 hb2
    by_cases hlt2 : k2 < nd
    ·have HW : Hid (∀ o : Obj,Inv E w.heap.size w.heap.size m nd c (fun k => k = wr.heap.size) (wr.alloc o) /\ Below w.heap.size w (wr.alloc o)) := fun o => ⟨HI2.out.hold ((Below.refl _ _).alloc (Nat.le_refl _) _) (Nat.le_refl _) (by simp),HB2.out.alloc hnr2 o⟩
     obtain ⟨W2,rfl⟩ : ∃ W2,W2 = wr := ⟨_,rfl⟩
     go_wp2
     go_loopw [12] (fun i wr => ∃ (k3 : Nat),k3 <= 3 /\ i = .int .i64 k3 /\ (∀ j,j < 3 -> wr.cell? ⟨W2.heap.size,j,none⟩ = some (.string (S (nm j)))) /\ Inv E w.heap.size w.heap.size m nd c (fun k => k = W2.heap.size) wr /\ Below w.heap.size w wr) (fun i _ => 3 - (intOf i).toNat)
     case atStart =>
      refine ⟨0,by omega,rfl,fun j hj => ?_,(HW.out _).1,(HW.out _).2⟩
      refine (World.cell?_alloc_new W2 _ _ j).trans ?_
      match j,hj with
      | 0,_ => rfl
      | 1,_ => rfl
      | 2,_ => rfl
     case round =>
      obtain ⟨k3,hk3,rfl,hnm,hIr3,hb3⟩ := hrel
      have HI3 : Hid (Inv E w.heap.size w.heap.size m nd c (fun k => k = W2.heap.size) wr) := hIr3
      have HB3 : Hid (Below w.heap.size w wr) := hb3
      have hnr3 := hIr3.le
      have hz3 : W2.heap.size < wr.heap.size := by
       obtain ⟨κ,ds,P,ls,a1,a2,a3,a4,a5,a6,a7⟩ := hIr3
       exact (a7 _ rfl).2
      clear hIr3 hb3
      by_cases hlt3 : k3 < 3
      ·have cn := hnm k3 hlt3
       have HNM : Hid (∀ j,j < 3 -> wr.cell? ⟨W2.heap.size,j,none⟩ = some (.string (S (nm j)))) := hnm
       have hso : OpV.sized ⟨10,k2,0,0,S (nm k3),⟨#[]⟩,⟨#[]⟩,0,0,0⟩ := by
        have z0 : (⟨#[]⟩ : ByteArray).size = 0 := rfl
        refine ⟨?_,by dsimp only; rw [z0]; omega,by dsimp only; rw [z0]; omega,by dsimp only; omega,by dsimp only; omega⟩
        dsimp only
        rw [S_size]
        match k3,hlt3 with
        | 0,_ => decide
        | 1,_ => decide
        | 2,_ => decide
       have HST : Hid (Calls Tryz.prog 33 #[.pointer (some ⟨w.heap.size,0,none⟩),.agg #[.int .i64 10,.int .i64 (k2 : Int),.int .i64 0,.int .i64 0,.string (S (nm k3)),.string ⟨#[]⟩,.string ⟨#[]⟩,.int .i64 0,.int .i64 0,.int .i64 0]] wr fun e w' => e = .returned (.bool true) /\ Inv E w.heap.size w.heap.size m nd c (fun k => k = W2.heap.size) w' /\ Chg (Mv w.heap.size (fun k => k = W2.heap.size)) wr w') :=
        (HSh.out ⟨10,k2,0,0,S (nm k3),⟨#[]⟩,⟨#[]⟩,0,0,0⟩ hlo hhi hso E _ _ nd c _ wr HI3.out (by omega) (by omega) (HHA.out _ HB3.out)).mono fun e w' ⟨a1,⟨nd',c',a2,a3,a6,a4⟩,a5⟩ => by
         obtain ⟨rfl,rfl⟩ := a6 rfl
         exact ⟨a1,a4,a5⟩
       clear hnm hso
       generalize S (nm k3) = nk at *
       go_wp2_with fail
       refine HST.out.mono ?_
       rintro e w3 ⟨rfl,d3,d4⟩
       have HI4 : Hid (Inv E w.heap.size w.heap.size m nd c (fun k => k = W2.heap.size) w3) := d3
       have HC4 : Hid (Chg (Mv w.heap.size (fun k => k = W2.heap.size)) wr w3) := d4
       clear d3 d4 cn
       go_wp2
       go_roundw
       case rel =>
        refine ⟨k3 + 1,by omega,by go_num,fun j hj => ?_,HI4.out,HB3.out.trans (HC4.out.mvBelow hnr3)⟩
        have hkeep := HC4.out.keep W2.heap.size hz3 (fun h => h.2 rfl)
        have hcell : ∀ i,w3.cell? ⟨W2.heap.size,i,none⟩ = wr.cell? ⟨W2.heap.size,i,none⟩ := fun i => by unfold World.cell?; rw [hkeep]
        rw [hcell]
        exact HNM.out j hj
       case measure => simp [intOf]; omega
      ·clear hnm
       go_wp2
       go_roundw
       case rel => exact ⟨k2 + 1,by omega,by go_num,HI3.out.drop,HB3.out⟩
       case measure => simp [intOf]; omega
    ·have e2 : k2 = nd := by omega
     subst e2
     have HLK := HLh.out E _ _ _ _ _ wr HI2.out
     go_wp2_with fail
     refine HLK.mono ?_
     rintro e w3 ⟨rfl,hb3⟩
     go_wp2
     go_ret
     exact ⟨rfl,HB2.out.trans (hb3.mono hnr2)⟩
theorem markC_get {s : ByteArray} {n q : Nat} (h : q < n) : (markC s n)[q * 2]? = some (.string s) /\ (markC s n)[q * 2 + 1]? = some (.string ⟨#[]⟩) := by
 induction n generalizing q with
 | zero => omega
 | succ n ih =>
  cases q with
  | zero => exact ⟨rfl,rfl⟩
  | succ q =>
   have := ih (q := q) (by omega)
   rw [show (q + 1) * 2 = q * 2 + 2 by omega]
   exact this
theorem looks_true : Looks true := fun E n bw nd c Fr w hI => by
 obtain ⟨κ,ds,P,ls,h1,h2,h3,h4,h5,h6,h7⟩ := hI
 have hm := h1.marks
 obtain ⟨ai,ci,hiv⟩ := own_len hm.is
 obtain ⟨am,cm,hmv⟩ := own_len hm.im
 have k1 : w.cell? ⟨bw,1,none⟩ = some P.isv := h1.box.cell (j := 1) rfl
 have k2 : w.cell? ⟨bw,2,none⟩ = some P.imv := h1.box.cell (j := 2) rfl
 have hbl := h1.box.lt
 rw [hiv] at k1
 rw [hmv] at k2
 have HK : Hid (∀ wr : World,Below w.heap.size w wr -> wr.cell? ⟨bw,1,none⟩ = some (.slice ai ls.length ci) /\ wr.cell? ⟨bw,2,none⟩ = some (.slice am ls.length cm)) := fun wr hb => ⟨(hb.cell (p := ⟨bw,1,none⟩) hbl).trans k1,(hb.cell (p := ⟨bw,2,none⟩) hbl).trans k2⟩
 have HM : Hid (MarksAt w κ n bw P.isv P.imv ls) := hm
 have hlb : ls.length <= 9223372036854775807 := by
  rcases hm.is.2 with ⟨_,e⟩ | ⟨g,cap,cur,_,_,_,q1,q2,_⟩
  ·omega
  ·unfold maxLen at q2; omega
 clear h1 h2 h3 h4 h5 h6 h7 hm k1 k2
 go_enter Tryz.func34,Tryz.ntmps34
 go_wp2
 go_loopw [3] (fun i wr => ∃ k : Nat,k <= ls.length /\ i = .int .i64 k /\ Below w.heap.size w wr) (fun i _ => ls.length - (intOf i).toNat)
 case atStart => exact ⟨0,by omega,rfl,Below.refl _ _⟩
 case round =>
  obtain ⟨k,hk,rfl,hb⟩ := hrel
  obtain ⟨j1,j2⟩ := HK.out wr hb
  have HB : Hid (Below w.heap.size w wr) := hb
  by_cases hlt : k < ls.length
  ·obtain ⟨gi,cpi,hv1,_,hgi,hci⟩ := own_cellsN HM.out.is (by omega)
   obtain ⟨gm,cpm,hv2,_,hgm,hcm⟩ := own_cellsN HM.out.im (by omega)
   rw [hiv] at hv1
   rw [hmv] at hv2
   have ea : ai = some ⟨gi,0,none⟩ := by injection hv1
   have eb : am = some ⟨gm,0,none⟩ := by injection hv2
   subst ea
   subst eb
   obtain ⟨p,cp,hp,hNb,hrow⟩ := HM.out.each ls[k] (List.getElem_mem hlt)
   have i1 : w.cell? ⟨gi,k,none⟩ = some ls[k].v := by rw [hci k (by omega)]; simp [hlt]
   have i2 : w.cell? ⟨gm,k,none⟩ = some (.string ls[k].s) := by rw [hcm k (by omega)]; simp [hlt]
   rw [hp] at i1
   have HI : Hid (∀ wr : World,Below w.heap.size w wr -> wr.cell? ⟨gi,k,none⟩ = some (.slice p ls[k].n cp) /\ wr.cell? ⟨gm,k,none⟩ = some (.string ls[k].s)) := fun wr hb => ⟨(hb.cell (p := ⟨gi,k,none⟩) hgi).trans i1,(hb.cell (p := ⟨gm,k,none⟩) hgm).trans i2⟩
   clear i1 i2 hci hcm hv1 hv2 hp
   generalize ls[k].n = N at *
   generalize ls[k].s = s at *
   obtain ⟨W1,rfl⟩ : ∃ W1,W1 = wr := ⟨_,rfl⟩
   go_wp2
   go_loopw [4] (fun j wr => ∃ q : Nat,q <= N /\ j = .int .i64 q /\ Below w.heap.size w wr) (fun j _ => N - (intOf j).toNat)
   case atStart => exact ⟨0,by omega,rfl,HB.out⟩
   case round =>
    obtain ⟨q,hq,rfl,hb2⟩ := hrel
    obtain ⟨l1,l2⟩ := HK.out wr hb2
    obtain ⟨n1,n2⟩ := HI.out wr hb2
    have HB2 : Hid (Below w.heap.size w wr) := hb2
    by_cases hlq : q < N
    ·obtain ⟨g,cur,rfl,hcur,hmk,_⟩ := hrow (by omega)
     have hgl : g < w.heap.size := (Array.getElem?_eq_some_iff.1 hcur).1
     obtain ⟨mm1,mm2⟩ := markC_get (s := s) hlq
     have o1 : wr.cell? ⟨g,q * 2,none⟩ = some (.string s) := (hb2.cell (p := ⟨g,q * 2,none⟩) hgl).trans ((cell_of_row w g (q * 2) cur _ _ hcur).trans (hmk _ _ mm1))
     have o2 : wr.cell? ⟨g,q * 2 + 1,none⟩ = some (.string ⟨#[]⟩) := (hb2.cell (p := ⟨g,q * 2 + 1,none⟩) hgl).trans ((cell_of_row w g (q * 2 + 1) cur _ _ hcur).trans (hmk _ _ mm2))
     clear hmk mm1 mm2 hcur hb2
     go_wp2_with fail
     go_region
     all_goals
      go_wp2
      go_roundw
      case rel => exact ⟨q + 1,by omega,by go_num,HB2.out.drew⟩
      case measure => simp [intOf]; omega
    ·clear hb2
     go_wp2
     go_roundw
     case rel => exact ⟨k + 1,by omega,by go_num,HB2.out⟩
     case measure => simp [intOf]; omega
  ·clear hb
   go_wp2
   go_ret
   exact ⟨rfl,HB.out⟩
theorem step_made (m : Bool) (o : OpV) (hk : o.kind = 5) : Steps m o := by
 intro E n bw nd c Fr w hI hnd hcb hH
 obtain ⟨kind,at',x,y,s,t,u,c0,c1,c2⟩ := o
 dsimp only at hk
 subst hk
 have HM : Hid (∀ w1 : World,Below w.heap.size w w1 -> Calls Tryz.prog 64 #[.pointer (some ⟨bw,0,none⟩),.int .i64 x] w1 fun e w' => e = .returned (.bool true) /\ (∃ nd',nd' <= nd + 1 /\ Inv E n bw m nd' c Fr w') /\ Chg (Mv n Fr) w w') := fun w1 hb =>
  (made_any E n bw nd c m Fr x w1 (hI.below hb) hnd).mono fun e w' ⟨a1,a2,a3⟩ => ⟨a1,a2,chg_mv hb a3⟩
 clear hI hH
 unfold OpV.val
 dsimp only
 go_enter Tryz.func33,Tryz.ntmps33
 go_wp2_with (first | (go_at_call 64; refine (HM.out _ ?_).mono ?_; exact (Below.refl _ _).alloc (Nat.le_refl _) _; rintro e w2 ⟨rfl,hi,hc⟩; have HI2 : Hid (∃ nd',nd' <= nd + 1 /\ Inv E n bw m nd' c Fr w2) := hi; have HC2 : Hid (Chg (Mv n Fr) w w2) := hc; clear hi hc))
 go_ret
 obtain ⟨nd',a1,a2⟩ := HI2.out
 exact ⟨rfl,⟨nd',c,a1,by omega,fun e => absurd e (by decide),a2⟩,HC2.out⟩
theorem steps_writes (m : Bool) (o : OpV) (h5 : 5 <= o.kind) (h10 : o.kind <= 10) (hs : o.sized) : Steps m o := by
 rcases (show o.kind = 5 \/ o.kind = 6 \/ o.kind = 7 \/ o.kind = 8 \/ o.kind = 9 \/ o.kind = 10 by omega) with hk | hk | hk | hk | hk | hk
 ·exact step_made m o hk
 ·exact step_does m o (by omega) (by omega) (does_create m o hk)
 ·exact step_does m o (by omega) (by omega) (does_put m o hk)
 ·exact step_does m o (by omega) (by omega) (does_delete m o hk)
 ·exact step_does m o (by omega) (by omega) (does_flush m o hk)
 ·exact step_does m o (by omega) (by omega) (does_file m o hk hs.1)
end Go.Proofs.YtdhgebdbiehchaaGreatDoor
