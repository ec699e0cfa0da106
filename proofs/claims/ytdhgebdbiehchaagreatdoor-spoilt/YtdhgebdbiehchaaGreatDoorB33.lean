/- On the way: PTake3. -/
import Derived.Test.YtdhgebdbiehchaaGreatDoorB32
namespace Go.Proofs.YtdhgebdbiehchaaGreatDoor
open Go.RowKit Go.Maps
set_option linter.unusedSimpArgs false
set_option linter.unusedVariables false
set_option maxRecDepth 100000
set_option maxHeartbeats 1600000
theorem DiskAt.named {W W' : World} {F F' : Nat -> Prop} {bd : Nat} {d : Dk} {p : Pr} {j nb : Nat} {nv : Value} {f : Fl} {D : DataW Unit} (h : DiskAt W F bd d p) (hj : j <= 2) (hF : ∀ k,F k -> F' k) (hc : Chg (fun k => k = p.bm) W W') (hm : W'.ownsMap Tryz.prog 9 rFp p.bm 3 D) (hv : View D (fM (upd p.B j nb) (d.put j (some f)))) (hz : Maps.size D = (d.put j (some f)).cnt)
  (hA : FileAt W nb nv f) (hnB : ∀ a,(d.file a).isSome = true -> a ≠ j -> p.B a ≠ nb) (hnV : ∀ a,(d.file a).isSome = true -> a ≠ j -> ∀ k,(p.V a).ownBlock = some k -> nv.ownBlock ≠ some k) (fB : F' nb) (fV : ∀ k,nv.ownBlock = some k -> F' k) :
  DiskAt W' F' bd (d.put j (some f)) { p with B := upd p.B j nb,V := upd p.V j nv } := by
 obtain ⟨D0,o1,o2,o3⟩ := h.map
 have hp := put_same d j (some f)
 have nbm : ∀ {b : Nat} {cs : Array Value} {t : TypeId},Bx W b cs t -> ¬ b = p.bm := fun hb e => ownMap_unlike hb o1 e.symm
 have nrow : ∀ {v : Value} {n : Nat} {xs : List Value},W.ownsRow 0 5 1 v n xs -> ∀ g,v.ownBlock = some g -> ¬ g = p.bm := fun hr g hg e => by
  subst e
  rcases hr.2 with ⟨e3,_⟩ | ⟨g',cap,cur,e3,_,hgb,_⟩
  ·rw [e3] at hg; cases hg
  ·rw [e3] at hg
   have : g' = p.bm := by simpa [Value.ownBlock] using hg
   subst this
   obtain ⟨es,ck,hb,_⟩ := o1
   rw [hgb] at hb; cases hb
 have keepA : ∀ {b : Nat} {v : Value} {f : Fl},FileAt W b v f -> FileAt W' b v f := fun hx => ⟨hx.1.chg hc (nbm hx.1),own_chg hx.2 hc (nrow hx.2)⟩
 refine ⟨?_,⟨D,hm,hv,hz⟩,?_,?_,?_,?_,hF _ h.fd,hF _ h.fm,fun c e => hF _ (h.fc c e),?_,?_,?_⟩
 ·rw [hp.1,hp.2.1]; exact h.dk.chg hc (nbm h.dk)
 ·rw [hp.2.2.1]; exact h.coming.kept (fun b cs _ hb => hb.chg hc (nbm hb))
 ·intro a g ha
  rw [file_put d j a _ hj] at ha
  by_cases e : a = j
  ·subst e
   rw [if_pos rfl] at ha
   cases ha
   simp only [upd_self]
   exact keepA hA
  ·rw [if_neg e] at ha
   simp only [upd_ne _ _ e]
   exact keepA (h.files a g ha)
 ·intro a b hab ha hb
  rw [file_put d j _ _ hj] at ha hb
  by_cases e : a = j
  ·subst e
   rw [if_neg (Ne.symm hab)] at hb
   simp only [upd_self,upd_ne _ _ (Ne.symm hab)]
   exact (hnB b hb (Ne.symm hab)).symm
  ·rw [if_neg e] at ha
   by_cases e2 : b = j
   ·subst e2
    simp only [upd_self,upd_ne _ _ e]
    exact hnB a ha e
   ·rw [if_neg e2] at hb
    simp only [upd_ne _ _ e,upd_ne _ _ e2]
    exact h.dB a b hab ha hb
 ·intro a b hab ha hb k hk
  rw [file_put d j _ _ hj] at ha hb
  simp only at hk ⊢
  by_cases e : a = j
  ·subst e
   rw [if_neg (Ne.symm hab)] at hb
   rw [upd_self] at hk
   rw [upd_ne _ _ (Ne.symm hab)]
   intro e3
   exact hnV b hb (Ne.symm hab) k e3 hk
  ·rw [if_neg e] at ha
   rw [upd_ne _ _ e] at hk
   by_cases e2 : b = j
   ·subst e2
    rw [upd_self]
    exact hnV a ha e k hk
   ·rw [if_neg e2] at hb
    rw [upd_ne _ _ e2]
    exact h.dV a b hab ha hb k hk
 ·intro a ha
  rw [file_put d j _ _ hj] at ha
  by_cases e : a = j
  ·subst e; simp only [upd_self]; exact fB
  ·rw [if_neg e] at ha
   simp only [upd_ne _ _ e]; exact hF _ (h.fB a ha)
 ·intro a ha k hk
  rw [file_put d j _ _ hj] at ha
  simp only at hk
  by_cases e : a = j
  ·subst e; rw [upd_self] at hk; exact fV k hk
  ·rw [if_neg e] at ha
   rw [upd_ne _ _ e] at hk
   exact hF _ (h.fV a ha k hk)
 ·intro s k e; rw [hp.2.2.1] at e; exact h.small s k e
theorem rename1_any (F : Nat -> Prop) (bd : Nat) (d : Dk) (p : Pr) (i j c c2 : Nat) (f : Fl) (w : World) (hD : DiskAt w F bd d p) (hi : d.file i = some f) (hj : j <= 2) (hc : w.cell? ⟨c,0,none⟩ = some (.string (S (nm i)))) (hc2 : w.cell? ⟨c2,0,none⟩ = some (.string (S (nm j)))) (hFz : ∀ q,F q -> q < w.heap.size) (hF2 : ¬ F c2) :
  Calls Tryz.prog 105 #[.pointer (some ⟨bd,0,none⟩),.pointer (some ⟨p.B i,0,none⟩),.pointer (some ⟨c,0,none⟩),.pointer (some ⟨c2,0,none⟩)] w fun e w' => e = .returned .nilIface /\ (∃ p',DiskAt w' (Fx F w w') bd ((d.put i none).put j (some f)) p') /\ Chg F w w' := by
 have hil := file_le hi
 have c1 : w.cell? ⟨bd,1,none⟩ = some (.map (some p.bm)) := hD.dk.cell (j := 1) rfl
 obtain ⟨D,h1,h2,h3⟩ := hD.map
 have hk := keyStr (S (nm i)) (nm_small i)
 have hk2 := keyStr (S (nm j)) (nm_small j)
 rw [S_data] at hk hk2
 obtain ⟨w1,hrun,hown1,ht1⟩ := World.ownsMap.drop (w := w.drew) h1.drew keyedStr Tryz.underlying180 hk 0
 have hC1 : Chg (fun k => k = p.bm) w w1 := ((Chg.refl _ w).drew).grown ht1.grown (fun k e => by cases e; exact .inl rfl)
 have hv1 := view_gone h2 h3 hil
 have hD1 : DiskAt w1 F bd (d.put i none) p := hD.gone hil (fun k h => h) hC1 hown1 hv1.1 hv1.2
 have nbm1 : ∀ {b : Nat} {cs : Array Value} {t : TypeId},Bx w b cs t -> ¬ b = p.bm := fun hb e => ownMap_unlike hb h1 e.symm
 have hA1 : FileAt w1 (p.B i) (p.V i) f := by
  obtain ⟨a1,a2⟩ := hD.files i f hi
  refine ⟨a1.chg hC1 (nbm1 a1),own_chg a2 hC1 ?_⟩
  intro g hg e
  subst e
  rcases a2.2 with ⟨e3,_⟩ | ⟨g',cap,cur,e3,_,hgb,_⟩
  ·rw [e3] at hg; cases hg
  ·rw [e3] at hg
   have : g' = p.bm := by simpa [Value.ownBlock] using hg
   subst this
   obtain ⟨es,ck,hb,_⟩ := h1
   rw [hgb] at hb; cases hb
 have c11 : w1.cell? ⟨bd,1,none⟩ = some (.map (some p.bm)) := hD1.dk.cell (j := 1) rfl
 have hc21 : w1.cell? ⟨c2,0,none⟩ = some (.string (S (nm j))) := by
  have hlt := cell_lt (p := ⟨c2,0,none⟩) hc2
  have := hC1.keep c2 hlt (fun e => hF2 (by rw [e]; exact hD.fm))
  rw [<- hc2]
  unfold World.cell?
  rw [this]
 obtain ⟨w2,hrun2,hown2,ht2⟩ := World.ownsMap.update (w := w1.drew) hown1.drew keyedStr Tryz.underlying180 (by unfold maxLen; omega) hk2 (rFp_mk (p.B i))
 have hC2 : Chg (fun k => k = p.bm) w1 w2 := ((Chg.refl _ w1).drew).grown ht2 (fun k e => by cases e; exact .inl rfl)
 have hv2 := view_make hv1.1 hv1.2 hj (nb := p.B i) f
 have hown3 := own_tight hown2 (m := 3) (by rw [hv2.2]; exact cnt_le _)
 have hi1 : (d.file i).isSome = true := by rw [hi]; rfl
 have hno : ∀ a,((d.put i none).file a).isSome = true -> a ≠ i /\ (d.file a).isSome = true := fun a ha => by
  rw [file_put d i a _ hil] at ha
  split at ha
  ·cases ha
  ·rename_i e; exact ⟨e,ha⟩
 have HE : Hid (∃ p',DiskAt w2 (Fx F w w2) bd ((d.put i none).put j (some f)) p') := ⟨_,hD1.named hj (fun k h => .inl h) hC2 hown3 hv2.1 hv2.2 hA1 (fun a ha _ => hD.dB a i (hno a ha).1 (hno a ha).2 hi1) (fun a ha _ => hD.dV a i (hno a ha).1 (hno a ha).2 hi1) (.inl (hD.fB i hi1)) (fun k hk => .inl (hD.fV i hi1 k hk))⟩
 have HG : Hid (Chg F w w2) := (hC1.mono (fun k _ e => by subst e; exact hD.fm)).trans (hC2.mono (fun k _ e => by subst e; exact .inl hD.fm))
 clear hD h1 hi hD1 hA1 hno hi1 hv1 hv2 hC1 hC2 hown3 hown2 ht2 hown1 ht1 h2 h3 nbm1
 go_enter Tryz.func105,Tryz.ntmps105
 go_wp2_with fail
 go_region
 all_goals
  go_wp2_with fail
  go_region
  all_goals
   go_wp2
   go_ret
   exact ⟨rfl,HE.out,HG.out⟩
end Go.Proofs.YtdhgebdbiehchaaGreatDoor
