/- On the way: PRead. -/
import Derived.Test.YtdhgebdbiehchaaGreatDoorB20
import Derived.Test.YtdhgebdbiehchaaGreatDoorB28
namespace Go.Proofs.YtdhgebdbiehchaaGreatDoor
open Go.RowKit Go.Maps
set_option linter.unusedSimpArgs false
set_option linter.unusedVariables false
set_option maxRecDepth 100000
set_option maxHeartbeats 1600000
theorem wpList_lookup_own {H : Type} {P : Program} (w : World) {ops : Array Oper} {rest : List Oper} {o : Oper} {a : Act} {Q : Exit -> Act -> World -> Prop} (hg : o.guard = none) (m x : Operand) (t : TypeId) (hop : o.op = Op.lookup t m x false)
  (k e : TypeId) (K : Keyed P k) (ht : P.underlying t = some (.map k e)) (R : Value -> Option (DataW H × List MemPlace)) {z : Value} (hz : (zeroValue e).run P w = .ok z w) (zd : DataW H) (zp : List MemPlace) (hzd : R z = some (zd,zp)) (b n : Nat) (D : DataW H)
  (hm : a.eval m = .map (some b)) (hown : w.ownsMap P k R b n D) (key : Value) (kl : Lit) (hx : a.eval x = key) (hkey : keyOf P k key = some kl)
  (hK : ∀ v ps,R v = some (D.atKey kl zd,ps) -> wpList P ops Q rest (a.put o.dst v) w) : wpList P ops Q (o :: rest) a w := by
 refine wpList_plain hg fun K' hK' => ?_
 obtain ⟨v,ps,hrun,hv⟩ := hown.lookup K ht hz hzd hkey
 unfold Oper.wp
 simp [execOp,hop,hm,hx,hrun,Result.andThen]
 exact hK' _ _ (hK v ps hv)
theorem fault_new {w : World} {E : Sent} {e : Int} (he : e ≠ 0) (a b : Value) {g : Nat} (hg : g = w.heap.size) : FaultIs (w.alloc (.cells #[a,b,errVal E e] 152)) E e (.iface 128 (.pointer (some ⟨g,0,none⟩))) := by
 subst hg
 exact .inr ⟨he,w.heap.size,rfl,by rw [World.cell?_alloc_at _ _ _ _ rfl]; rfl⟩
theorem FaultIs.drew {w : World} {E : Sent} {e : Int} {v : Value} (h : FaultIs w E e v) : FaultIs w.drew E e v := h
theorem FaultIs.below {w w' : World} {E : Sent} {e : Int} {v : Value} (h : FaultIs w E e v) (hb : Below w.heap.size w w') : FaultIs w' E e v := by
 rcases h with h | ⟨h1,b,h2,h3⟩
 ·exact .inl h
 ·exact .inr ⟨h1,b,h2,(hb.cell (p := ⟨b,2,none⟩) (cell_lt (p := ⟨b,2,none⟩) h3)).trans h3⟩
theorem faultIs_nil {w : World} {E : Sent} : FaultIs w E 0 .nilIface := .inl ⟨rfl,rfl⟩
theorem answer_any (E : Sent) (e : Int) (v : Value) (w : World) (hE : Env w E) (hv : FaultIs w E e v) (he : e = 0 \/ e = 6 \/ e = 7 \/ e = 8 \/ e = 1 \/ e = 2) :
  Calls Tryz.prog 41 #[v] w fun r w' => r = .returned (.int .i64 e) /\ Below w.heap.size w w' := by
 rcases hv with ⟨rfl,rfl⟩ | ⟨h0,b,rfl,hc⟩
 ·exact answer_nil w
 ·rw [errVal_pos h0] at hc
  have := answer_fault E b (errAd E e) w hE hc (errAd_mem E e)
  rwa [errNo_ad hE.nodup (by omega)] at this
theorem has_any (E : Sent) (n : Nat) (F : Nat -> Prop) (bd : Nat) (d : Dk) (p : Pr) (s : ByteArray) (w : World) (hE : Env0 n w E) (hD : DiskAt w F bd d p) (hs : s.size <= 140737488351232) :
  Calls Tryz.prog 69 #[.pointer (some ⟨bd,0,none⟩),.string s] w fun e w' => ∃ ev,e = .returned (.tuple #[.bool (!d.down && (d.file (nameN s.data.toList)).isSome),ev]) /\ FaultIs w' E (if d.down = true then 7 else 0) ev /\ Below w.heap.size w w' := by
 have c1 := hD.dk.cell (j := 1) rfl
 have c2 := hD.dk.cell (j := 2) rfl
 have gd := hE.env.down
 have e7 : errVal E 7 = .iface 352 (.pointer (some E.down)) := by simp [errVal,errAd]
 obtain ⟨D,h1,h2,h3⟩ := hD.map
 have hk := keyStr s hs
 have hat := (h2.2 (.string s.data.toList)).1 (.lit (.int .i64 (-1)))
 have HO : Hid (w.ownsMap Tryz.prog 9 rFp p.bm 3 D) := h1
 unfold fM at hat
 simp only at hat
 rw [<- e7] at gd
 clear h1 h2 h3 hD hE
 cases hd : d.down with
 | true =>
  rw [hd] at c2
  have HF : Hid (∀ (wx : World) (g : Nat),g = wx.heap.size -> FaultIs (wx.alloc (.cells #[.string ⟨#[102,105,110,100]⟩,.string s,errVal E 7] 152)) E 7 (.iface 128 (.pointer (some ⟨g,0,none⟩)))) := fun wx g hg => fault_new (by omega) _ _ hg
  rw [if_pos rfl]
  rw [e7] at gd HF
  clear hat HO hk hd c1 e7
  go_enter Tryz.func69,Tryz.ntmps69
  go_wp2
  go_region
  all_goals
   go_wp2
   go_ret2
   first
    | exact ⟨_,rfl,(HF.out w.drew _ rfl),((Below.refl _ _).drew.alloc (Nat.le_refl _) _)⟩
    | exact ⟨_,rfl,(HF.out w _ rfl).drew,((Below.refl _ _).alloc (Nat.le_refl _) _).drew⟩
 | false =>
  rw [hd] at c2
  rw [if_neg (by simp)]
  cases hf : d.file (nameN s.data.toList) with
  | none =>
   rw [hf] at hat
   simp only [Option.map_none,Option.getD_none] at hat
   clear hf hd gd e7
   go_enter Tryz.func69,Tryz.ntmps69
   go_wp2_with (first | (at_lookup; refine wpList_lookup_own _ rfl _ _ 180 rfl 9 134 keyedStr Tryz.underlying180 rFp (zeroFp _) _ [] rFp_nil p.bm 3 D rfl HO.out _ _ rfl hk ?_; intro v ps hv; rw [hat] at hv; obtain rfl := rFp_inv_nil hv))
   go_ret2
   exact ⟨_,rfl,faultIs_nil,Below.refl _ _⟩
  | some f =>
   rw [hf] at hat
   simp only [Option.map_some,Option.getD_some] at hat
   clear hf hd gd e7
   go_enter Tryz.func69,Tryz.ntmps69
   go_wp2_with (first | (at_lookup; refine wpList_lookup_own _ rfl _ _ 180 rfl 9 134 keyedStr Tryz.underlying180 rFp (zeroFp _) _ [] rFp_nil p.bm 3 D rfl HO.out _ _ rfl hk ?_; intro v ps hv; rw [hat] at hv; obtain rfl := rFp_inv hv))
   go_ret2
   exact ⟨_,rfl,faultIs_nil,Below.refl _ _⟩
theorem read_disk (E : Sent) (n : Nat) (F : Nat -> Prop) (bd : Nat) (d : Dk) (p : Pr) (s : ByteArray) (w : World) (hE : Env0 n w E) (hD : DiskAt w F bd d p) (hs : s.size <= 140737488351232) :
  Calls Tryz.prog 50 #[.pointer (some ⟨bd,0,none⟩),.string s] w fun e w' => ∃ ev,e = .returned (.tuple #[.string (S (d.fileR s.data.toList).1),ev]) /\ FaultIs w' E (d.fileR s.data.toList).2 ev /\ Below w.heap.size w w' := by
 have HF : Hid _ := find_any E n F bd d p s w hE hD hs
 have HD : Hid (DiskAt w F bd d p) := hD
 have e7 : errVal E 7 = .iface 352 (.pointer (some E.down)) := by simp [errVal,errAd]
 have e2 : errVal E 2 = .iface 352 (.pointer (some E.gone)) := by simp [errVal,errAd]
 have HN : Hid (∀ (e : Int) (wx : World) (g : Nat),e ≠ 0 -> g = wx.heap.size -> FaultIs (wx.alloc (.cells #[.string ⟨#[114,101,97,100]⟩,.string s,errVal E e] 152)) E e (.iface 128 (.pointer (some ⟨g,0,none⟩)))) := fun e wx g he hg => fault_new he _ _ hg
 clear hD hE
 cases hd : d.down with
 | true =>
  have HR : Hid (d.fileR s.data.toList = ([],7)) := by show _ = _; unfold Dk.fileR; rw [if_pos hd]
  rw [findV,if_pos hd] at HF
  have HN7 := HN.out 7
  rw [e7] at HF HN7
  have HN7' : Hid _ := HN7
  clear HN7 HN hd
  go_enter Tryz.func50,Tryz.ntmps50
  go_wp2_with fail
  refine Calls.mono HF.out ?_
  rintro e w1 ⟨rfl,hb1⟩
  have hb1z := hb1.size
  go_wp2
  go_ret2
  exact ⟨_,by rw [HR.out]; rfl,by rw [HR.out]; exact HN7'.out w1 _ (by omega) rfl,hb1.alloc hb1z _⟩
 | false =>
  cases hf : d.file (nameN s.data.toList) with
  | none =>
   have HR : Hid (d.fileR s.data.toList = ([],2)) := by show _ = _; unfold Dk.fileR; rw [if_neg (by rw [hd]; simp),hf]
   rw [findV,if_neg (by rw [hd]; simp),hf] at HF
   have HN2 := HN.out 2
   rw [e2] at HN2
   have HN2' : Hid _ := HN2
   simp only [e2] at HF
   clear HN2 HN hd hf e7 e2
   go_enter Tryz.func50,Tryz.ntmps50
   go_wp2_with fail
   refine Calls.mono HF.out ?_
   rintro e w1 ⟨rfl,hb1⟩
   have hb1z := hb1.size
   go_wp2
   go_ret2
   exact ⟨_,by rw [HR.out]; rfl,by rw [HR.out]; exact HN2'.out w1 _ (by omega) rfl,hb1.alloc hb1z _⟩
  | some f =>
   have HR : Hid (d.fileR s.data.toList = (f.text,0)) := by show _ = _; unfold Dk.fileR; rw [if_neg (by rw [hd]; simp),hf]
   rw [findV,if_neg (by rw [hd]; simp),hf] at HF
   simp only at HF
   obtain ⟨hfb,hfr⟩ := HD.out.files _ _ hf
   have HB : Hid _ := hfb
   have HFR : Hid _ := hfr
   clear HN hd hf e7 e2 hfb hfr
   generalize p.B (nameN s.data.toList) = fb at *
   generalize p.V (nameN s.data.toList) = fv at *
   go_enter Tryz.func50,Tryz.ntmps50
   go_wp2_with fail
   refine Calls.mono HF.out ?_
   rintro e w1 ⟨rfl,hb1⟩
   have c0 := ((Bx.below HB.out hb1 (Bx.lt HB.out)).cell (j := 0) rfl)
   have hcv := conv_own (own_belowK HFR.out hb1 (Nat.le_refl _))
   clear HF
   go_wp2
   go_ret2
   exact ⟨_,by rw [HR.out]; rfl,by rw [HR.out]; exact faultIs_nil,hb1⟩
end Go.Proofs.YtdhgebdbiehchaaGreatDoor
