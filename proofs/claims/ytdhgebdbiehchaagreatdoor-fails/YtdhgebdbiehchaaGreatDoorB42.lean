/- On the way: LwOwn2. -/
import Derived.Test.YtdhgebdbiehchaaGreatDoorB41
import Derived.Laws.BytesArg
namespace Go.Proofs.YtdhgebdbiehchaaGreatDoor
open Go.RowKit Go.Maps
set_option linter.unusedSimpArgs false
set_option linter.unusedVariables false
set_option maxRecDepth 100000
set_option maxHeartbeats 3200000
theorem conv3 (X : World) (a b c : Int) : (convert 43 9 (.slice (some ⟨X.heap.size,0,none⟩) 3 3)).run Tryz.prog (X.alloc (.cells #[.int .u8 a,.int .u8 b,.int .u8 c] 5)).drew = .ok (.string (strOfNums [a,b,c])) (X.alloc (.cells #[.int .u8 a,.int .u8 b,.int .u8 c] 5)).drew := by
 refine run_convert_bytes_arg (P := Tryz.prog) (X.alloc (.cells #[.int .u8 a,.int .u8 b,.int .u8 c] 5)).drew 43 5 Tryz.underlying43 Tryz.underlying5 X.heap.size 0 3 3 [a,b,c] rfl (fun i hi => ?_) 9 Tryz.underlying9
 have f : ∀ j,(X.alloc (.cells #[.int .u8 a,.int .u8 b,.int .u8 c] 5)).drew.cell? ⟨X.heap.size,0 + j,none⟩ = (#[Value.int .u8 a,.int .u8 b,.int .u8 c])[j]? := fun j => by rw [Nat.zero_add]; exact World.cell?_alloc_new X _ _ j
 match i,hi with
 | 0,_ => exact f 0
 | 1,_ => exact f 1
 | 2,_ => exact f 2
theorem str3_size (a b c : Int) : (strOfNums [a,b,c]).size = 3 := by
 simp [strOfNums]
 rfl
theorem own_two {W : World} {g cap n k : Nat} {ys : List Value} (h : W.ownsRow 0 54 2 (.slice (some ⟨g,0,none⟩) n cap) n ys) (a b : Value) : ((W.setCell ⟨g,k * 2,none⟩ a).setCell ⟨g,k * 2 + 1,none⟩ b).ownsRow 0 54 2 (.slice (some ⟨g,0,none⟩) n cap) n ((ys.set (k * 2) a).set (k * 2 + 1) b) :=
 ((h.stored (k * 2) a).1.stored (k * 2 + 1) b).1
theorem mark_next {s : ByteArray} {xs : List Value} {k len : Nat} (hx : xs.length = len * 2) (hk : k < len) : ((markC s k ++ xs.drop (k * 2)).set (k * 2) (.string s)).set (k * 2 + 1) (.string ⟨#[]⟩) = markC s (k + 1) ++ xs.drop ((k + 1) * 2) := by
 have hl := markC_length s k
 have e1 : xs.drop (k * 2) = xs[k * 2] :: xs[k * 2 + 1] :: xs.drop ((k + 1) * 2) := by
  rw [List.drop_eq_getElem_cons (by omega),List.drop_eq_getElem_cons (by omega),show k * 2 + 1 + 1 = (k + 1) * 2 by omega]
 rw [e1,markC_add s k 1,List.set_append_right _ _ (by omega),List.set_append_right _ _ (by omega),hl,Nat.sub_self,show k * 2 + 1 - k * 2 = 1 by omega]
 simp [markC]
theorem own_any (n bw : Nat) (κ : Nat -> Nat) (ds : List (Dk × Dk)) (P : LawP) (ls : List Mark) (v : Value) (len : Nat) (xs : List Value) (w : World) (hL : LawAt w κ n bw ds P ls) (hv : w.ownsRow 0 54 2 v len xs) (hlen : len <= 2000) (hx0 : 0 <= P.next) (hx1 : P.next <= 1353245081000) (hls : ls.length <= 4 * 1353245081000) (hn : n <= w.heap.size) (hvn : ∀ g,v.ownBlock = some g -> κ g = 1 /\ n <= g) :
  Calls Tryz.prog 204 #[.pointer (some ⟨bw,0,none⟩),v] w fun e w' => e = .returned (.tuple #[]) /\ (∃ κ' P' ls',LawAt w' κ' n bw ds P' ls' /\ P'.pv = P.pv /\ P'.ps = P.ps /\ P'.next = P.next + 1 /\ ls'.length = ls.length + 4 /\ (∀ k,κ k = 1 -> v.ownBlock ≠ some k -> k < w.heap.size -> κ' k = 1)) /\ Chg (fun k => k = bw \/ v.ownBlock = some k \/ P.isv.ownBlock = some k \/ P.imv.ownBlock = some k) w w' := by
 have c3 : w.cell? ⟨bw,3,none⟩ = some (.int .i64 P.next) := hL.box.cell (j := 3) rfl
 have f3 := hL.box.frozen 3
 have hcv : ∀ a b c : Int,(convert 43 9 (.slice (some ⟨w.heap.size,0,none⟩) 3 3)).run Tryz.prog ((w.setCell ⟨bw,3,none⟩ (.int .i64 (P.next + 1))).alloc (.cells #[.int .u8 a,.int .u8 b,.int .u8 c] 5)).drew = .ok (.string (strOfNums [a,b,c])) ((w.setCell ⟨bw,3,none⟩ (.int .i64 (P.next + 1))).alloc (.cells #[.int .u8 a,.int .u8 b,.int .u8 c] 5)).drew := fun a b c => by
  have := conv3 (w.setCell ⟨bw,3,none⟩ (.int .i64 (P.next + 1))) a b c
  rw [show (w.setCell ⟨bw,3,none⟩ (.int .i64 (P.next + 1))).heap.size = w.heap.size by simp] at this
  exact this
 have hsz3 := str3_size
 obtain ⟨pv,cv,hvv⟩ := own_len hv
 subst hvv
 go_enter Tryz.func204,Tryz.ntmps204
 go_wp2_with fail
 go_cut [4] (fun e4 wx => ∃ s : ByteArray,e4 = .string s /\ Below w.heap.size (w.setCell ⟨bw,3,none⟩ (.int .i64 (P.next + 1))) wx)
 case first =>
  go_region
  all_goals
   go_wp2_with fail
   go_meet
   exact ⟨_,rfl,((Below.refl _ _).alloc (by simp) _).drew⟩
 case rest =>
  obtain ⟨s,rfl,hB⟩ := hcut
  have hBs : w.heap.size <= wc.heap.size := by have := hB.size; simpa using this
  have hgl : ∀ g,pv = some ⟨g,0,none⟩ -> g < wc.heap.size := fun g e => by
   subst e
   have := own_lt hv g rfl
   omega
  have hvc : wc.ownsRow 0 54 2 (.slice pv len cv) len xs := own_below (own_box (cs := #[]) (t := 0) hv (own_bx hL.box hv (by decide)) 3 (.int .i64 (P.next + 1))) hB (by simp)
  have hxl : xs.length = len * 2 := hv.1
  have HV : Hid (wc.ownsRow 0 54 2 (.slice pv len cv) len xs) := hvc
  have HVW : Hid (w.ownsRow 0 54 2 (.slice pv len cv) len xs) := hv
  have HLW : Hid (LawAt w κ n bw ds P ls) := hL
  have HBC : Hid (Below w.heap.size (w.setCell ⟨bw,3,none⟩ (.int .i64 (P.next + 1))) wc) := hB
  clear hcv c3 f3 hvc hv hL hB
  go_wp2
  go_loopw [6] (fun i wr => ∃ k : Nat,k <= len /\ i = .int .i64 k /\ wr.ownsRow 0 54 2 (.slice pv len cv) len (markC s k ++ xs.drop (k * 2)) /\ Bx wr wc.heap.size #[.string s,.string ⟨#[]⟩] 54 /\ Chg (fun q => (Value.slice pv len cv).ownBlock = some q) (wc.alloc (.cells #[.string s,.string ⟨#[]⟩] 54)) wr) (fun i _ => len - (intOf i).toNat)
  case atStart => exact ⟨0,by omega,rfl,by simp [markC]; exact HV.out.alloc _,bx_new _ _ _ rfl,Chg.refl _ _⟩
  case round =>
   obtain ⟨k,hk,rfl,ho,hbx,hc⟩ := hrel
   have HC : Hid (Chg (fun q => (Value.slice pv len cv).ownBlock = some q) (wc.alloc (.cells #[.string s,.string ⟨#[]⟩] 54)) wr) := hc
   by_cases hlt : k < len
   ·obtain ⟨g,cap,hv2,_,hgz,hgc⟩ := own_cellsN ho (by omega)
    have ep : pv = some ⟨g,0,none⟩ := by injection hv2
    subst ep
    have hgw := hgl g rfl
    have hlx : (markC s k ++ xs.drop (k * 2)).length = len * 2 := ho.1
    obtain ⟨u0,hu0⟩ : ∃ u,(markC s k ++ xs.drop (k * 2))[k * 2]? = some u := ⟨_,List.getElem?_eq_getElem (by omega)⟩
    obtain ⟨u1,hu1⟩ : ∃ u,(markC s k ++ xs.drop (k * 2))[k * 2 + 1]? = some u := ⟨_,List.getElem?_eq_getElem (by omega)⟩
    have q0 := (hgc (k * 2) (by omega)).trans hu0
    have q1 := (hgc (k * 2 + 1) (by omega)).trans hu1
    have qf : ∀ j,wr.frozen? ⟨g,j,none⟩ = false := fun j => by
     rcases ho.2 with ⟨e,_⟩ | ⟨g',cap',cur,e,_,hg',_⟩
     ·cases e
     ·cases e
      exact (show Bx wr g cur 54 from hg').frozen j
    have qf0 := qf (k * 2)
    have qf1 := qf (k * 2 + 1)
    have m0 : wr.cell? ⟨wc.heap.size,0,none⟩ = some (.string s) := hbx.cell (j := 0) rfl
    have m1 : wr.cell? ⟨wc.heap.size,1,none⟩ = some (.string ⟨#[]⟩) := hbx.cell (j := 1) rfl
    have HN : Hid (((wr.setCell ⟨g,k * 2,none⟩ (.string s)).setCell ⟨g,k * 2 + 1,none⟩ (.string ⟨#[]⟩)).ownsRow 0 54 2 (.slice (some ⟨g,0,none⟩) len cv) len (markC s (k + 1) ++ xs.drop ((k + 1) * 2))) := by
     have := own_two (k := k) ho (.string s) (.string ⟨#[]⟩)
     rw [mark_next hxl hlt] at this
     exact this
    have HBX : Hid (Bx ((wr.setCell ⟨g,k * 2,none⟩ (.string s)).setCell ⟨g,k * 2 + 1,none⟩ (.string ⟨#[]⟩)) wc.heap.size #[.string s,.string ⟨#[]⟩] 54) := (hbx.other (by omega) _).other (by omega) _
    have HCC : Hid (Chg (fun q => (Value.slice (some ⟨g,0,none⟩) len cv).ownBlock = some q) (wc.alloc (.cells #[.string s,.string ⟨#[]⟩] 54)) ((wr.setCell ⟨g,k * 2,none⟩ (.string s)).setCell ⟨g,k * 2 + 1,none⟩ (.string ⟨#[]⟩))) := (hc.set g (k * 2) _ (.inl rfl)).set g (k * 2 + 1) _ (.inl rfl)
    clear ho hbx hc hgc hu0 hu1 hv2 qf
    go_wp2
    go_roundw
    case rel => exact ⟨k + 1,by omega,by go_num,HN.out,HBX.out,HCC.out⟩
    case measure => simp [intOf]; omega
   ·have hkn : len = k := by omega
    subst hkn
    rw [List.drop_eq_nil_of_le (by omega),List.append_nil] at ho
    have ne_v : ∀ q,(Value.slice pv len cv).ownBlock = some q -> q ≠ bw := fun q e e' => own_bx HLW.out.box HVW.out (by decide) (by rw [<- e']; exact e)
    have vlt : ∀ q,(Value.slice pv len cv).ownBlock = some q -> q < w.heap.size := own_lt HVW.out
    have cW : Chg (fun q => q = bw \/ (Value.slice pv len cv).ownBlock = some q) w wr := by
     have c1 : Chg (fun q => q = bw \/ (Value.slice pv len cv).ownBlock = some q) w (w.setCell ⟨bw,3,none⟩ (.int .i64 (P.next + 1))) := (Chg.refl _ w).set bw 3 _ (.inl (.inl rfl))
     have c2 := c1.trans0 (by have := HBC.out; exact (by simpa using this : Below (w.setCell ⟨bw,3,none⟩ (.int .i64 (P.next + 1))).heap.size (w.setCell ⟨bw,3,none⟩ (.int .i64 (P.next + 1))) wc))
     exact (c2.alloc _).trans (HC.out.mono (fun q _ hq => .inl (.inr hq)))
    have bW : Bx wr bw #[P.pv,P.isv,P.imv,.int .i64 (P.next + 1)] 65 := by
     have b1 : Bx (w.setCell ⟨bw,3,none⟩ (.int .i64 (P.next + 1))) bw #[P.pv,P.isv,P.imv,.int .i64 (P.next + 1)] 65 := HLW.out.box.setj 3 _
     have b2 := (b1.below HBC.out HLW.out.box.lt).alloc (.cells #[.string s,.string ⟨#[]⟩] 54)
     exact b2.chg HC.out (fun e => ne_v bw e rfl)
    obtain ⟨g1,c1,X1,g2,c2,X2,g3,c3,X3,⟨r1,r2,r3⟩,⟨d1,d2,d3⟩,⟨e1,e2,e3,e0⟩,⟨a1,a2,a3⟩⟩ := own_chain ho hlen
    have nbm : ¬ (Value.slice pv len cv).ownBlock = some wc.heap.size := fun e => by have := vlt _ e; omega
    have m1 := hbx.chg d1 nbm
    have m2 := m1.chg d2 nbm
    have x10 : X1.cell? ⟨wc.heap.size,0,none⟩ = some (.string s) := m1.cell (j := 0) rfl
    have x11 : X1.cell? ⟨wc.heap.size,1,none⟩ = some (.string ⟨#[]⟩) := m1.cell (j := 1) rfl
    have x20 : X2.cell? ⟨wc.heap.size,0,none⟩ = some (.string s) := m2.cell (j := 0) rfl
    have x21 : X2.cell? ⟨wc.heap.size,1,none⟩ = some (.string ⟨#[]⟩) := m2.cell (j := 1) rfl
    have x00 : wr.cell? ⟨wc.heap.size,0,none⟩ = some (.string s) := hbx.cell (j := 0) rfl
    have x01 : wr.cell? ⟨wc.heap.size,1,none⟩ = some (.string ⟨#[]⟩) := hbx.cell (j := 1) rfl
    have nvb : ¬ (Value.slice pv len cv).ownBlock = some bw := fun e => ne_v bw e rfl
    have b3 := ((bW.chg d1 nvb).chg d2 nvb).chg d3 nvb
    have cW3 : Chg (fun q => q = bw \/ (Value.slice pv len cv).ownBlock = some q) w X3 := ((cW.trans (d1.mono (fun q _ hq => .inl (.inr hq)))).trans (d2.mono (fun q _ hq => .inl (.inr hq)))).trans (d3.mono (fun q _ hq => .inl (.inr hq)))
    have hm := HLW.out.marks
    have hnI : ∀ {e size k : Nat} {u : Value} {ys : List Value},w.ownsRow 0 e size u k ys -> e ≠ 65 -> e ≠ 54 -> X3.ownsRow 0 e size u k ys := fun hrow he1 he2 => own_chg hrow cW3 (fun q hq hK => by
     rcases hK with hK | hK
     ·exact own_bx HLW.out.box hrow he1 (by rw [<- hK]; exact hq)
     ·exact own_rw hrow HVW.out he2 q hq hK)
    have is3 := hnI hm.is (by decide) (by decide)
    have im3 := hnI hm.im (by decide) (by decide)
    have lis : (ls.map (·.v)).length = ls.length := by simp
    have lim : (ls.map fun m => Value.string m.s).length = ls.length := by simp
    obtain ⟨ai,ci,hiv⟩ := own_len hm.is
    obtain ⟨am,cm,hmv⟩ := own_len hm.im
    obtain ⟨g4,c4,X4,r4,o4,d4,a4,l4⟩ := app_four (t := 62) (e := 32) Tryz.underlying62 info_items rfl (by decide) (v := P.isv) (xs := ls.map (·.v)) (by rw [lis]; exact is3) (a := .slice pv len cv) (b := .slice (some ⟨g1,0,none⟩) (len + 1) c1) (c := .slice (some ⟨g2,0,none⟩) (len + 2) c2) (d := .slice (some ⟨g3,0,none⟩) (len + 3) c3) (by simp [Value.oneCell']) (by rw [lis]; exact hls)
    rw [lis] at r4 o4
    have nib : ¬ P.isv.ownBlock = some bw := own_bx HLW.out.box hm.is (by decide)
    have nmb : ¬ P.imv.ownBlock = some bw := own_bx HLW.out.box hm.im (by decide)
    have b4 := b3.chg d4 nib
    have im4 : X4.ownsRow 0 9 1 P.imv ls.length (ls.map fun m => Value.string m.s) := own_chg im3 d4 (fun q hq hK => own_rw hm.im hm.is (by decide) q hq hK)
    have im5 : (X4.setCell ⟨bw,1,none⟩ (.slice (some ⟨g4,0,none⟩) (ls.length + 4) c4)).ownsRow 0 9 1 P.imv ls.length (ls.map fun m => Value.string m.s) := own_box (cs := #[]) (t := 0) im4 nmb 1 _
    obtain ⟨g5,c5,X6,r5,o5,d5,a5,l5⟩ := app_four (t := 63) (e := 9) Tryz.underlying63 info_strs rfl (by decide) (v := P.imv) (xs := ls.map fun m => Value.string m.s) (by rw [lim]; exact im5) (a := .string s) (b := .string s) (c := .string s) (d := .string s) (by simp [Value.oneCell']) (by rw [lim]; exact hls)
    rw [lim] at r5 o5
    have b5 := b4.setj 1 (.slice (some ⟨g4,0,none⟩) (ls.length + 4) c4)
    have b6 := b5.chg d5 nmb
    have b7 := b6.setj 2 (.slice (some ⟨g5,0,none⟩) (ls.length + 4) c5)
    have z3 := cW3.size
    have z4 := d4.size
    have hzs : (X4.setCell ⟨bw,1,none⟩ (.slice (some ⟨g4,0,none⟩) (ls.length + 4) c4)).heap.size = X4.heap.size := by simp
    have c37 : Chg (fun q => q = bw \/ P.isv.ownBlock = some q \/ P.imv.ownBlock = some q) X3 (X6.setCell ⟨bw,2,none⟩ (.slice (some ⟨g5,0,none⟩) (ls.length + 4) c5)) := by
     have q1 : Chg (fun q => q = bw \/ P.isv.ownBlock = some q \/ P.imv.ownBlock = some q) X3 X4 := d4.mono (fun q _ hq => .inr (.inl hq))
     have q2 := q1.set bw 1 (.slice (some ⟨g4,0,none⟩) (ls.length + 4) c4) (.inl (.inl rfl))
     have q3 := q2.trans (d5.mono (fun q _ hq => .inl (.inr (.inr hq))))
     exact q3.set bw 2 _ (.inl (.inl rfl))
    have nT : ∀ {g : Nat} {cur : Array Value},X3.heap[g]? = some (.cells cur 54 (0,0)) -> ¬ (g = bw \/ P.isv.ownBlock = some g \/ P.imv.ownBlock = some g) := fun {g cur} hcur => by
     rintro (e | e | e)
     ·rw [e,show X3.heap[bw]? = _ from b3] at hcur
      simp at hcur
     ·exact own_ty is3 e hcur (by decide)
     ·exact own_ty im3 e hcur (by decide)
    have rk : ∀ g N,Row X3 g s N -> Row (X6.setCell ⟨bw,2,none⟩ (.slice (some ⟨g5,0,none⟩) (ls.length + 4) c5)) g s N := fun g N hR => by
     have hR' := hR
     obtain ⟨cur,hcur,_⟩ := hR'
     exact hR.keep (c37.keep g hR.lt (nT hcur))
    have e7 : (X6.setCell ⟨bw,2,none⟩ (.slice (some ⟨g5,0,none⟩) (ls.length + 4) c5)).ownsRow 0 54 2 (.slice pv len cv) len (markC s len) := own_chg e0 c37 (fun q hq hK => by
     rcases hK with hK | hK | hK
     ·exact ne_v q hq hK
     ·exact own_rw HVW.out hm.is (by decide) q hq hK
     ·exact own_rw HVW.out hm.im (by decide) q hq hK)
    have is7 : (X6.setCell ⟨bw,2,none⟩ (.slice (some ⟨g5,0,none⟩) (ls.length + 4) c5)).ownsRow 0 32 1 (.slice (some ⟨g4,0,none⟩) (ls.length + 4) c4) (ls.length + 4) (ls.map (·.v) ++ [.slice pv len cv,.slice (some ⟨g1,0,none⟩) (len + 1) c1,.slice (some ⟨g2,0,none⟩) (len + 2) c2,.slice (some ⟨g3,0,none⟩) (len + 3) c3]) := by
     have i1 := own_box (cs := #[]) (t := 0) o4 (own_bx b4 o4 (by decide)) 1 (.slice (some ⟨g4,0,none⟩) (ls.length + 4) c4)
     have i2 := own_chg i1 d5 (fun q hq hK => own_rw i1 im5 (by decide) q hq hK)
     exact own_box (cs := #[]) (t := 0) i2 (own_bx b6 i2 (by decide)) 2 _
    have im7 := own_box (cs := #[]) (t := 0) o5 (own_bx b6 o5 (by decide)) 2 (.slice (some ⟨g5,0,none⟩) (ls.length + 4) c5)
    have cW7 : Chg (fun k => k = bw \/ (Value.slice pv len cv).ownBlock = some k \/ P.isv.ownBlock = some k \/ P.imv.ownBlock = some k) w (X6.setCell ⟨bw,2,none⟩ (.slice (some ⟨g5,0,none⟩) (ls.length + 4) c5)) :=
     (cW3.mono (fun q _ hq => hq.imp id .inl)).trans (c37.mono (fun q _ hq => .inl (by rcases hq with h | h | h; exact .inl h; exact .inr (.inr (.inl h)); exact .inr (.inr (.inr h)))))
    obtain ⟨κ',hL',hκ'⟩ := LawAt.owned HLW.out hn hlen HVW.out (fun g e => hvn g (by rw [e]; rfl)) cW7 b7 is7 im7 (fun g e => by
      have : g4 = g := by simpa [Value.ownBlock] using e
      subst this
      exact a4.imp id (fun h => by omega)) (fun g e => by
      have : g5 = g := by simpa [Value.ownBlock] using e
      subst this
      exact a5.imp id (fun h => by rw [hzs] at h; omega)) (rk _ _ e1) (rk _ _ e2) (rk _ _ e3) e7 (a1.imp id (fun h => by have := cW.size; omega)) (a2.imp id (fun h => by have := cW.size; omega)) (a3.imp id (fun h => by have := cW.size; omega))
    have HEND : Hid ((∃ κ' P' ls',LawAt (X6.setCell ⟨bw,2,none⟩ (.slice (some ⟨g5,0,none⟩) (ls.length + 4) c5)) κ' n bw ds P' ls' /\ P'.pv = P.pv /\ P'.ps = P.ps /\ P'.next = P.next + 1 /\ ls'.length = ls.length + 4 /\ (∀ k,κ k = 1 -> (Value.slice pv len cv).ownBlock ≠ some k -> k < w.heap.size -> κ' k = 1)) /\ Chg (fun k => k = bw \/ (Value.slice pv len cv).ownBlock = some k \/ P.isv.ownBlock = some k \/ P.imv.ownBlock = some k) w (X6.setCell ⟨bw,2,none⟩ (.slice (some ⟨g5,0,none⟩) (ls.length + 4) c5))) := ⟨⟨κ',_,_,hL',rfl,rfl,rfl,by simp,hκ'⟩,cW7⟩
    have k31 : X3.cell? ⟨bw,1,none⟩ = some P.isv := b3.cell (j := 1) rfl
    have k41 : X4.cell? ⟨bw,1,none⟩ = some P.isv := b4.cell (j := 1) rfl
    have k42 : X4.cell? ⟨bw,2,none⟩ = some P.imv := b4.cell (j := 2) rfl
    have f41 := b4.frozen 1
    have k62 : X6.cell? ⟨bw,2,none⟩ = some P.imv := b6.cell (j := 2) rfl
    have f62 := b6.frozen 2
    rw [hiv] at r4 k31 k41
    rw [hzs] at r5
    rw [hmv] at r5 k42 k62
    have R1 : Hid _ := r1
    have R2 : Hid _ := r2
    have R3 : Hid _ := r3
    have R4 : Hid _ := r4
    have R5 : Hid _ := r5
    clear r1 r2 r3 r4 r5 hL' hκ' cW7 is7 im7 e7 rk nT c37 b3 b4 b5 b6 b7 im3 im4 im5 is3 o4 o5 d4 d5 a4 a5 l4 l5 m1 m2 nbm d1 d2 d3 e0 e1 e2 e3 a1 a2 a3 ho hbx hc cW bW cW3 hnI nvb nib nmb hm ne_v vlt hzs lis lim hiv hmv z3 z4
    go_wp2_with (first | (at_builtin; first | (refine wp_append_run rfl (.tmp 49) (.tmp 51) 32 32 rfl rfl rfl R1.out ?_) | (refine wp_append_run rfl (.tmp 53) (.tmp 56) 32 32 rfl rfl rfl R2.out ?_) | (refine wp_append_run rfl (.tmp 58) (.tmp 62) 32 32 rfl rfl rfl R3.out ?_) | (refine wp_append_run rfl (.tmp 68) (.tmp 73) 62 62 rfl rfl rfl R4.out ?_) | (refine wp_append_run rfl (.tmp 81) (.tmp 86) 63 63 rfl rfl rfl R5.out ?_)))
    refine bodyPost_end (v := .tuple #[]) ?_ rfl ⟨rfl,HEND.out⟩
    simp [results,Tryz.results204,go_sem]
end Go.Proofs.YtdhgebdbiehchaaGreatDoor
