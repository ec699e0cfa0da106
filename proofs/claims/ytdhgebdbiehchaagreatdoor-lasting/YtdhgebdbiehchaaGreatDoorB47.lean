/- On the way: LaWalk. -/
import Derived.Test.YtdhgebdbiehchaaGreatDoorB46
import Derived.Test.YtdhgebdbiehchaaGreatDoorB40
namespace Go.Proofs.YtdhgebdbiehchaaGreatDoor
open Go.RowKit Go.Maps
set_option linter.unusedSimpArgs false
set_option linter.unusedVariables false
set_option maxRecDepth 100000
set_option maxHeartbeats 6400000
structure Ac where
 kind : Int
 a : Int
 b : Int
def AcR (x : Ac) : Prop := IntR x.kind /\ IntR x.a /\ IntR x.b
def ActsAt (w : World) (ad : Option Addr) (l : List Ac) : Prop := l = [] \/ ∃ b off,ad = some ⟨b,off,none⟩ /\ b < w.heap.size /\ ∀ i (hi : i < l.length),w.cell? ⟨b,off + i * 3,none⟩ = some (.int .i64 l[i].kind) /\ w.cell? ⟨b,off + i * 3 + 1,none⟩ = some (.int .i64 l[i].a) /\ w.cell? ⟨b,off + i * 3 + 2,none⟩ = some (.int .i64 l[i].b)
def LaS (E : Sent) (n bx blk seed bits : Nat) (j : Nat) (va : Value) (u : Bool) (w : World) : Prop :=
 ∃ (c : Nat) (G : Nat -> Prop) (d : Dk) (all : List (List Sd)),c <= j /\ LaAt E n G bx d va all w /\ DkOk d /\ LSt blk seed bits c d all u /\ all.length <= j + 1 /\ 0 < all.length /\ ∀ L ∈ all,L.length <= 60 + j
theorem las_new {E : Sent} {n bx blk seed bits : Nat} {w1 w2 : World} {q : StP} (hE : Env0 n w2 E) (hn : n <= w1.heap.size) (hS : StoreAt w2 (Gnew w1 w2) bx (kdk blk seed bits [] 14 none []) q) (hK : KOk blk seed bits [] none [] 0) :
  LaS E n bx blk seed bits 0 (.slice (some ⟨w2.heap.size + 1,0,none⟩) 1 1) true ((w2.alloc (.cells #[.slice none 0 0] 34)).alloc (.cells #[ptrH w2.heap.size] 31)) := by
 have hb : Below w2.heap.size w2 (w2.alloc (.cells #[.slice none 0 0] 34)) := (Below.refl _ _).alloc (Nat.le_refl _) _
 have hG : ∀ k,Gnew w1 w2 k -> n <= k /\ k < w2.heap.size := fun k hk => ⟨Nat.le_trans hn hk.1,hk.2⟩
 have ho : OneAt (w2.alloc (.cells #[.slice none 0 0] 34)) n (Gnew w1 w2) w2.heap.size [] :=
  ⟨⟨.slice none 0 0,⟨bx_new w2 _ _ rfl,World.ownsRow_nil _ _ _ _⟩,fun g e => by cases e⟩,hE.le,fun hk => absurd (hG _ hk).2 (by omega),by simp⟩
 have hl := LaAt.one (E := E) (d := kdk blk seed bits [] 14 none []) (bx := bx) (hE.below (hb.mono hE.le)) (fun k hk => ⟨(hG k hk).1,Nat.lt_of_lt_of_le (hG k hk).2 hb.size⟩) ⟨q,hS.below hb⟩ ho
 refine ⟨0,Gnew w1 w2,kdk blk seed bits [] 14 none [],[[]],Nat.le_refl _,?_,kdk_ok (sy := 14) hK (by omega) (by simp [headL_length,blocksB]) (fun f e => by cases e),.inl ⟨rfl,[],[],none,none,none,[],?_,?_,by simp [lenF],by simp,?_,?_⟩,by simp,by simp,by simp⟩
 ·have e : (w2.alloc (.cells #[.slice none 0 0] 34)).heap.size = w2.heap.size + 1 := by simp
  rw [e] at hl
  exact hl
 ·show _ = ldk blk seed bits [] (headL blk seed bits ++ blocksB []).length none none none []
  have : (headL blk seed bits ++ blocksB []).length = 14 := by simp [headL_length,blocksB]
  rw [this]
  rfl
 ·exact hK
 ·intro j L hj
  cases j with
  | zero =>
   have e : [] = L := by simpa using hj
   rw [<- e]
   rfl
  | succ j => simp at hj
 ·intro e he
  simp at he
theorem TlAt.oneAt {w0 w : World} {bh n : Nat} {G : Nat -> Prop} {L : List Sd} {v va : Value} (h : TlAt w0 w bh L [] v va) (hn : n <= w0.heap.size) (hG : ∀ k,G k -> k < w0.heap.size) (hL : L.length <= 1000) : OneAt w n G bh L :=
 ⟨⟨v,⟨h.held.box,own_lower h.held.row hn⟩,fun g hg hk => absurd (hG g hk) (by have := own_ge h.held.row g hg; omega)⟩,Nat.le_trans hn h.ge,fun hk => absurd (hG bh hk) (by have := h.ge; omega),hL⟩
theorem TlAt.took {w0 w w' : World} {bh : Nat} {L L' : List Sd} {v v' va : Value} (h : TlAt w0 w bh L [] v va) (hh : HeldAt w' w.heap.size bh L' v') (hc : Chg (fun j => j = bh) w w') : TlAt w0 w' bh L' [] v' (.slice none 0 0) :=
 ⟨⟨hh.box,own_lower hh.row h.bl.size⟩,World.ownsRow_nil _ _ _ _,h.bl.trans (hc.below h.bl.size (fun k hk => by rw [hk]; exact h.ge)),h.ge⟩
theorem keyR_at (a : Int) : ∃ i,i < 60 /\ keyR a = keyK i := by
 have := pickK_range (c := a) (n := 60) (by omega)
 exact ⟨(pickK a 60).toNat,by omega,rfl⟩
theorem next_few {L : List Sd} {e : Ent} (h : L.length <= 210) : (nextL L e).length <= L.length + 1 := by
 have h1 : (butK e.key L).length <= L.length := List.length_filter_le _ _
 unfold nextL
 rw [List.length_append]
 split <;> simp <;> omega
theorem las_mk {E : Sent} {n bx blk seed bits j c : Nat} {G : Nat -> Prop} {d : Dk} {va : Value} {all : List (List Sd)} {u : Bool} {w : World} (hc : c <= j + 1) (h : LaAt E n G bx d va all w) (hok : DkOk d) (hst : LSt blk seed bits c d all u) (hal : all.length <= j + 2) (h0 : 0 < all.length) (hLs : ∀ L ∈ all,L.length <= 60 + j + 1) : LaS E n bx blk seed bits (j + 1) va u w :=
 ⟨c,G,d,all,hc,h,hok,hst,hal,h0,hLs⟩
theorem lasting_any (E : Sent) (ag al : Option Addr) (g : List Int) (l : List Ac) (cg cl : Nat) (w : World) (hE : Env w E) (hg : IntsAt w ag g) (hl : ActsAt w al l) (hgr : ∀ x ∈ g,IntR x) (hlr : ∀ x ∈ l,AcR x) (hgl : g.length <= 9223372036854775807) (hll : l.length <= 9223372036854775807) :
  Calls Tryz.prog 10 #[.slice ag g.length cg,.slice al l.length cl] w fun e w' => e = .returned (.bool true) /\ Below w.heap.size w w' := by
 have hr := cfg_range g
 have hE0 : Env0 w.heap.size w E := ⟨w,rfl,hE,Below.refl _ _⟩
 have HCF := kconfig_any ag g cg w hg hgr hgl
 have HBG : Hid (∀ w1 : World,Below w.heap.size w w1 -> Calls Tryz.prog 13 #[.agg #[.int .i64 (cfgBlk g : Int),.int .i64 (cfgSeed g : Int),.int .i64 (cfgBits g : Int)]] w1 fun e w' => ∃ bs,e = .returned (.pointer (some ⟨bs,0,none⟩)) /\ LaS E w.heap.size bs (cfgBlk g) (cfgSeed g) (cfgBits g) 0 (.slice (some ⟨w'.heap.size + 1,0,none⟩) 1 1) true ((w'.alloc (.cells #[.slice none 0 0] 34)).alloc (.cells #[ptrH w'.heap.size] 31)) /\ Below w.heap.size w w') := fun w1 hb => by
  refine (kbegun_any E w.heap.size (cfgBlk g) (cfgSeed g) (cfgBits g) w1 (hE0.below hb) hr.1 hr.2.1 hr.2.2.1 hr.2.2.2).mono ?_
  rintro e w' ⟨bs,q,rfl,hS,hb2⟩
  have hb3 : Below w.heap.size w w' := hb.trans (hb2.mono hb.size)
  exact ⟨bs,rfl,las_new (hE0.below hb3) hb.size hS (k_begun hr.1 hr.2.1 hr.2.2.1 hr.2.2.2).2,hb3⟩
 have HLC : Hid (∀ (wx : World),Below w.heap.size w wx -> l = [] \/ ∃ b off,al = some ⟨b,off,none⟩ /\ b < w.heap.size /\ ∀ i (hi : i < l.length),wx.cell? ⟨b,off + i * 3,none⟩ = some (.int .i64 l[i].kind) /\ wx.cell? ⟨b,off + i * 3 + 1,none⟩ = some (.int .i64 l[i].a) /\ wx.cell? ⟨b,off + i * 3 + 2,none⟩ = some (.int .i64 l[i].b)) := fun wx hb => by
  rcases hl with h | ⟨b,off,e,h1,h2⟩
  ·exact .inl h
  ·exact .inr ⟨b,off,e,h1,fun i hi => ⟨(hb.cell (p := ⟨b,off + i * 3,none⟩) h1).trans (h2 i hi).1,(hb.cell (p := ⟨b,off + i * 3 + 1,none⟩) h1).trans (h2 i hi).2.1,(hb.cell (p := ⟨b,off + i * 3 + 2,none⟩) h1).trans (h2 i hi).2.2⟩⟩
 have HLR : Hid (∀ x ∈ l,AcR x) := hlr
 generalize cfgBlk g = blk at *
 generalize cfgSeed g = seed at *
 generalize cfgBits g = bits at *
 clear hr hg hgr hl hlr
 go_enter Tryz.func10,Tryz.ntmps10
 go_wp2_with (first | (go_at_call 14; refine HCF.mono ?_; rintro e w1 ⟨rfl,hb1⟩; have HB1 : Hid (Below w.heap.size w w1) := hb1; clear hb1) | (go_at_call 13; refine (HBG.out w1 HB1.out).mono ?_; rintro e w2 ⟨bx,rfl,hk2,hb2⟩; have HK2 : Hid (LaS E w.heap.size bx blk seed bits 0 (.slice (some ⟨w2.heap.size + 1,0,none⟩) 1 1) true ((w2.alloc (.cells #[.slice none 0 0] 34)).alloc (.cells #[ptrH w2.heap.size] 31))) := hk2; have HB2 : Hid (Below w.heap.size w w2) := hb2; clear hk2 hb2))
 have HB3 : Hid (Below w.heap.size w ((w2.alloc (.cells #[.slice none 0 0] 34)).alloc (.cells #[ptrH w2.heap.size] 31))) := (HB2.out.alloc HB2.out.size _).alloc (by have := HB2.out.size; simp; omega) _
 go_loopw [6,7,8] (fun va up iv wr => ∃ (j : Nat) (u : Bool),iv = .int .i64 (j : Int) /\ up = .bool u /\ j <= 150 /\ LaS E w.heap.size bx blk seed bits j va u wr /\ Below w.heap.size w wr) (fun _ _ iv _ => 150 - (intOf iv).toNat)
 case atStart => exact ⟨0,true,rfl,rfl,by omega,HK2.out,HB3.out⟩
 case round =>
  obtain ⟨j,u,rfl,rfl,hj,hs,hb⟩ := hrel
  by_cases hlt : j < l.length /\ j < 150
  ·obtain ⟨hl1,hl2⟩ := hlt
   rcases HLC.out wr hb with e0 | ⟨b,off,rfl,hbl,hcs⟩
   ·rw [e0] at hl1; simp at hl1
   obtain ⟨c0,c1,c2⟩ := hcs j hl1
   obtain ⟨hr0,hr1,hr2⟩ := HLR.out l[j] (List.getElem_mem _)
   have HRA : Hid (IntR l[j].a /\ IntR l[j].b) := ⟨hr1,hr2⟩
   clear hcs hr0 hr1 hr2
   generalize l[j] = o at *
   obtain ⟨kd,oa,ob⟩ := o
   dsimp only at c0 c1 c2 HRA
   obtain ⟨c,G,d,all,hcj,hLA,hok,hst,hal,hal0,hLs⟩ := hs
   have hbo : Below wr.heap.size wr (wr.alloc (.cells #[.int .i64 kd,.int .i64 oa,.int .i64 ob] 48)) := (Below.refl _ _).alloc (Nat.le_refl _) _
   have HLA : Hid (LaAt E w.heap.size G bx d u6 all (wr.alloc (.cells #[.int .i64 kd,.int .i64 oa,.int .i64 ob] 48))) := hLA.below hbo
   have HGS : Hid (∀ k,G k -> k < wr.heap.size) := fun k hk => (hLA.gs k hk).2
   have HOK : Hid (DkOk d) := hok
   have HST : Hid (LSt blk seed bits c d all u) := hst
   have HLS : Hid (∀ L ∈ all,L.length <= 60 + j) := hLs
   have HBo : Hid (Below w.heap.size w (wr.alloc (.cells #[.int .i64 kd,.int .i64 oa,.int .i64 ob] 48))) := hb.trans (hbo.mono hb.size)
   have hwn : w.heap.size <= wr.heap.size := hb.size
   have z1 : (j : Int) < (l.length : Int) := by omega
   have z2 : (j : Int) < 150 := by omega
   clear hLA hok hst hLs hbo hb
   by_cases k1 : kd = 1
   ·as_aux_lemma =>
     subst k1
     obtain ⟨L,hL⟩ : ∃ L,all[all.length - 1]? = some L := ⟨_,List.getElem?_eq_getElem (by omega)⟩
     have HL : Hid (all[all.length - 1]? = some L) := hL
     obtain ⟨ga,ps,offa,capa,cur,hp,hgG,hpl,hone⟩ := HLA.out.ptrs
     obtain ⟨p,hpp⟩ : ∃ p,ps[all.length - 1]? = some p := ⟨_,List.getElem?_eq_getElem (by omega)⟩
     have ho := hone _ p L hpp hL
     obtain ⟨v,hh,hvG⟩ := ho.held
     have hLf : L.length <= 210 := by have := HLS.out L (List.mem_of_getElem? hL); omega
     obtain ⟨m,hm⟩ : ∃ m,all.length = m + 1 := ⟨all.length - 1,by omega⟩
     have cpt : (wr.alloc (.cells #[.int .i64 1,.int .i64 oa,.int .i64 ob] 48)).cell? ⟨ga,offa + m,none⟩ = some (.pointer (some ⟨p,0,none⟩)) := by
      have := hp.cell hpp
      rw [hm,Nat.add_sub_cancel] at this
      exact this
     have hva := hp.eq
     rw [hpl,hm] at hva
     subst hva
     have HAG : Hid (∀ wx : World,Below (wr.alloc (.cells #[.int .i64 1,.int .i64 oa,.int .i64 ob] 48)).heap.size (wr.alloc (.cells #[.int .i64 1,.int .i64 oa,.int .i64 ob] 48)) wx -> Calls Tryz.prog 21 #[.pointer (some ⟨p,0,none⟩)] wx fun e w' => e = .returned (.pointer (some ⟨wx.heap.size,0,none⟩)) /\ (∃ v',HeldAt w' wx.heap.size wx.heap.size L v' /\ v'.ownBlock ≠ some wx.heap.size) /\ Below wx.heap.size wx w') := fun wx hb => kagain_any w.heap.size p v L wx (hh.chg (Chg.of_below (F := fun _ => False) hb) (fun h => h) (fun _ _ h => h)) (by omega)
     have hm1 : (m : Int) + 1 <= 152 := by omega
     have HOB : Hid (∀ wx : World,Below (wr.alloc (.cells #[.int .i64 1,.int .i64 oa,.int .i64 ob] 48)).heap.size (wr.alloc (.cells #[.int .i64 1,.int .i64 oa,.int .i64 ob] 48)) wx -> wx.cell? ⟨wr.heap.size,1,none⟩ = some (.int .i64 oa) /\ wx.cell? ⟨wr.heap.size,2,none⟩ = some (.int .i64 ob)) := fun wx hbx => by
      have hbx2 : Bx (wr.alloc (.cells #[.int .i64 1,.int .i64 oa,.int .i64 ob] 48)) wr.heap.size #[.int .i64 1,.int .i64 oa,.int .i64 ob] 48 := bx_new wr _ _ rfl
      have := hbx2.below hbx hbx2.lt
      exact ⟨this.cell (j := 1) rfl,this.cell (j := 2) rfl⟩
     have HGS3 : Hid (∀ k,G k -> k < (wr.alloc (.cells #[.int .i64 1,.int .i64 oa,.int .i64 ob] 48)).heap.size) := fun k hk => by have := HGS.out k hk; simp; omega
     have HMM : Hid (all.length = m + 1) := hm
     clear hp hgG hpl hone hpp ho hh hvG hL hm
     go_wp2_with fail
     refine (HAG.out _ (Below.refl _ _)).mono ?_
     rintro e w4 ⟨rfl,⟨v4,hh4,hv4⟩,hb4⟩
     generalize (wr.alloc (.cells #[.int .i64 1,.int .i64 oa,.int .i64 ob] 48)) = W3 at *
     have HT4 : Hid (TlAt W3 w4 W3.heap.size L [] v4 (.slice none 0 0)) := ⟨hh4,World.ownsRow_nil _ _ _ _,hb4,Nat.le_refl _⟩
     obtain ⟨o1,o2⟩ := HOB.out w4 hb4
     clear hh4 hb4 HAG
     go_wp2_with fail
     refine (kkey_any oa w4 HRA.out.1).mono ?_
     rintro e w5 ⟨rfl,hb5⟩
     rw [show keyK (pickK oa 60).toNat = keyR oa from rfl]
     have HT5 : Hid (TlAt W3 w5 W3.heap.size L [] v4 (.slice none 0 0)) := HT4.out.below hb5
     have hkl := keyR_len oa
     clear hb5
     go_wp2_with fail
     refine (ktakes_any W3.heap.size W3.heap.size v4 L (keyR oa) w5 HT5.out.held hv4 (by omega) (by omega)).mono ?_
     rintro e w6 ⟨rfl,⟨v6,hh6⟩,hc6⟩
     have HT6 : Hid (TlAt W3 w6 W3.heap.size (butK (keyR oa) L) [] v6 (.slice none 0 0)) := HT5.out.took hh6 hc6
     have HB6 : Hid (Below W3.heap.size W3 w6) := HT6.out.bl
     obtain ⟨q1,q2⟩ := HOB.out w6 HB6.out
     have HLA6 : Hid (LaAt E w.heap.size G bx d (.slice (some ⟨ga,offa,none⟩) (m + 1) capa) all w6) := HLA.out.below HB6.out
     have HBw6 : Hid (Below w.heap.size w w6) := HBo.out.trans (HB6.out.mono HLA.out.env.le)
     clear hh6 hc6 hv4 o1 o2
     go_wp2_with fail
     by_cases hpk : pickK ob 4 = 0
     ·refine (kpick_any ob 4 w6 (by omega) HRA.out.2 (by omega)).mono ?_
      rintro e w6 ⟨rfl,rfl⟩
      rw [hpk]
      have HO6 : Hid (OneAt w6 w.heap.size G W3.heap.size (nextL L ⟨false,keyR oa,[]⟩)) := by
       have e1 : nextL L ⟨false,keyR oa,[]⟩ = butK (keyR oa) L := by
        unfold nextL
        simp
       show OneAt _ _ _ _ _
       rw [e1]
       exact HT6.out.oneAt HLA.out.env.le HGS3.out (by have : (butK (keyR oa) L).length <= L.length := List.length_filter_le _ _; omega)
      have hek : EntOk ⟨false,keyR oa,[]⟩ := ⟨by show 1 <= (keyR oa).length; omega,by show (keyR oa).length <= 20; omega,by simp,fun _ => rfl⟩
      go_wp2_with fail
      refine (la_del_any E w.heap.size G bx blk seed bits c d _ all u W3.heap.size L (keyR oa) w6 HLA6.out HOK.out HST.out (by omega) HL.out hek (keyR_at oa) HO6.out).mono ?_
      rintro e w7 ⟨r,G',d',rfl,hb7,hl7,ho7,hok7,hcase⟩
      have HB7 : Hid (Below w.heap.size w w7) := HBw6.out.trans hb7
      have hnf := next_few (e := ⟨false,keyR oa,[]⟩) hLf
      generalize nextL L ⟨false,keyR oa,[]⟩ = L' at *
      obtain ⟨v8,X8,hrun,hl8,hb8⟩ := hl7.push ho7 (by omega)
      have HRUN : Hid _ := hrun
      have HL8 : Hid (LaAt E w.heap.size G' bx d' v8 (all ++ [L']) X8) := hl8
      have HB8 : Hid (Below w.heap.size w X8) := HB7.out.trans hb8
      have HL7 : Hid (LaAt E w.heap.size G' bx d' (.slice (some ⟨ga,offa,none⟩) (m + 1) capa) all w7) := hl7
      have HOK7 : Hid (DkOk d') := hok7
      have HLF : Hid (L'.length <= L.length + 1 /\ L.length <= 60 + j) := ⟨hnf,HLS.out L (List.mem_of_getElem? HL.out)⟩
      clear hrun hl8 hb8 hl7 hok7 ho7 hb7 hnf
      rcases hcase with ⟨rfl,rfl,h⟩ | ⟨rfl,rfl,h⟩ | ⟨rfl,rfl,h⟩
      ·have HS8 : Hid (LSt blk seed bits (c + 1) d' (all ++ [L']) true) := .inl ⟨rfl,h⟩
       clear h
       go_wp2_with (first | (at_builtin; refine wp_append_run rfl (.tmp 85) (.tmp 87) 46 46 rfl rfl rfl HRUN.out ?_))
       go_roundw
       case rel =>
        refine ⟨j + 1,true,by go_num,rfl,by omega,las_mk (c := c + 1) (by omega) HL8.out HOK7.out HS8.out (by have := HMM.out; simp; omega) (by simp) (fun L1 hL1 => ?_),HB8.out⟩
        rcases List.mem_append.1 hL1 with h | h
        ·have := HLS.out L1 h; omega
        ·have := HLF.out; rw [List.mem_singleton.1 h]; omega
       case measure => simp [intOf]; omega
      ·have HS7 : Hid (LSt blk seed bits (c + 1) d' all false) := .inr ⟨rfl,h⟩
       clear h
       go_wp2
       go_roundw
       case rel => exact ⟨j + 1,false,by go_num,rfl,by omega,las_mk (by omega) HL7.out HOK7.out HS7.out (by omega) hal0 (fun L hL => by have := HLS.out L hL; omega),HB7.out⟩
       case measure => simp [intOf]; omega
      ·have HS7 : Hid (LSt blk seed bits (c + 1) d' all false) := .inr ⟨rfl,h⟩
       clear h
       go_wp2
       go_roundw
       case rel => exact ⟨j + 1,false,by go_num,rfl,by omega,las_mk (by omega) HL7.out HOK7.out HS7.out (by omega) hal0 (fun L hL => by have := HLS.out L hL; omega),HB7.out⟩
       case measure => simp [intOf]; omega
     ·refine (kpick_any ob 4 w6 (by omega) HRA.out.2 (by omega)).mono ?_
      rintro e w6 ⟨rfl,rfl⟩
      have hr4 := tdiv_range HRA.out.2
      have HV : Hid (∀ wx : World,Calls Tryz.prog 25 #[.int .i64 (ob.tdiv 4)] wx fun e w' => e = .returned (.string (S (valueK (ob.tdiv 4)))) /\ Below wx.heap.size wx w') := fun wx => kvalue_any (ob.tdiv 4) wx hr4
      have hwb : IntKind.i64.wrap (ob.tdiv 4) = ob.tdiv 4 := by rw [IntKind.wrap_i64]; unfold IntR at hr4; omega
      have hek : EntOk ⟨true,keyR oa,valueK (ob.tdiv 4)⟩ := ⟨by show 1 <= (keyR oa).length; omega,by show (keyR oa).length <= 20; omega,valueK_len (ob.tdiv 4),fun h => by cases h⟩
      have HEK : Hid (EntOk ⟨true,keyR oa,valueK (ob.tdiv 4)⟩) := hek
      have HNE : Hid (nextL L ⟨true,keyR oa,valueK (ob.tdiv 4)⟩ = butK (keyR oa) L ++ [⟨true,keyR oa,valueK (ob.tdiv 4),0,0⟩]) := by
       show _ = _
       unfold nextL
       simp [entS]
      have HNF : Hid ((nextL L ⟨true,keyR oa,valueK (ob.tdiv 4)⟩).length <= L.length + 1) := next_few hLf
      have HML : Hid ((butK (keyR oa) L).length <= L.length) := List.length_filter_le _ _
      clear hek hr4
      generalize hvl : valueK (ob.tdiv 4) = vl at *
      generalize hb4 : ob.tdiv 4 = b4 at *
      generalize hky : keyR oa = ky at *
      have HKA : Hid (∃ i,i < 60 /\ ky = keyK i) := by
       rw [<- hky]
       exact keyR_at oa
      clear hvl hky
      generalize hMg : butK ky L = M at *
      have hML : M.length <= 210 := by have := HML.out; omega
      have HPU : Hid (∀ w3 : World,Below w6.heap.size w6 w3 -> w3.cell? ⟨W3.heap.size,0,none⟩ = some v6 /\ ∃ g cp X,(Builtin.append_ #[32,32] 32 #[v6,.slice (some ⟨w3.heap.size,0,none⟩) 1 1]).run Tryz.prog (w3.alloc (.cells #[.string (S ky),.string (S vl)] 54)) = .ok (.slice (some ⟨g,0,none⟩) (M.length + 1) cp) X /\ X.cell? ⟨W3.heap.size,0,none⟩ = some v6 /\ X.frozen? ⟨W3.heap.size,0,none⟩ = false /\ TlAt W3 (X.setCell ⟨W3.heap.size,0,none⟩ (.slice (some ⟨g,0,none⟩) (M.length + 1) cp)) W3.heap.size (M ++ [⟨true,ky,vl,0,0⟩]) [] (.slice (some ⟨g,0,none⟩) (M.length + 1) cp) (.slice none 0 0)) := fun w3 hb => by
       have h3 := HT6.out.below hb
       obtain ⟨g,cp,X,a1,a2,a3,a4⟩ := h3.pushL ⟨true,ky,vl,0,0⟩ (by omega)
       exact ⟨h3.held.box.cell (j := 0) rfl,g,cp,X,a1,a2,a3,a4⟩
      have c6 : w6.cell? ⟨W3.heap.size,0,none⟩ = some v6 := HT6.out.held.box.cell (j := 0) rfl
      have f6 := HT6.out.held.box.frozen 0
      have hbl : W3.heap.size < w6.heap.size := HT6.out.held.box.lt
      have HOB6 : Hid (∀ w3 : World,Below w6.heap.size w6 w3 -> w3.cell? ⟨wr.heap.size,2,none⟩ = some (.int .i64 ob)) := fun w3 hb => (HOB.out w3 (HB6.out.trans (hb.mono HB6.out.size))).2
      obtain ⟨av,acp,hve⟩ := own_len HT6.out.held.row
      subst hve
      clear hMg
      go_wp2_with fail
      go_region_law (first | (refine step_append_run rfl (.tmp 65) (.tmp 72) 32 rfl (by simp [Act.eval,Act.put]) (by simp [Act.eval,Act.put]) HRUN.out ?_) | (refine step_call_run rfl 25 (.tmp 69) 3 rfl (by simp [Act.eval,Act.put]) (by rfl) (HV.out _) ?_; rintro e w3 ⟨rfl,hb3⟩; refine ⟨_,rfl,?_⟩; have hb3' : Below w6.heap.size w6 w3 := ⟨hb3.os,hb3.tape,hb3.output,hb3.size,hb3.block⟩; have hz3 : W3.heap.size < w3.heap.size := Nat.lt_of_lt_of_le hbl hb3'.size; have hn1 : W3.heap.size ≠ w3.heap.size := (by omega); have hn2 : w3.heap.size ≠ W3.heap.size := (by omega); obtain ⟨c3,g8,cp8,X,hrun,cX,fX,htX⟩ := HPU.out w3 hb3'; have o3 := HOB6.out w3 hb3'; have HRUN : Hid _ := hrun; have HTX : Hid (TlAt W3 (X.setCell ⟨W3.heap.size,0,none⟩ (.slice (some ⟨g8,0,none⟩) (M.length + 1) cp8)) W3.heap.size (M ++ [⟨true,ky,vl,0,0⟩]) [] (.slice (some ⟨g8,0,none⟩) (M.length + 1) cp8) (.slice none 0 0)) := htX; clear hrun htX hb3 hb3'))
      all_goals
       have o8 := (HOB.out _ HTX.out.bl).2
       go_wp2_with (first | (go_at_call 25; refine (HV.out _).mono ?_; rintro e w8 ⟨rfl,hb8v⟩; have HT8 : Hid (TlAt W3 w8 W3.heap.size (M ++ [⟨true,ky,vl,0,0⟩]) [] (.slice (some ⟨g8,0,none⟩) (M.length + 1) cp8) (.slice none 0 0)) := HTX.out.below hb8v; clear hb8v))
       have HO8 : OneAt w8 w.heap.size G W3.heap.size (nextL L ⟨true,ky,vl⟩) := by
        rw [HNE.out]
        exact HT8.out.oneAt HLA.out.env.le HGS3.out (by simp; omega)
       have HLA8 := HLA.out.below HT8.out.bl
       have HBw8 : Hid (Below w.heap.size w w8) := HBo.out.trans (HT8.out.bl.mono HLA.out.env.le)
       refine (la_put_any E w.heap.size G bx blk seed bits c d _ all u W3.heap.size L ky vl w8 HLA8 HOK.out HST.out (by omega) HL.out HEK.out HKA.out HO8).mono ?_
       rintro e w7 ⟨r,G',d',rfl,hb7,hl7,ho7,hok7,hcase⟩
       have HB7 : Hid (Below w.heap.size w w7) := HBw8.out.trans hb7
       have hnf := HNF.out
       clear HO8 HLA8 HNE HNF HPU HOB6 HTX HT8 HV
       generalize nextL L ⟨true,ky,vl⟩ = L' at *
       obtain ⟨v8,X8,hrun,hl8,hb8⟩ := hl7.push ho7 (by omega)
       have HRUN : Hid _ := hrun
       have HL8 : Hid (LaAt E w.heap.size G' bx d' v8 (all ++ [L']) X8) := hl8
       have HB8 : Hid (Below w.heap.size w X8) := HB7.out.trans hb8
       have HL7 : Hid (LaAt E w.heap.size G' bx d' (.slice (some ⟨ga,offa,none⟩) (m + 1) capa) all w7) := hl7
       have HOK7 : Hid (DkOk d') := hok7
       have HLF : Hid (L'.length <= L.length + 1 /\ L.length <= 60 + j) := ⟨hnf,HLS.out L (List.mem_of_getElem? HL.out)⟩
       clear hrun hl8 hb8 hl7 hok7 ho7 hb7 hnf
       rcases hcase with ⟨rfl,rfl,h⟩ | ⟨rfl,rfl,h⟩ | ⟨rfl,rfl,h⟩
       ·have HS8 : Hid (LSt blk seed bits (c + 1) d' (all ++ [L']) true) := .inl ⟨rfl,h⟩
        clear h
        go_wp2_with (first | (at_builtin; refine wp_append_run rfl (.tmp 85) (.tmp 87) 46 46 rfl rfl rfl HRUN.out ?_))
        go_roundw
        case rel =>
         refine ⟨j + 1,true,by go_num,rfl,by omega,las_mk (c := c + 1) (by omega) HL8.out HOK7.out HS8.out (by have := HMM.out; simp; omega) (by simp) (fun L1 hL1 => ?_),HB8.out⟩
         rcases List.mem_append.1 hL1 with h | h
         ·have := HLS.out L1 h; omega
         ·have := HLF.out; rw [List.mem_singleton.1 h]; omega
        case measure => simp [intOf]; omega
       ·have HS7 : Hid (LSt blk seed bits (c + 1) d' all false) := .inr ⟨rfl,h⟩
        clear h
        go_wp2
        go_roundw
        case rel => exact ⟨j + 1,false,by go_num,rfl,by omega,las_mk (by omega) HL7.out HOK7.out HS7.out (by omega) hal0 (fun L hL => by have := HLS.out L hL; omega),HB7.out⟩
        case measure => simp [intOf]; omega
       ·have HS7 : Hid (LSt blk seed bits (c + 1) d' all false) := .inr ⟨rfl,h⟩
        clear h
        go_wp2
        go_roundw
        case rel => exact ⟨j + 1,false,by go_num,rfl,by omega,las_mk (by omega) HL7.out HOK7.out HS7.out (by omega) hal0 (fun L hL => by have := HLS.out L hL; omega),HB7.out⟩
        case measure => simp [intOf]; omega
   by_cases k2 : kd = 2
   ·as_aux_lemma =>
     subst k2
     obtain ⟨L,hL⟩ : ∃ L,all[all.length - 1]? = some L := ⟨_,List.getElem?_eq_getElem (by omega)⟩
     have HL : Hid (all[all.length - 1]? = some L) := hL
     clear hL
     go_wp2_with fail
     refine (la_flush_any E _ G bx blk seed bits c d u6 all u L _ HLA.out HOK.out HST.out (by omega) HL.out).mono ?_
     rintro e w4 ⟨r,G',d',rfl,hb4,hl4,hok4,hcase⟩
     have HB4 : Hid (Below w.heap.size w w4) := HBo.out.trans hb4
     have HL4 : Hid (LaAt E w.heap.size G' bx d' u6 all w4) := hl4
     have HOK4 : Hid (DkOk d') := hok4
     clear hb4 hl4 hok4
     rcases hcase with ⟨rfl,rfl,h⟩ | ⟨rfl,rfl,h⟩ | ⟨rfl,rfl,h⟩
     ·have HS4 : Hid (LSt blk seed bits c d' [L] true) := .inl ⟨rfl,h⟩
      clear h
      obtain ⟨ga,offa,capa,hva,hcl,hcm,hlt5⟩ := HL4.out.tail HL.out
      obtain ⟨m,hm⟩ : ∃ m,all.length = m + 1 := ⟨all.length - 1,by omega⟩
      rw [hm,Nat.add_sub_cancel] at hlt5
      rw [hm] at hva hcl
      have HL5 : Hid (LaAt E w.heap.size G' bx d' (.slice (some ⟨ga,offa + m,none⟩) 1 (capa - m)) [L] w4) := hlt5
      have HLL : Hid (L.length <= 60 + j) := HLS.out L (List.mem_of_getElem? HL.out)
      subst hva
      have hmc : m <= capa := by omega
      have hcm2 : capa <= 9223372036854775807 := by unfold maxLen at hcm; omega
      clear hlt5 hm hcm hal hal0
      go_wp2
      go_roundw
      case rel => exact ⟨j + 1,true,by go_num,rfl,by omega,las_mk (by omega) HL5.out HOK4.out HS4.out (by simp) (by simp) (fun L' hL' => by have := HLL.out; rw [List.mem_singleton.1 hL']; omega),HB4.out⟩
      case measure => simp [intOf]; omega
     ·have HS4 : Hid (LSt blk seed bits c d' all false) := .inr ⟨rfl,h⟩
      clear h
      go_wp2
      go_roundw
      case rel => exact ⟨j + 1,false,by go_num,rfl,by omega,las_mk (by omega) HL4.out HOK4.out HS4.out (by omega) hal0 (fun L hL => by have := HLS.out L hL; omega),HB4.out⟩
      case measure => simp [intOf]; omega
     ·have HS4 : Hid (LSt blk seed bits c d' all false) := .inr ⟨rfl,h⟩
      clear h
      go_wp2
      go_roundw
      case rel => exact ⟨j + 1,false,by go_num,rfl,by omega,las_mk (by omega) HL4.out HOK4.out HS4.out (by omega) hal0 (fun L hL => by have := HLS.out L hL; omega),HB4.out⟩
      case measure => simp [intOf]; omega
   by_cases k3 : kd = 3
   ·as_aux_lemma =>
     subst k3
     go_wp2_with fail
     refine (la_build_any E _ G bx blk seed bits c d u6 all u _ HLA.out HOK.out HST.out (by omega)).mono ?_
     rintro e w4 ⟨r,G',d',rfl,hb4,hl4,hok4,hcase⟩
     have HB4 : Hid (Below w.heap.size w w4) := HBo.out.trans hb4
     have HL4 : Hid (LaAt E w.heap.size G' bx d' u6 all w4) := hl4
     have HOK4 : Hid (DkOk d') := hok4
     clear hb4 hl4 hok4
     rcases hcase with ⟨rfl,rfl,h⟩ | ⟨rfl,rfl,h⟩ | ⟨rfl,rfl,h⟩
     ·have HS4 : Hid (LSt blk seed bits c d' all true) := .inl ⟨rfl,h⟩
      clear h
      go_wp2
      go_roundw
      case rel => exact ⟨j + 1,true,by go_num,rfl,by omega,las_mk (by omega) HL4.out HOK4.out HS4.out (by omega) hal0 (fun L hL => by have := HLS.out L hL; omega),HB4.out⟩
      case measure => simp [intOf]; omega
     ·have HS4 : Hid (LSt blk seed bits c d' all false) := .inr ⟨rfl,h⟩
      clear h
      go_wp2
      go_roundw
      case rel => exact ⟨j + 1,false,by go_num,rfl,by omega,las_mk (by omega) HL4.out HOK4.out HS4.out (by omega) hal0 (fun L hL => by have := HLS.out L hL; omega),HB4.out⟩
      case measure => simp [intOf]; omega
     ·have HS4 : Hid (LSt blk seed bits c d' all false) := .inr ⟨rfl,h⟩
      clear h
      go_wp2
      go_roundw
      case rel => exact ⟨j + 1,false,by go_num,rfl,by omega,las_mk (by omega) HL4.out HOK4.out HS4.out (by omega) hal0 (fun L hL => by have := HLS.out L hL; omega),HB4.out⟩
      case measure => simp [intOf]; omega
   by_cases k4 : kd = 4
   ·as_aux_lemma =>
     subst k4
     have hpa := pickK_range (c := oa) (n := 6) (by omega)
     have hpb := pickK_range (c := ob) (n := 120) (by omega)
     obtain ⟨s,hs⟩ : ∃ s : Nat,pickK oa 6 = (s : Int) := ⟨(pickK oa 6).toNat,by omega⟩
     obtain ⟨k,hk⟩ : ∃ k : Nat,pickK ob 120 = (k : Int) := ⟨(pickK ob 120).toNat,by omega⟩
     have HPA : Hid (∀ wx : World,Calls Tryz.prog 16 #[.int .i64 oa,.int .i64 6] wx fun e w' => e = .returned (.int .i64 (s : Int)) /\ w' = wx) := fun wx => by
      have := kpick_any oa 6 wx (by omega) HRA.out.1 (by omega)
      rw [hs] at this
      exact this
     have HPB : Hid (∀ wx : World,Calls Tryz.prog 16 #[.int .i64 ob,.int .i64 120] wx fun e w' => e = .returned (.int .i64 (k : Int)) /\ w' = wx) := fun wx => by
      have := kpick_any ob 120 wx (by omega) HRA.out.2 (by omega)
      rw [hk] at this
      exact this
     have hs6 : s <= 1000 := by omega
     have hk6 : k <= 1000 := by omega
     have HOC : Hid (∀ w' : World,Chg G (wr.alloc (.cells #[.int .i64 4,.int .i64 oa,.int .i64 ob] 48)) w' -> w'.cell? ⟨wr.heap.size,1,none⟩ = some (.int .i64 oa) /\ w'.cell? ⟨wr.heap.size,2,none⟩ = some (.int .i64 ob)) := fun w' hc => by
      have hbx : Bx (wr.alloc (.cells #[.int .i64 4,.int .i64 oa,.int .i64 ob] 48)) wr.heap.size #[.int .i64 4,.int .i64 oa,.int .i64 ob] 48 := bx_new wr _ _ rfl
      have := hbx.chg hc (fun hk => absurd (HGS.out _ hk) (by omega))
      exact ⟨this.cell (j := 1) rfl,this.cell (j := 2) rfl⟩
     have HS0 := HOC.out _ (Chg.refl _ _)
     have HS1 : Hid ((wr.alloc (.cells #[.int .i64 4,.int .i64 oa,.int .i64 ob] 48)).cell? ⟨wr.heap.size,1,none⟩ = some (.int .i64 oa) /\ (wr.alloc (.cells #[.int .i64 4,.int .i64 oa,.int .i64 ob] 48)).cell? ⟨wr.heap.size,2,none⟩ = some (.int .i64 ob)) := HS0
     clear hpa hpb hs hk HS0
     go_wp2_with fail
     go_region_held3 (fun w' => w'.cell? ⟨wr.heap.size,1,none⟩ = some (.int .i64 oa) /\ w'.cell? ⟨wr.heap.size,2,none⟩ = some (.int .i64 ob)) (first | (exact HS1.out) | (assumption)) (first | (go_at_call_of 16 (Value.int .i64 oa); refine (HPA.out _).mono ?_; rintro e wq ⟨rfl,rfl⟩) | (go_at_call_of 16 (Value.int .i64 ob); refine (HPB.out _).mono ?_; rintro e wq ⟨rfl,rfl⟩) | (go_at_call 28; refine (la_fail_any E w.heap.size G bx blk seed bits c d u6 all u s k _ (HLA.out.below (Below.refl _ _).drew) HOK.out HST.out hs6 hk6).mono ?_; rintro e w4 ⟨r,G',d',rfl,hb4,hl4,hok4,hch4,hcase⟩; have hch5 : Chg G (wr.alloc (.cells #[.int .i64 4,.int .i64 oa,.int .i64 ob] 48)) w4 := ⟨hch4.os,hch4.tape,hch4.output,hch4.size,hch4.keep⟩; have hS4 := HOC.out w4 hch5; have hb5 : Below w.heap.size (wr.alloc (.cells #[.int .i64 4,.int .i64 oa,.int .i64 ob] 48)) w4 := ⟨hb4.os,hb4.tape,hb4.output,hb4.size,hb4.block⟩; have HB4 : Hid (Below w.heap.size w w4) := HBo.out.trans hb5; have HL4 : Hid (LaAt E w.heap.size G' bx d' u6 all w4) := hl4; have HOK4 : Hid (DkOk d') := hok4; have HC4 : Hid _ := hcase; clear hb4 hb5 hl4 hok4 hch4 hch5 hcase))
     all_goals
      obtain ⟨hS41,hS42⟩ := hS4
      rcases HC4.out with ⟨rfl,rfl,rfl,h⟩ | ⟨rfl,rfl,hs0,h⟩ | ⟨rfl,rfl,h⟩
      ·have HS4 : Hid (LSt blk seed bits c d' all false) := .inr ⟨rfl,h⟩
       clear h HC4
       go_wp2_with (first | (go_at_call 16; refine (HPA.out _).mono ?_; rintro e wq ⟨rfl,rfl⟩))
       go_roundw
       case rel => exact ⟨j + 1,false,by go_num,rfl,by omega,las_mk (by omega) HL4.out HOK4.out HS4.out (by omega) hal0 (fun L hL => by have := HLS.out L hL; omega),HB4.out⟩
       case measure => simp [intOf]; omega
      ·have HS4 : Hid (LSt blk seed bits c d' all true) := .inl ⟨rfl,h⟩
       have hs1 : ¬ (s : Int) = 0 := by omega
       clear h HC4 hs0
       go_wp2_with (first | (go_at_call 16; refine (HPA.out _).mono ?_; rintro e wq ⟨rfl,rfl⟩))
       go_roundw
       case rel => exact ⟨j + 1,true,by go_num,rfl,by omega,las_mk (by omega) HL4.out HOK4.out HS4.out (by omega) hal0 (fun L hL => by have := HLS.out L hL; omega),HB4.out⟩
       case measure => simp [intOf]; omega
      ·have HS4 : Hid (LSt blk seed bits c d' all false) := .inr ⟨rfl,h⟩
       clear h HC4
       go_wp2
       go_roundw
       case rel => exact ⟨j + 1,false,by go_num,rfl,by omega,las_mk (by omega) HL4.out HOK4.out HS4.out (by omega) hal0 (fun L hL => by have := HLS.out L hL; omega),HB4.out⟩
       case measure => simp [intOf]; omega
   by_cases k5 : kd = 5
   ·as_aux_lemma =>
     subst k5
     have HSA : Hid (Calls Tryz.prog 29 #[.pointer (some ⟨bx,0,none⟩)] (wr.alloc (.cells #[.int .i64 5,.int .i64 oa,.int .i64 ob] 48)) fun e w' => ∃ (r : Int) (G' : Nat -> Prop),e = .returned (.int .i64 r) /\ Below w.heap.size (wr.alloc (.cells #[.int .i64 5,.int .i64 oa,.int .i64 ob] 48)) w' /\ LaAt E w.heap.size G' bx d.start.2 u6 all w') := by
      obtain ⟨q,hq⟩ := HLA.out.st
      refine (sstart_any E w.heap.size G bx d q _ HLA.out.env HLA.out.gs hq).mono ?_
      rintro e w' ⟨rfl,hd⟩
      obtain ⟨k1,k2⟩ := HLA.out.store hd
      exact ⟨_,_,rfl,k2,k1⟩
     have HOK2 : Hid (DkOk d.start.2) := HOK.out.start
     go_wp2_with fail
     refine HSA.out.mono ?_
     rintro e w4 ⟨r,G4,rfl,hb4,hl4⟩
     have HB4 : Hid (Below w.heap.size w w4) := HBo.out.trans hb4
     clear hb4
     rcases HST.out with ⟨rfl,hu⟩ | ⟨rfl,hu⟩
     ·have hd0 : d.start.2 = d := by
       unfold Dk.start
       rw [if_neg (by rw [hu.down]; simp)]
      rw [hd0] at hl4
      have HL4 : Hid (LaAt E w.heap.size G4 bx d u6 all w4) := hl4
      have HS4 : Hid (LSt blk seed bits c d all true) := .inl ⟨rfl,hu⟩
      clear hl4 hu hd0
      go_wp2
      go_roundw
      case rel => exact ⟨j + 1,true,by go_num,rfl,by omega,las_mk (by omega) HL4.out HOK.out HS4.out (by omega) hal0 (fun L hL => by have := HLS.out L hL; omega),HB4.out⟩
      case measure => simp [intOf]; omega
     ·obtain ⟨bs,f1,f2,d',hm,hM⟩ := l_mended hu
      have HME : Hid (Calls Tryz.prog 30 #[.pointer (some ⟨bx,0,none⟩),u6] w4 fun e w' => e = .returned (.bool true) /\ (∃ G',LaAt E w.heap.size G' bx d' u6 all w') /\ DkOk d' /\ Below w.heap.size w4 w') := kmends_any E w.heap.size G4 bx blk seed bits c d.start.2 d' u6 all bs f1 f2 w4 hl4 HOK2.out hm hM (by omega) (by omega)
      have HTO : Hid (∀ (G1 : Nat -> Prop) (w1 : World),LaAt E w.heap.size G1 bx d' u6 all w1 -> DkOk d' -> Calls Tryz.prog 31 #[.pointer (some ⟨bx,0,none⟩)] w1 fun e w' => ∃ bh L v,e = .returned (.pointer (some ⟨bh,0,none⟩)) /\ HeldAt w' w1.heap.size bh L v /\ w1.heap.size <= bh /\ L.map kv = (heldS bs.flatten).map kv /\ L.length <= 60 /\ Below w1.heap.size w1 w') := fun G1 w1 hl hk => by
       have he := hM.eq
       subst he
       exact ktold_any E _ G1 bx blk seed bits bs _ f1 f2 none c w1 hl.env hl.st hk hM.ok (by omega) hM.idx hM.keys
      have HUP : Hid (∀ L : List Sd,L.map kv = (heldS bs.flatten).map kv -> LSt blk seed bits c d' [L] true) := fun L hL => .inl ⟨rfl,hM.up hL⟩
      clear hl4 hu hm hM
      generalize (heldS bs.flatten).map kv = HH at *
      go_wp2_with fail
      refine HME.out.mono ?_
      rintro e w5 ⟨rfl,⟨G5,hl5⟩,hok5,hb5⟩
      have HB5 : Hid (Below w.heap.size w w5) := HB4.out.trans hb5
      have HL5 : Hid (LaAt E w.heap.size G5 bx d' u6 all w5) := hl5
      have HOK5 : Hid (DkOk d') := hok5
      clear hb5 hl5 hok5
      go_wp2_with fail
      refine (HTO.out G5 w5 HL5.out HOK5.out).mono ?_
      rintro e w6 ⟨bh,L,v,rfl,hh6,hge6,hkv6,hln6,hb6⟩
      have HL6 := HL5.out.below hb6
      have HO6 : Hid (OneAt w6 w.heap.size G5 bh L) := ⟨⟨v,⟨hh6.box,own_lower hh6.row HL5.out.env.le⟩,fun g hg hk => absurd (HL5.out.gs g hk).2 (by have := own_ge hh6.row g hg; omega)⟩,Nat.le_trans HL5.out.env.le hge6,fun hk => absurd (HL5.out.gs bh hk).2 (by omega),by omega⟩
      have HL7 : Hid (LaAt E w.heap.size G5 bx d' (.slice (some ⟨w6.heap.size,0,none⟩) 1 1) [L] (w6.alloc (.cells #[ptrH bh] 31))) := LaAt.one HL6.env HL6.gs HL6.st HO6.out
      have HB7 : Hid (Below w.heap.size w (w6.alloc (.cells #[ptrH bh] 31))) := (HB5.out.trans (hb6.mono HB5.out.size)).alloc HL6.env.le _
      have HS7 : Hid (LSt blk seed bits c d' [L] true) := HUP.out L hkv6
      have HLN : Hid (L.length <= 60) := hln6
      clear hh6 hge6 hkv6 hln6 hb6 HL6
      go_wp2
      go_roundw
      case rel => exact ⟨j + 1,true,by go_num,rfl,by omega,las_mk (by omega) HL7.out HOK5.out HS7.out (by simp) (by simp) (fun L' hL' => by have := HLN.out; rw [List.mem_singleton.1 hL']; omega),HB7.out⟩
      case measure => simp [intOf]; omega
   ·as_aux_lemma =>
     have HS4 : Hid (LSt blk seed bits c d all u) := HST.out
     cases u with
     | true =>
      go_wp2
      go_roundw
      case rel => exact ⟨j + 1,true,by go_num,rfl,by omega,las_mk (by omega) HLA.out HOK.out HS4.out (by omega) hal0 (fun L hL => by have := HLS.out L hL; omega),HBo.out⟩
      case measure => simp [intOf]; omega
     | false =>
      go_wp2
      go_roundw
      case rel => exact ⟨j + 1,false,by go_num,rfl,by omega,las_mk (by omega) HLA.out HOK.out HS4.out (by omega) hal0 (fun L hL => by have := HLS.out L hL; omega),HBo.out⟩
      case measure => simp [intOf]; omega
  ·have hz : ¬ (j : Int) < (l.length : Int) \/ ((j : Int) < (l.length : Int) /\ ¬ (j : Int) < 150) := by omega
   have HBr : Hid (Below w.heap.size w wr) := hb
   clear hs hb hlt
   rcases hz with hz1 | ⟨hz1,hz2⟩
   all_goals
    go_wp2
    go_ret
    exact ⟨rfl,HBr.out⟩
end Go.Proofs.YtdhgebdbiehchaaGreatDoor
