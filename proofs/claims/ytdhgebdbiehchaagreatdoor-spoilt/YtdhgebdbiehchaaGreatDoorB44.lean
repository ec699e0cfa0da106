/- On the way: StopW, StopW2, PLive, PAll, RfAll, KpHeld, KpAt, KpEntry, KpEntry2. -/
import Derived.Test.YtdhgebdbiehchaaGreatDoorB42
import Derived.Conc.LoneCalls
import Derived.Conc.LoneSelect
import Derived.Defers
import Derived.Laws.LoneSync
import Derived.RegionCalls
import Derived.Test.YtdhgebdbiehchaaGreatDoorB07
import Derived.Test.YtdhgebdbiehchaaGreatDoorB10
import Derived.Test.YtdhgebdbiehchaaGreatDoorB38
import Derived.Test.YtdhgebdbiehchaaGreatDoorB43
import Derived.Test.YtdhgebdbiehchaaGreatDoorB34
namespace Go.Proofs.YtdhgebdbiehchaaGreatDoor
open Go.RowKit Go.Maps Go.Conc
set_option linter.unusedSimpArgs false
set_option linter.unusedVariables false
def StopAt (w : World) (b c : Nat) (called : Bool) : Prop := ∃ (dn sm : Int) (s r : Nat),Bx w b #[.int .u32 dn,.int .i32 0,.int .u32 sm,.chan (some c)] 238 /\ w.heap[c]? = some (.chan 0 #[] called s r false) /\ (called = false -> dn = 0) /\ (called = true -> dn = 1)

end Go.Proofs.YtdhgebdbiehchaaGreatDoor
namespace Go.Proofs.YtdhgebdbiehchaaGreatDoor
open Go.RowKit Go.Maps
set_option linter.unusedSimpArgs false
set_option linter.unusedVariables false
set_option maxRecDepth 100000
set_option maxHeartbeats 1600000
def StopIs (w : World) (sp : Value) (called : Bool) : Prop := (sp = .pointer none /\ called = false) \/ ∃ b c,sp = .pointer (some ⟨b,0,none⟩) /\ StopAt w b c called
theorem StopIs.below {w w' : World} {sp : Value} {called : Bool} (h : StopIs w sp called) (hb : Below w.heap.size w w') : StopIs w' sp called := by
 rcases h with h | ⟨b,c,h1,dn,sm,s,r,h2,h3,h4,h5⟩
 ·exact .inl h
 ·exact .inr ⟨b,c,h1,dn,sm,s,r,h2.below hb h2.lt,(hb.block c (Array.getElem?_eq_some_iff.1 h3).1).trans h3,h4,h5⟩
def cellsI (l : List Sd) : List Value := l.flatMap fun x => [.string (S x.key),.string (S x.val)]
theorem cellsI_snoc (l : List Sd) (x : Sd) : cellsI (l ++ [x]) = cellsI l ++ [.string (S x.key),.string (S x.val)] := by simp [cellsI]
theorem info_item : (Tryz.prog.info? 54).map (fun i => (i.zero,i.size,i.bytes)) = some (some (.agg #[.string ⟨#[]⟩,.string ⟨#[]⟩]),2,32) := by kernel_rfl
theorem cells_two_new (w : World) (t : TypeId) (a b : Value) : ∀ j u,[a,b][j]? = some u -> (w.alloc (.cells #[a,b] t)).cell? ((⟨w.heap.size,0,none⟩ : Addr).add j) = some u := by
 intro j u hu
 match j,hu with
 | 0,hu => cases hu; exact World.cell?_alloc_new w #[a,b] t 0
 | 1,hu => cases hu; exact World.cell?_alloc_new w #[a,b] t 1
 | j + 2,hu => simp at hu

theorem app_item {W : World} {base : Nat} {v : Value} {l : List Sd} {x : Sd} {g0 : Nat} (h1 : W.ownsRow base 54 2 v l.length (cellsI l)) (hg : ∀ j u,[Value.string (S x.key),.string (S x.val)][j]? = some u -> W.cell? ((⟨g0,0,none⟩ : Addr).add j) = some u) (hl : l.length <= 1000000) (hbase : base <= W.heap.size) :
  ∃ g cap w',(Builtin.append_ #[32,32] 32 #[v,.slice (some ⟨g0,0,none⟩) 1 1]).run Tryz.prog W = .ok (.slice (some ⟨g,0,none⟩) (l.length + 1) cap) w' /\
   w'.ownsRow base 54 2 (.slice (some ⟨g,0,none⟩) (l.length + 1) cap) (l.length + 1) (cellsI (l ++ [x])) /\ W.grownBy w' v.ownBlock := by
 obtain ⟨i0,hi,hz0,hz1,hz2⟩ := info_parts info_item
 obtain ⟨g,cap,w',a1,a2,a3,a4,a5⟩ := run_append_lies (P := Tryz.prog) W 32 32 base 54 i0 (.agg #[.string ⟨#[]⟩,.string ⟨#[]⟩]) 2 32 Tryz.underlying32 hi hz0 hz1 hz2 rfl (by decide) v l.length (cellsI l) h1 ⟨g0,0,none⟩ 1 1 [.string (S x.key),.string (S x.val)] rfl hg (by simp [Value.oneCell']) (by omega) (by unfold maxLen; omega) (by omega) hbase _ rfl
 rw [<- cellsI_snoc] at a2
 exact ⟨g,cap,w',a1,a2,a3⟩
def butK (k : List UInt8) (L : List Sd) : List Sd := L.filter fun x => decide (x.key ≠ k)
theorem butK_snoc (k : List UInt8) (M : List Sd) (x : Sd) : butK k (M ++ [x]) = if x.key = k then butK k M else butK k M ++ [x] := by
 unfold butK
 rw [List.filter_append]
 by_cases h : x.key = k <;> simp [h]
structure HeldAt (w : World) (base bh : Nat) (L : List Sd) (v : Value) : Prop where
 box : Bx w bh #[v] 34
 row : w.ownsRow base 54 2 v L.length (cellsI L)
theorem item_at {w : World} {g : Nat} {L : List Sd} (hgc : ∀ j,j < L.length * 2 -> w.cell? ⟨g,j,none⟩ = (cellsI L)[j]?) {i : Nat} (hi : i < L.length) :
  w.cell? ⟨g,i * 2,none⟩ = some (.string (S L[i].key)) /\ w.cell? ⟨g,i * 2 + 1,none⟩ = some (.string (S L[i].val)) := by
 have e : ∀ (l : List Sd) (i : Nat) (h : i < l.length),(cellsI l)[i * 2]? = some (.string (S l[i].key)) /\ (cellsI l)[i * 2 + 1]? = some (.string (S l[i].val)) := by
  intro l
  induction l with
  | nil => intro i h; simp at h
  | cons x l ih =>
   intro i h
   cases i with
   | zero => exact ⟨rfl,rfl⟩
   | succ i =>
    have := ih i (by simpa using h)
    rw [show (i + 1) * 2 = i * 2 + 1 + 1 by omega]
    exact this
 obtain ⟨h1,h2⟩ := e L i hi
 exact ⟨(hgc _ (by omega)).trans h1,(hgc _ (by omega)).trans h2⟩
theorem ktakes_any (base bh : Nat) (v : Value) (L : List Sd) (k : List UInt8) (w : World) (hh : HeldAt w base bh L v) (hv : v.ownBlock ≠ some bh) (hL : L.length <= 1000) (hk : k.length <= 100) :
  Calls Tryz.prog 23 #[.pointer (some ⟨bh,0,none⟩),.string (S k)] w fun e w' => e = .returned (.tuple #[]) /\ (∃ v',HeldAt w' w.heap.size bh (butK k L) v') /\ Chg (fun j => j = bh) w w' := by
 obtain ⟨hbox,hrow⟩ := hh
 have c0 : w.cell? ⟨bh,0,none⟩ = some v := hbox.cell (j := 0) rfl
 have hbl := hbox.lt
 have f0 := hbox.frozen 0
 obtain ⟨av,acp,hve⟩ := own_len hrow
 subst hve
 have HBX : Hid (∀ w1 : World,Below w.heap.size w w1 -> Bx w1 bh #[.slice av L.length acp] 34) := fun w1 hb => hbox.below hb hbl
 have HRW : Hid (w.ownsRow base 54 2 (.slice av L.length acp) L.length (cellsI L)) := hrow
 clear hbox hrow
 go_enter Tryz.func23,Tryz.ntmps23
 go_wp2
 go_loopw [4,5] (fun u i wr => ∃ j : Nat,j <= L.length /\ i = .int .i64 j /\ wr.ownsRow w.heap.size 54 2 u (butK k (L.take j)).length (cellsI (butK k (L.take j))) /\ Below w.heap.size w wr) (fun _ i _ => L.length - (intOf i).toNat)
 case atStart => exact ⟨0,by omega,rfl,World.ownsRow_nil _ _ _ _,Below.refl _ _⟩
 case round =>
  obtain ⟨j,hj,rfl,ho,hb⟩ := hrel
  have HB : Hid (Below w.heap.size w wr) := hb
  have hbz := hb.size
  have c0r : wr.cell? ⟨bh,0,none⟩ = some (.slice av L.length acp) := (HBX.out wr hb).cell (j := 0) rfl
  clear c0
  by_cases hlt : j < L.length
  ·obtain ⟨g,cap',hv2,_,hgl,hgc⟩ := own_cellsN HRW.out (by omega)
   have ea : av = some ⟨g,0,none⟩ := by injection hv2
   subst ea
   obtain ⟨b0,b1⟩ := item_at hgc hlt
   have g0 := (hb.cell (p := ⟨g,j * 2,none⟩) hgl).trans b0
   have g1 := (hb.cell (p := ⟨g,j * 2 + 1,none⟩) hgl).trans b1
   by_cases hke : L[j].key = k
   ·have hcmp : ((S L[j].key).toList == (S k).toList) = true := by rw [hke]; simp
    have HN : Hid (butK k (L.take (j + 1)) = butK k (L.take j)) := by
     show _ = _
     rw [List.take_succ_eq_append_getElem hlt,butK_snoc,if_pos hke]
    have HO : Hid (wr.ownsRow w.heap.size 54 2 u4 (butK k (L.take j)).length (cellsI (butK k (L.take j)))) := ho
    clear b0 b1 hgc hv2 ho hb
    generalize L[j] = x at *
    go_wp2
    go_roundw
    case rel => exact ⟨j + 1,by omega,by go_num,by rw [HN.out]; exact HO.out,HB.out⟩
    case measure => simp [intOf]; omega
   ·have hcmp : ((S L[j].key).toList == (S k).toList) = false := by
     rw [ByteArray.toList_eq,ByteArray.toList_eq,S_data,S_data,beq_eq_false_iff_ne]; exact hke
    have HN : Hid (butK k (L.take (j + 1)) = butK k (L.take j) ++ [L[j]]) := by
     show _ = _
     rw [List.take_succ_eq_append_getElem hlt,butK_snoc,if_neg hke]
    have hml : (butK k (L.take j)).length <= j := by unfold butK; exact Nat.le_trans (List.length_filter_le _ _) (by simp; omega)
    generalize butK k (L.take j) = M at *
    have ho' : (wr.alloc (.cells #[.string (S L[j].key),.string (S L[j].val)] 54)).ownsRow w.heap.size 54 2 u4 M.length (cellsI M) := ho.alloc _
    obtain ⟨g',cp',X,hrun,hown,hgrow⟩ := app_item (x := L[j]) (g0 := wr.heap.size) ho' (fun j u hu => cells_two_new wr _ _ _ j u hu) (by omega) (by simp; omega)
    have HOWN : Hid (X.ownsRow w.heap.size 54 2 (.slice (some ⟨g',0,none⟩) (M.length + 1) cp') (M.length + 1) (cellsI (M ++ [L[j]]))) := hown
    have HX : Hid (Below w.heap.size w X) := (hb.alloc hbz _).grown hgrow (by simp; omega) (own_ge ho)
    have HRUN : Hid _ := hrun
    obtain ⟨a4,c4x,hu4⟩ := own_len ho
    subst hu4
    clear b0 b1 hgc hv2 ho ho' hrun hown hgrow hb
    generalize L[j] = x at *
    go_wp2_with (first | (at_builtin; refine wp_append_run rfl (.tmp 25) (.tmp 33) 32 32 rfl rfl rfl HRUN.out ?_))
    go_roundw
    case rel => exact ⟨j + 1,by omega,by go_num,by rw [HN.out,List.length_append]; exact HOWN.out,HX.out⟩
    case measure => simp [intOf]; omega
  ·have e : j = L.length := by omega
   subst e
   rw [List.take_length] at ho
   have HO : Hid (wr.ownsRow w.heap.size 54 2 u4 (butK k L).length (cellsI (butK k L))) := ho
   have fr : wr.frozen? ⟨bh,0,none⟩ = false := (HBX.out wr hb).frozen 0
   have HN : Hid (Bx (wr.setCell ⟨bh,0,none⟩ u4) bh #[u4] 34) := (HBX.out wr hb).setj 0 u4
   obtain ⟨a4,c4x,hu4⟩ := own_len ho
   subst hu4
   clear ho hb
   go_wp2
   refine bodyPost_end (v := .tuple #[]) ?_ rfl ⟨rfl,⟨_,HN.out,?_⟩,?_⟩
   ·simp [results,Tryz.results23,go_sem]
   ·refine own_chg HO.out (chg_one (F := fun j => j = bh) (grown_setB _ _ _ _) rfl) (fun g e h => ?_)
    have := own_ge HO.out g e
    omega
   ·exact (Chg.of_below HB.out).set bh 0 _ (.inl rfl)
structure KAt (E : Sent) (n : Nat) (G : Nat -> Prop) (bx bh : Nat) (d : Dk) (L : List Sd) (w : World) : Prop where
 env : Env0 n w E
 gs : ∀ k,G k -> n <= k /\ k < w.heap.size
 st : ∃ q,StoreAt w G bx d q
 held : ∃ v,HeldAt w n bh L v /\ v.ownBlock ≠ some bh /\ ∀ g,v.ownBlock = some g -> ¬ G g
 nb : n <= bh
 gb : ¬ G bh
theorem HeldAt.chg {w w' : World} {base bh : Nat} {L : List Sd} {v : Value} {F : Nat -> Prop} (h : HeldAt w base bh L v) (hc : Chg F w w') (hb : ¬ F bh) (hv : ∀ g,v.ownBlock = some g -> ¬ F g) : HeldAt w' base bh L v :=
 ⟨h.box.chg hc hb,own_chg h.row hc hv⟩
theorem KAt.below {E : Sent} {n : Nat} {G : Nat -> Prop} {bx bh : Nat} {d : Dk} {L : List Sd} {w w' : World} (h : KAt E n G bx bh d L w) (hb : Below w.heap.size w w') : KAt E n G bx bh d L w' := by
 obtain ⟨q,hq⟩ := h.st
 obtain ⟨v,h1,h2,h3⟩ := h.held
 exact ⟨h.env.below (hb.mono h.env.le),fun k hk => ⟨(h.gs k hk).1,Nat.lt_of_lt_of_le (h.gs k hk).2 hb.size⟩,⟨q,hq.below hb⟩,⟨v,h1.chg (Chg.of_below (F := fun _ => False) hb) (fun h => h) (fun _ _ h => h),h2,h3⟩,h.nb,h.gb⟩
theorem KAt.store {E : Sent} {n : Nat} {G : Nat -> Prop} {bx bh : Nat} {d d' : Dk} {L : List Sd} {w w' : World} (h : KAt E n G bx bh d L w) (hd : Done E G bx w d' w') : KAt E n (Fx G w w') bx bh d' L w' /\ Below n w w' := by
 obtain ⟨⟨q,hq⟩,hc⟩ := hd
 obtain ⟨v,h1,h2,h3⟩ := h.held
 have hb : Below n w w' := hc.below h.env.le (fun k hk => (h.gs k hk).1)
 refine ⟨⟨h.env.below hb,?_,⟨q,hq⟩,⟨v,h1.chg hc h.gb h3,h2,?_⟩,h.nb,?_⟩,hb⟩
 ·rintro k (hk | hk)
  ·exact ⟨(h.gs k hk).1,Nat.lt_of_lt_of_le (h.gs k hk).2 hc.size⟩
  ·exact ⟨Nat.le_trans h.env.le hk.1,hk.2⟩
 ·rintro g hg (hk | hk)
  ·exact h3 g hg hk
  ·exact absurd (own_lt h1.row g hg) (by omega)
 ·rintro (hk | hk)
  ·exact h.gb hk
  ·exact absurd h1.box.lt (by omega)
theorem KAt.hold {E : Sent} {n : Nat} {G : Nat -> Prop} {bx bh : Nat} {d : Dk} {L L' : List Sd} {w w' : World} {v' : Value} (h : KAt E n G bx bh d L w) (hh : HeldAt w' w.heap.size bh L' v') (hc : Chg (fun j => j = bh) w w') : KAt E n G bx bh d L' w' /\ Below n w w' := by
 obtain ⟨q,hq⟩ := h.st
 obtain ⟨v,h1,h2,h3⟩ := h.held
 have hb : Below n w w' := hc.below h.env.le (fun k hk => by rw [hk]; exact h.nb)
 refine ⟨⟨h.env.below hb,fun k hk => ⟨(h.gs k hk).1,Nat.lt_of_lt_of_le (h.gs k hk).2 hc.size⟩,⟨q,hq.keep hc (fun k hk e => h.gb (by rw [<- e]; exact hk))⟩,⟨v',⟨hh.box,own_lower hh.row h.env.le⟩,?_,?_⟩,h.nb,h.gb⟩,hb⟩
 ·intro e
  have := own_ge hh.row bh e
  exact absurd h1.box.lt (by omega)
 ·intro g hg hk
  have := own_ge hh.row g hg
  exact absurd (h.gs g hk).2 (by omega)
theorem KAt.push {E : Sent} {n : Nat} {G : Nat -> Prop} {bx bh : Nat} {d : Dk} {M : List Sd} {w : World} {v : Value} (h : KAt E n G bx bh d M w) (hh : HeldAt w n bh M v) (hv : v.ownBlock ≠ some bh) (hg : ∀ g,v.ownBlock = some g -> ¬ G g) (x : Sd) (hM : M.length <= 1000) :
  ∃ g cp X,(Builtin.append_ #[32,32] 32 #[v,.slice (some ⟨w.heap.size,0,none⟩) 1 1]).run Tryz.prog (w.alloc (.cells #[.string (S x.key),.string (S x.val)] 54)) = .ok (.slice (some ⟨g,0,none⟩) (M.length + 1) cp) X /\
   X.cell? ⟨bh,0,none⟩ = some v /\ X.frozen? ⟨bh,0,none⟩ = false /\ KAt E n G bx bh d (M ++ [x]) (X.setCell ⟨bh,0,none⟩ (.slice (some ⟨g,0,none⟩) (M.length + 1) cp)) /\ Below n w (X.setCell ⟨bh,0,none⟩ (.slice (some ⟨g,0,none⟩) (M.length + 1) cp)) := by
 obtain ⟨i0,hi,hz0,hz1,hz2⟩ := info_parts info_item
 have hb0 := hh.box.lt
 have hn := h.env.le
 obtain ⟨g,cap,X,a1,a2,a3,a4,a5⟩ := run_append_lies (P := Tryz.prog) (w.alloc (.cells #[.string (S x.key),.string (S x.val)] 54)) 32 32 n 54 i0 (.agg #[.string ⟨#[]⟩,.string ⟨#[]⟩]) 2 32 Tryz.underlying32 hi hz0 hz1 hz2 rfl (by decide) v M.length (cellsI M) (hh.row.alloc _) ⟨w.heap.size,0,none⟩ 1 1 [.string (S x.key),.string (S x.val)] rfl (fun j u hu => cells_two_new w _ _ _ j u hu) (by simp [Value.oneCell']) (by omega) (by unfold maxLen; omega) (by omega) (by simp; omega) _ rfl
 rw [<- cellsI_snoc] at a2
 have hgw : (v.ownBlock = some g \/ w.heap.size <= g) := by
  rcases a4 with a4 | a4
  ·exact .inl a4
  ·right; rw [a4]; simp
 have hgb : g ≠ bh := by
  rcases hgw with e | e
  ·intro h; rw [h] at e; exact hv e
  ·omega
 have hbW : Bx (w.alloc (.cells #[.string (S x.key),.string (S x.val)] 54)) bh #[v] 34 := hh.box.alloc _
 have hcX : Chg (fun j => v.ownBlock = some j) (w.alloc (.cells #[.string (S x.key),.string (S x.val)] 54)) X := (Chg.refl _ _).grown a3 (fun k e => .inl e)
 have hbX : Bx X bh #[v] 34 := hbW.chg hcX hv
 have hC : Chg (fun j => j = bh \/ v.ownBlock = some j) w (X.setCell ⟨bh,0,none⟩ (.slice (some ⟨g,0,none⟩) (M.length + 1) cap)) :=
  (((Chg.refl _ _).alloc _).grown a3 (fun k e => .inl (.inr e))).set bh 0 _ (.inl (.inl rfl))
 have hK : ∀ k,(k = bh \/ v.ownBlock = some k) -> n <= k := by
  rintro k (hk | hk)
  ·rw [hk]; exact h.nb
  ·exact own_ge hh.row k hk
 have hB : Below n w (X.setCell ⟨bh,0,none⟩ (.slice (some ⟨g,0,none⟩) (M.length + 1) cap)) := hC.below hn hK
 obtain ⟨q,hq⟩ := h.st
 refine ⟨g,cap,X,a1,hbX.cell (j := 0) rfl,hbX.frozen 0,⟨h.env.below hB,fun k hk => ⟨(h.gs k hk).1,Nat.lt_of_lt_of_le (h.gs k hk).2 hC.size⟩,⟨q,hq.keep hC ?_⟩,⟨_,⟨hbX.setj 0 _,?_⟩,?_,?_⟩,h.nb,h.gb⟩,hB⟩
 ·rintro k hk (e | e)
  ·exact h.gb (by rw [<- e]; exact hk)
  ·exact hg k e hk
 ·rw [List.length_append]
  refine own_chg a2 (chg_one (F := fun j => j = bh) (grown_setB _ _ _ _) rfl) (fun g' e h' => ?_)
  have e' : g = g' := by simpa [Value.ownBlock] using e
  exact hgb (e'.trans h')
 ·intro e
  have e' : g = bh := by simpa [Value.ownBlock] using e
  exact hgb e'
 ·intro g' e hk
  have e' : g = g' := by simpa [Value.ownBlock] using e
  subst e'
  rcases hgw with e2 | e2
  ·exact hg g e2 hk
  ·exact absurd (h.gs g hk).2 (by omega)
def keyR (a : Int) : List UInt8 := keyK (pickK a 60).toNat
def entK (a b : Int) : Ent := if pickK b 4 = 0 then ⟨false,keyR a,[]⟩ else ⟨true,keyR a,valueK (b.tdiv 4)⟩
theorem keyR_len (a : Int) : 2 <= (keyR a).length /\ (keyR a).length <= 3 := by
 have := digitsK_len (pickK a 60).toNat
 unfold keyR keyK
 simp
 omega
theorem entK_ok (a b : Int) : EntOk (entK a b) := by
 have h1 := keyR_len a
 have h2 := valueK_len (b.tdiv 4)
 unfold entK
 split
 ·exact ⟨by show 1 <= (keyR a).length; omega,by show (keyR a).length <= 20; omega,by simp,fun _ => rfl⟩
 ·exact ⟨by show 1 <= (keyR a).length; omega,by show (keyR a).length <= 20; omega,h2,fun h => by cases h⟩
theorem tdiv_range {b : Int} (h : IntR b) : IntR (b.tdiv 4) := by
 obtain ⟨h1,h2⟩ := h
 by_cases h0 : 0 <= b
 ·rw [Int.tdiv_eq_ediv_of_nonneg h0]
  constructor <;> omega
 ·obtain ⟨c,rfl⟩ : ∃ c : Int,b = -c := ⟨-b,by omega⟩
  rw [Int.neg_tdiv,Int.tdiv_eq_ediv_of_nonneg (by omega)]
  constructor <;> omega
theorem kentry_del (E : Sent) (n : Nat) (G : Nat -> Prop) (bx bh : Nat) (d : Dk) (L : List Sd) (a b : Int) (w : World) (h : KAt E n G bx bh d L w) (hok : DkOk d) (hL : L.length <= 1000) (ha : IntR a) (hb : IntR b) (hp : pickK b 4 = 0) (hadd : (d.add ⟨false,keyR a,[]⟩).1 = 0) :
  Calls Tryz.prog 15 #[.pointer (some ⟨bx,0,none⟩),.pointer (some ⟨bh,0,none⟩),.int .i64 a,.int .i64 b] w fun e w' => e = .returned (.bool true) /\ ∃ G',KAt E n G' bx bh (d.add ⟨false,keyR a,[]⟩).2 (butK (keyR a) L) w' /\ Below n w w' := by
 have HK : Hid (∀ w1 : World,Calls Tryz.prog 22 #[.int .i64 a] w1 fun e w' => e = .returned (.string (S (keyR a))) /\ Below w1.heap.size w1 w') := fun w1 => kkey_any a w1 ha
 have HP : Hid (∀ w1 : World,Calls Tryz.prog 16 #[.int .i64 b,.int .i64 4] w1 fun e w' => e = .returned (.int .i64 0) /\ w' = w1) := fun w1 => by
  have := kpick_any b 4 w1 (by omega) hb (by omega)
  rw [hp] at this
  exact this
 have hkl := keyR_len a
 have HT : Hid (∀ w1 : World,KAt E n G bx bh d L w1 -> Calls Tryz.prog 23 #[.pointer (some ⟨bh,0,none⟩),.string (S (keyR a))] w1 fun e w' => e = .returned (.tuple #[]) /\ KAt E n G bx bh d (butK (keyR a) L) w' /\ Below n w1 w') := fun w1 hk => by
  obtain ⟨v,k1,k2,k3⟩ := hk.held
  refine (ktakes_any n bh v L (keyR a) w1 k1 k2 hL (by omega)).mono ?_
  rintro e w' ⟨rfl,⟨v',hv'⟩,hc⟩
  exact ⟨rfl,hk.hold hv' hc⟩
 have HD : Hid (∀ w1 : World,KAt E n G bx bh d (butK (keyR a) L) w1 -> Calls Tryz.prog 24 #[.pointer (some ⟨bx,0,none⟩),.string (S (keyR a))] w1 fun e w' => e = .returned (.int .i64 0) /\ (∃ G',KAt E n G' bx bh (d.add ⟨false,keyR a,[]⟩).2 (butK (keyR a) L) w') /\ Below n w1 w') := fun w1 hk => by
  obtain ⟨q,hq⟩ := hk.st
  refine (delS_any E n G bx d q (keyR a) w1 hk.env hk.gs hq hok).mono ?_
  rintro e w' ⟨rfl,hd⟩
  rw [hadd]
  obtain ⟨k1,k2⟩ := hk.store hd
  exact ⟨rfl,⟨_,k1⟩,k2⟩
 have HW : Hid (KAt E n G bx bh d L w) := h
 have HN : Hid (n <= w.heap.size) := h.env.le
 clear h hok hadd hp ha hb
 generalize (d.add ⟨false,keyR a,[]⟩).2 = d' at *
 generalize butK (keyR a) L = L' at *
 generalize keyR a = ky at *
 go_enter Tryz.func15,Tryz.ntmps15
 go_wp2_with (first | (go_at_call 22; refine (HK.out _).mono ?_; rintro e w1 ⟨rfl,hb1⟩; have HB1 : Hid (Below w.heap.size w w1) := hb1; clear hb1) | (go_at_call 23; refine (HT.out w1 (HW.out.below HB1.out)).mono ?_; rintro e w2 ⟨rfl,hk2,hb2⟩; have HK2 : Hid (KAt E n G bx bh d L' w2) := hk2; have HB2 : Hid (Below n w1 w2) := hb2; clear hk2 hb2) | (go_at_call 16; refine (HP.out _).mono ?_; rintro e w2 ⟨rfl,rfl⟩) | (go_at_call 24; refine (HD.out w2 HK2.out).mono ?_; rintro e w3 ⟨rfl,⟨G',hk3⟩,hb3⟩; have HK3 : Hid (KAt E n G' bx bh d' L' w3) := hk3; have HB3 : Hid (Below n w2 w3) := hb3; clear hk3 hb3))
 go_ret
 exact ⟨rfl,G',HK3.out,(HB1.out.mono HN.out).trans (HB2.out.trans HB3.out)⟩
theorem kentry_put (E : Sent) (n : Nat) (G : Nat -> Prop) (bx bh : Nat) (d : Dk) (L : List Sd) (a b : Int) (w : World) (h : KAt E n G bx bh d L w) (hok : DkOk d) (hL : L.length <= 1000) (ha : IntR a) (hb : IntR b) (hp : pickK b 4 ≠ 0) (hadd : (d.add ⟨true,keyR a,valueK (b.tdiv 4)⟩).1 = 0) :
  Calls Tryz.prog 15 #[.pointer (some ⟨bx,0,none⟩),.pointer (some ⟨bh,0,none⟩),.int .i64 a,.int .i64 b] w fun e w' => e = .returned (.bool true) /\ ∃ G',KAt E n G' bx bh (d.add ⟨true,keyR a,valueK (b.tdiv 4)⟩).2 (butK (keyR a) L ++ [⟨true,keyR a,valueK (b.tdiv 4),0,0⟩]) w' /\ Below n w w' := by
 have HK : Hid (∀ w1 : World,Calls Tryz.prog 22 #[.int .i64 a] w1 fun e w' => e = .returned (.string (S (keyR a))) /\ Below w1.heap.size w1 w') := fun w1 => kkey_any a w1 ha
 have HV : Hid (∀ w1 : World,Calls Tryz.prog 25 #[.int .i64 (b.tdiv 4)] w1 fun e w' => e = .returned (.string (S (valueK (b.tdiv 4)))) /\ Below w1.heap.size w1 w') := fun w1 => kvalue_any _ w1 (tdiv_range hb)
 have HP : Hid (∀ w1 : World,Calls Tryz.prog 16 #[.int .i64 b,.int .i64 4] w1 fun e w' => e = .returned (.int .i64 (pickK b 4)) /\ w' = w1) := fun w1 => kpick_any b 4 w1 (by omega) hb (by omega)
 have hwr : IntKind.i64.wrap (b.tdiv 4) = b.tdiv 4 := by
  have := tdiv_range hb
  unfold IntR at this
  rw [IntKind.wrap_i64]
  omega
 have hkl := keyR_len a
 have HT : Hid (∀ w1 : World,KAt E n G bx bh d L w1 -> Calls Tryz.prog 23 #[.pointer (some ⟨bh,0,none⟩),.string (S (keyR a))] w1 fun e w' => e = .returned (.tuple #[]) /\ KAt E n G bx bh d (butK (keyR a) L) w' /\ Below n w1 w') := fun w1 hk => by
  obtain ⟨v,k1,k2,k3⟩ := hk.held
  refine (ktakes_any n bh v L (keyR a) w1 k1 k2 hL (by omega)).mono ?_
  rintro e w' ⟨rfl,⟨v',hv'⟩,hc⟩
  exact ⟨rfl,hk.hold hv' hc⟩
 have hML : (butK (keyR a) L).length <= 1000 := by unfold butK; exact Nat.le_trans (List.length_filter_le _ _) hL
 have HD : Hid (∀ w1 : World,KAt E n G bx bh d (butK (keyR a) L ++ [⟨true,keyR a,valueK (b.tdiv 4),0,0⟩]) w1 -> Calls Tryz.prog 26 #[.pointer (some ⟨bx,0,none⟩),.string (S (keyR a)),.string (S (valueK (b.tdiv 4)))] w1 fun e w' => e = .returned (.int .i64 0) /\ (∃ G',KAt E n G' bx bh (d.add ⟨true,keyR a,valueK (b.tdiv 4)⟩).2 (butK (keyR a) L ++ [⟨true,keyR a,valueK (b.tdiv 4),0,0⟩]) w') /\ Below n w1 w') := fun w1 hk => by
  obtain ⟨q,hq⟩ := hk.st
  refine (putS_any E n G bx d q (keyR a) (valueK (b.tdiv 4)) w1 hk.env hk.gs hq hok).mono ?_
  rintro e w' ⟨rfl,hd⟩
  rw [hadd]
  obtain ⟨k1,k2⟩ := hk.store hd
  exact ⟨rfl,⟨_,k1⟩,k2⟩
 have HW : Hid (KAt E n G bx bh d L w) := h
 have HN : Hid (n <= w.heap.size) := h.env.le
 clear h hok hadd ha hb hL
 generalize (d.add ⟨true,keyR a,valueK (b.tdiv 4)⟩).2 = d' at *
 generalize butK (keyR a) L = M at *
 generalize keyR a = ky at *
 generalize valueK (b.tdiv 4) = vl at *
 generalize hq : b.tdiv 4 = b4 at *
 generalize pickK b 4 = pb at *
 go_enter Tryz.func15,Tryz.ntmps15
 go_wp2_with (first | (go_at_call 22; refine (HK.out _).mono ?_; rintro e w1 ⟨rfl,hb1⟩; have HB1 : Hid (Below w.heap.size w w1) := hb1; clear hb1) | (go_at_call 23; refine (HT.out w1 (HW.out.below HB1.out)).mono ?_; rintro e w2 ⟨rfl,hk2,hb2⟩; have HK2 : Hid (KAt E n G bx bh d M w2) := hk2; have HB2 : Hid (Below n w1 w2) := hb2; clear hk2 hb2) | (go_at_call 16; refine (HP.out _).mono ?_; rintro e w2 ⟨rfl,rfl⟩))
 obtain ⟨v,hh2,hv2,hg2⟩ := HK2.out.held
 have c2 : w2.cell? ⟨bh,0,none⟩ = some v := hh2.box.cell (j := 0) rfl
 have f2 := hh2.box.frozen 0
 have HPU : Hid (∀ w3 : World,Below w2.heap.size w2 w3 -> w3.cell? ⟨bh,0,none⟩ = some v /\ ∃ g cp X,(Builtin.append_ #[32,32] 32 #[v,.slice (some ⟨w3.heap.size,0,none⟩) 1 1]).run Tryz.prog (w3.alloc (.cells #[.string (S ky),.string (S vl)] 54)) = .ok (.slice (some ⟨g,0,none⟩) (M.length + 1) cp) X /\
   X.cell? ⟨bh,0,none⟩ = some v /\ X.frozen? ⟨bh,0,none⟩ = false /\ KAt E n G bx bh d (M ++ [⟨true,ky,vl,0,0⟩]) (X.setCell ⟨bh,0,none⟩ (.slice (some ⟨g,0,none⟩) (M.length + 1) cp)) /\ Below n w2 (X.setCell ⟨bh,0,none⟩ (.slice (some ⟨g,0,none⟩) (M.length + 1) cp))) := fun w3 hb => by
  have hk3 := HK2.out.below hb
  have hh3 : HeldAt w3 n bh M v := hh2.chg (Chg.of_below (F := fun _ => False) hb) (fun h => h) (fun _ _ h => h)
  obtain ⟨g,cp,X,a1,a2,a3,a4,a5⟩ := hk3.push hh3 hv2 hg2 ⟨true,ky,vl,0,0⟩ hML
  exact ⟨hh3.box.cell (j := 0) rfl,g,cp,X,a1,a2,a3,a4,(hb.mono HK2.out.env.le).trans a5⟩
 obtain ⟨av,acp,hve⟩ := own_len hh2.row
 subst hve
 have hbl : bh < w2.heap.size := hh2.box.lt
 clear hh2 hv2 hg2
 go_region_law (first | (refine step_append_run rfl (.tmp 29) (.tmp 35) 32 rfl (by simp [Act.eval,Act.put]) (by simp [Act.eval,Act.put]) HRUN.out ?_) | (refine step_call_run rfl 25 (.tmp 32) 3 rfl (by simp [Act.eval,Act.put]) (by rfl) (HV.out _) ?_; rintro e w3 ⟨rfl,hb3⟩; refine ⟨_,rfl,?_⟩; have hb3' : Below w2.heap.size w2 w3 := ⟨hb3.os,hb3.tape,hb3.output,hb3.size,hb3.block⟩; have hz3 : bh < w3.heap.size := Nat.lt_of_lt_of_le hbl hb3'.size; have hn1 : bh ≠ w3.heap.size := (by omega); have hn2 : w3.heap.size ≠ bh := (by omega); obtain ⟨c3,g,cp,X,hrun,cX,fX,hkX,hbX⟩ := HPU.out w3 hb3'; have HRUN : Hid _ := hrun; have HKX : Hid (KAt E n G bx bh d (M ++ [⟨true,ky,vl,0,0⟩]) (X.setCell ⟨bh,0,none⟩ (.slice (some ⟨g,0,none⟩) (M.length + 1) cp))) := hkX; have HBX : Hid (Below n w2 (X.setCell ⟨bh,0,none⟩ (.slice (some ⟨g,0,none⟩) (M.length + 1) cp))) := hbX; clear hrun hkX hbX hb3 hb3'))
 all_goals
  go_wp2_with (first | (go_at_call 25; refine (HV.out _).mono ?_; rintro e w4 ⟨rfl,hb4⟩; have hk4 := HKX.out.below hb4; have HB4 : Hid (Below n w2 w4) := HBX.out.trans (hb4.mono (HKX.out.env.le)); have HK4 : Hid (KAt E n G bx bh d (M ++ [⟨true,ky,vl,0,0⟩]) w4) := hk4; clear hk4 hb4) | (go_at_call 26; refine (HD.out w4 HK4.out).mono ?_; rintro e w5 ⟨rfl,⟨G',hk5⟩,hb5⟩; have HK5 : Hid (KAt E n G' bx bh d' (M ++ [⟨true,ky,vl,0,0⟩]) w5) := hk5; have HB5 : Hid (Below n w4 w5) := hb5; clear hk5 hb5))
  go_ret
  exact ⟨rfl,G',HK5.out,(HB1.out.mono HN.out).trans (HB2.out.trans (HB4.out.trans HB5.out))⟩
end Go.Proofs.YtdhgebdbiehchaaGreatDoor
