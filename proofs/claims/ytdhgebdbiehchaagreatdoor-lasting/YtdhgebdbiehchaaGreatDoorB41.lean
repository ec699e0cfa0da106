/- On the way: StopW, StopW2, PLive, PAll, RfAll, KpHeld, KpAt, KpEntry, KpEntry2, LaSame. -/
import Derived.Test.YtdhgebdbiehchaaGreatDoorB39
import Derived.Conc.LoneCalls
import Derived.Conc.LoneSelect
import Derived.Defers
import Derived.Laws.LoneSync
import Derived.RegionCalls
import Derived.Test.YtdhgebdbiehchaaGreatDoorB07
import Derived.Test.YtdhgebdbiehchaaGreatDoorB10
import Derived.Test.YtdhgebdbiehchaaGreatDoorB34
import Derived.Test.YtdhgebdbiehchaaGreatDoorB40
import Derived.Test.YtdhgebdbiehchaaGreatDoorB31
namespace Go.Proofs.YtdhgebdbiehchaaGreatDoor
open Go.RowKit Go.Maps Go.Conc
set_option linter.unusedSimpArgs false
set_option linter.unusedVariables false
def StopAt (w : World) (b c : Nat) (called : Bool) : Prop := ∃ (dn sm : Int) (s r : Nat),Bx w b #[.int .u32 dn,.int .i32 0,.int .u32 sm,.chan (some c)] 238 /\ w.heap[c]? = some (.chan 0 #[] called s r false) /\ (called = false -> dn = 0) /\ (called = true -> dn = 1)

end Go.Proofs.YtdhgebdbiehchaaGreatDoor
namespace Go.Proofs.YtdhgebdbiehchaaGreatDoor
open Go.RowKit Go.Maps
set_option linter.unusedSimpArgs false
set_option linter.unusedVariables false
set_option maxRecDepth 100000
set_option maxHeartbeats 1600000
def StopIs (w : World) (sp : Value) (called : Bool) : Prop := (sp = .pointer none /\ called = false) \/ ∃ b c,sp = .pointer (some ⟨b,0,none⟩) /\ StopAt w b c called
theorem StopIs.below {w w' : World} {sp : Value} {called : Bool} (h : StopIs w sp called) (hb : Below w.heap.size w w') : StopIs w' sp called := by
 rcases h with h | ⟨b,c,h1,dn,sm,s,r,h2,h3,h4,h5⟩
 ·exact .inl h
 ·exact .inr ⟨b,c,h1,dn,sm,s,r,h2.below hb h2.lt,(hb.block c (Array.getElem?_eq_some_iff.1 h3).1).trans h3,h4,h5⟩
def cellsI (l : List Sd) : List Value := l.flatMap fun x => [.string (S x.key),.string (S x.val)]
theorem cellsI_snoc (l : List Sd) (x : Sd) : cellsI (l ++ [x]) = cellsI l ++ [.string (S x.key),.string (S x.val)] := by simp [cellsI]
theorem info_item : (Tryz.prog.info? 54).map (fun i => (i.zero,i.size,i.bytes)) = some (some (.agg #[.string ⟨#[]⟩,.string ⟨#[]⟩]),2,32) := by kernel_rfl
theorem cells_two_new (w : World) (t : TypeId) (a b : Value) : ∀ j u,[a,b][j]? = some u -> (w.alloc (.cells #[a,b] t)).cell? ((⟨w.heap.size,0,none⟩ : Addr).add j) = some u := by
 intro j u hu
 match j,hu with
 | 0,hu => cases hu; exact World.cell?_alloc_new w #[a,b] t 0
 | 1,hu => cases hu; exact World.cell?_alloc_new w #[a,b] t 1
 | j + 2,hu => simp at hu

theorem app_item {W : World} {base : Nat} {v : Value} {l : List Sd} {x : Sd} {g0 : Nat} (h1 : W.ownsRow base 54 2 v l.length (cellsI l)) (hg : ∀ j u,[Value.string (S x.key),.string (S x.val)][j]? = some u -> W.cell? ((⟨g0,0,none⟩ : Addr).add j) = some u) (hl : l.length <= 1000000) (hbase : base <= W.heap.size) :
  ∃ g cap w',(Builtin.append_ #[32,32] 32 #[v,.slice (some ⟨g0,0,none⟩) 1 1]).run Tryz.prog W = .ok (.slice (some ⟨g,0,none⟩) (l.length + 1) cap) w' /\
   w'.ownsRow base 54 2 (.slice (some ⟨g,0,none⟩) (l.length + 1) cap) (l.length + 1) (cellsI (l ++ [x])) /\ W.grownBy w' v.ownBlock := by
 obtain ⟨i0,hi,hz0,hz1,hz2⟩ := info_parts info_item
 obtain ⟨g,cap,w',a1,a2,a3,a4,a5⟩ := run_append_lies (P := Tryz.prog) W 32 32 base 54 i0 (.agg #[.string ⟨#[]⟩,.string ⟨#[]⟩]) 2 32 Tryz.underlying32 hi hz0 hz1 hz2 rfl (by decide) v l.length (cellsI l) h1 ⟨g0,0,none⟩ 1 1 [.string (S x.key),.string (S x.val)] rfl hg (by simp [Value.oneCell']) (by omega) (by unfold maxLen; omega) (by omega) hbase _ rfl
 rw [<- cellsI_snoc] at a2
 exact ⟨g,cap,w',a1,a2,a3⟩
def butK (k : List UInt8) (L : List Sd) : List Sd := L.filter fun x => decide (x.key ≠ k)
theorem butK_snoc (k : List UInt8) (M : List Sd) (x : Sd) : butK k (M ++ [x]) = if x.key = k then butK k M else butK k M ++ [x] := by
 unfold butK
 rw [List.filter_append]
 by_cases h : x.key = k <;> simp [h]
structure HeldAt (w : World) (base bh : Nat) (L : List Sd) (v : Value) : Prop where
 box : Bx w bh #[v] 34
 row : w.ownsRow base 54 2 v L.length (cellsI L)
theorem item_at {w : World} {g : Nat} {L : List Sd} (hgc : ∀ j,j < L.length * 2 -> w.cell? ⟨g,j,none⟩ = (cellsI L)[j]?) {i : Nat} (hi : i < L.length) :
  w.cell? ⟨g,i * 2,none⟩ = some (.string (S L[i].key)) /\ w.cell? ⟨g,i * 2 + 1,none⟩ = some (.string (S L[i].val)) := by
 have e : ∀ (l : List Sd) (i : Nat) (h : i < l.length),(cellsI l)[i * 2]? = some (.string (S l[i].key)) /\ (cellsI l)[i * 2 + 1]? = some (.string (S l[i].val)) := by
  intro l
  induction l with
  | nil => intro i h; simp at h
  | cons x l ih =>
   intro i h
   cases i with
   | zero => exact ⟨rfl,rfl⟩
   | succ i =>
    have := ih i (by simpa using h)
    rw [show (i + 1) * 2 = i * 2 + 1 + 1 by omega]
    exact this
 obtain ⟨h1,h2⟩ := e L i hi
 exact ⟨(hgc _ (by omega)).trans h1,(hgc _ (by omega)).trans h2⟩
theorem ktakes_any (base bh : Nat) (v : Value) (L : List Sd) (k : List UInt8) (w : World) (hh : HeldAt w base bh L v) (hv : v.ownBlock ≠ some bh) (hL : L.length <= 1000) (hk : k.length <= 100) :
  Calls Tryz.prog 23 #[.pointer (some ⟨bh,0,none⟩),.string (S k)] w fun e w' => e = .returned (.tuple #[]) /\ (∃ v',HeldAt w' w.heap.size bh (butK k L) v') /\ Chg (fun j => j = bh) w w' := by
 obtain ⟨hbox,hrow⟩ := hh
 have c0 : w.cell? ⟨bh,0,none⟩ = some v := hbox.cell (j := 0) rfl
 have hbl := hbox.lt
 have f0 := hbox.frozen 0
 obtain ⟨av,acp,hve⟩ := own_len hrow
 subst hve
 have HBX : Hid (∀ w1 : World,Below w.heap.size w w1 -> Bx w1 bh #[.slice av L.length acp] 34) := fun w1 hb => hbox.below hb hbl
 have HRW : Hid (w.ownsRow base 54 2 (.slice av L.length acp) L.length (cellsI L)) := hrow
 clear hbox hrow
 go_enter Tryz.func23,Tryz.ntmps23
 go_wp2
 go_loopw [4,5] (fun u i wr => ∃ j : Nat,j <= L.length /\ i = .int .i64 j /\ wr.ownsRow w.heap.size 54 2 u (butK k (L.take j)).length (cellsI (butK k (L.take j))) /\ Below w.heap.size w wr) (fun _ i _ => L.length - (intOf i).toNat)
 case atStart => exact ⟨0,by omega,rfl,World.ownsRow_nil _ _ _ _,Below.refl _ _⟩
 case round =>
  obtain ⟨j,hj,rfl,ho,hb⟩ := hrel
  have HB : Hid (Below w.heap.size w wr) := hb
  have hbz := hb.size
  have c0r : wr.cell? ⟨bh,0,none⟩ = some (.slice av L.length acp) := (HBX.out wr hb).cell (j := 0) rfl
  clear c0
  by_cases hlt : j < L.length
  ·obtain ⟨g,cap',hv2,_,hgl,hgc⟩ := own_cellsN HRW.out (by omega)
   have ea : av = some ⟨g,0,none⟩ := by injection hv2
   subst ea
   obtain ⟨b0,b1⟩ := item_at hgc hlt
   have g0 := (hb.cell (p := ⟨g,j * 2,none⟩) hgl).trans b0
   have g1 := (hb.cell (p := ⟨g,j * 2 + 1,none⟩) hgl).trans b1
   by_cases hke : L[j].key = k
   ·have hcmp : ((S L[j].key).toList == (S k).toList) = true := by rw [hke]; simp
    have HN : Hid (butK k (L.take (j + 1)) = butK k (L.take j)) := by
     show _ = _
     rw [List.take_succ_eq_append_getElem hlt,butK_snoc,if_pos hke]
    have HO : Hid (wr.ownsRow w.heap.size 54 2 u4 (butK k (L.take j)).length (cellsI (butK k (L.take j)))) := ho
    clear b0 b1 hgc hv2 ho hb
    generalize L[j] = x at *
    go_wp2
    go_roundw
    case rel => exact ⟨j + 1,by omega,by go_num,by rw [HN.out]; exact HO.out,HB.out⟩
    case measure => simp [intOf]; omega
   ·have hcmp : ((S L[j].key).toList == (S k).toList) = false := by
     rw [ByteArray.toList_eq,ByteArray.toList_eq,S_data,S_data,beq_eq_false_iff_ne]; exact hke
    have HN : Hid (butK k (L.take (j + 1)) = butK k (L.take j) ++ [L[j]]) := by
     show _ = _
     rw [List.take_succ_eq_append_getElem hlt,butK_snoc,if_neg hke]
    have hml : (butK k (L.take j)).length <= j := by unfold butK; exact Nat.le_trans (List.length_filter_le _ _) (by simp; omega)
    generalize butK k (L.take j) = M at *
    have ho' : (wr.alloc (.cells #[.string (S L[j].key),.string (S L[j].val)] 54)).ownsRow w.heap.size 54 2 u4 M.length (cellsI M) := ho.alloc _
    obtain ⟨g',cp',X,hrun,hown,hgrow⟩ := app_item (x := L[j]) (g0 := wr.heap.size) ho' (fun j u hu => cells_two_new wr _ _ _ j u hu) (by omega) (by simp; omega)
    have HOWN : Hid (X.ownsRow w.heap.size 54 2 (.slice (some ⟨g',0,none⟩) (M.length + 1) cp') (M.length + 1) (cellsI (M ++ [L[j]]))) := hown
    have HX : Hid (Below w.heap.size w X) := (hb.alloc hbz _).grown hgrow (by simp; omega) (own_ge ho)
    have HRUN : Hid _ := hrun
    obtain ⟨a4,c4x,hu4⟩ := own_len ho
    subst hu4
    clear b0 b1 hgc hv2 ho ho' hrun hown hgrow hb
    generalize L[j] = x at *
    go_wp2_with (first | (at_builtin; refine wp_append_run rfl (.tmp 25) (.tmp 33) 32 32 rfl rfl rfl HRUN.out ?_))
    go_roundw
    case rel => exact ⟨j + 1,by omega,by go_num,by rw [HN.out,List.length_append]; exact HOWN.out,HX.out⟩
    case measure => simp [intOf]; omega
  ·have e : j = L.length := by omega
   subst e
   rw [List.take_length] at ho
   have HO : Hid (wr.ownsRow w.heap.size 54 2 u4 (butK k L).length (cellsI (butK k L))) := ho
   have fr : wr.frozen? ⟨bh,0,none⟩ = false := (HBX.out wr hb).frozen 0
   have HN : Hid (Bx (wr.setCell ⟨bh,0,none⟩ u4) bh #[u4] 34) := (HBX.out wr hb).setj 0 u4
   obtain ⟨a4,c4x,hu4⟩ := own_len ho
   subst hu4
   clear ho hb
   go_wp2
   refine bodyPost_end (v := .tuple #[]) ?_ rfl ⟨rfl,⟨_,HN.out,?_⟩,?_⟩
   ·simp [results,Tryz.results23,go_sem]
   ·refine own_chg HO.out (chg_one (F := fun j => j = bh) (grown_setB _ _ _ _) rfl) (fun g e h => ?_)
    have := own_ge HO.out g e
    omega
   ·exact (Chg.of_below HB.out).set bh 0 _ (.inl rfl)
structure KAt (E : Sent) (n : Nat) (G : Nat -> Prop) (bx bh : Nat) (d : Dk) (L : List Sd) (w : World) : Prop where
 env : Env0 n w E
 gs : ∀ k,G k -> n <= k /\ k < w.heap.size
 st : ∃ q,StoreAt w G bx d q
 held : ∃ v,HeldAt w n bh L v /\ v.ownBlock ≠ some bh /\ ∀ g,v.ownBlock = some g -> ¬ G g
 nb : n <= bh
 gb : ¬ G bh
theorem HeldAt.chg {w w' : World} {base bh : Nat} {L : List Sd} {v : Value} {F : Nat -> Prop} (h : HeldAt w base bh L v) (hc : Chg F w w') (hb : ¬ F bh) (hv : ∀ g,v.ownBlock = some g -> ¬ F g) : HeldAt w' base bh L v :=
 ⟨h.box.chg hc hb,own_chg h.row hc hv⟩
theorem KAt.below {E : Sent} {n : Nat} {G : Nat -> Prop} {bx bh : Nat} {d : Dk} {L : List Sd} {w w' : World} (h : KAt E n G bx bh d L w) (hb : Below w.heap.size w w') : KAt E n G bx bh d L w' := by
 obtain ⟨q,hq⟩ := h.st
 obtain ⟨v,h1,h2,h3⟩ := h.held
 exact ⟨h.env.below (hb.mono h.env.le),fun k hk => ⟨(h.gs k hk).1,Nat.lt_of_lt_of_le (h.gs k hk).2 hb.size⟩,⟨q,hq.below hb⟩,⟨v,h1.chg (Chg.of_below (F := fun _ => False) hb) (fun h => h) (fun _ _ h => h),h2,h3⟩,h.nb,h.gb⟩
theorem KAt.store {E : Sent} {n : Nat} {G : Nat -> Prop} {bx bh : Nat} {d d' : Dk} {L : List Sd} {w w' : World} (h : KAt E n G bx bh d L w) (hd : Done E G bx w d' w') : KAt E n (Fx G w w') bx bh d' L w' /\ Below n w w' := by
 obtain ⟨⟨q,hq⟩,hc⟩ := hd
 obtain ⟨v,h1,h2,h3⟩ := h.held
 have hb : Below n w w' := hc.below h.env.le (fun k hk => (h.gs k hk).1)
 refine ⟨⟨h.env.below hb,?_,⟨q,hq⟩,⟨v,h1.chg hc h.gb h3,h2,?_⟩,h.nb,?_⟩,hb⟩
 ·rintro k (hk | hk)
  ·exact ⟨(h.gs k hk).1,Nat.lt_of_lt_of_le (h.gs k hk).2 hc.size⟩
  ·exact ⟨Nat.le_trans h.env.le hk.1,hk.2⟩
 ·rintro g hg (hk | hk)
  ·exact h3 g hg hk
  ·exact absurd (own_lt h1.row g hg) (by omega)
 ·rintro (hk | hk)
  ·exact h.gb hk
  ·exact absurd h1.box.lt (by omega)
theorem KAt.hold {E : Sent} {n : Nat} {G : Nat -> Prop} {bx bh : Nat} {d : Dk} {L L' : List Sd} {w w' : World} {v' : Value} (h : KAt E n G bx bh d L w) (hh : HeldAt w' w.heap.size bh L' v') (hc : Chg (fun j => j = bh) w w') : KAt E n G bx bh d L' w' /\ Below n w w' := by
 obtain ⟨q,hq⟩ := h.st
 obtain ⟨v,h1,h2,h3⟩ := h.held
 have hb : Below n w w' := hc.below h.env.le (fun k hk => by rw [hk]; exact h.nb)
 refine ⟨⟨h.env.below hb,fun k hk => ⟨(h.gs k hk).1,Nat.lt_of_lt_of_le (h.gs k hk).2 hc.size⟩,⟨q,hq.keep hc (fun k hk e => h.gb (by rw [<- e]; exact hk))⟩,⟨v',⟨hh.box,own_lower hh.row h.env.le⟩,?_,?_⟩,h.nb,h.gb⟩,hb⟩
 ·intro e
  have := own_ge hh.row bh e
  exact absurd h1.box.lt (by omega)
 ·intro g hg hk
  have := own_ge hh.row g hg
  exact absurd (h.gs g hk).2 (by omega)
theorem KAt.push {E : Sent} {n : Nat} {G : Nat -> Prop} {bx bh : Nat} {d : Dk} {M : List Sd} {w : World} {v : Value} (h : KAt E n G bx bh d M w) (hh : HeldAt w n bh M v) (hv : v.ownBlock ≠ some bh) (hg : ∀ g,v.ownBlock = some g -> ¬ G g) (x : Sd) (hM : M.length <= 1000) :
  ∃ g cp X,(Builtin.append_ #[32,32] 32 #[v,.slice (some ⟨w.heap.size,0,none⟩) 1 1]).run Tryz.prog (w.alloc (.cells #[.string (S x.key),.string (S x.val)] 54)) = .ok (.slice (some ⟨g,0,none⟩) (M.length + 1) cp) X /\
   X.cell? ⟨bh,0,none⟩ = some v /\ X.frozen? ⟨bh,0,none⟩ = false /\ KAt E n G bx bh d (M ++ [x]) (X.setCell ⟨bh,0,none⟩ (.slice (some ⟨g,0,none⟩) (M.length + 1) cp)) /\ Below n w (X.setCell ⟨bh,0,none⟩ (.slice (some ⟨g,0,none⟩) (M.length + 1) cp)) := by
 obtain ⟨i0,hi,hz0,hz1,hz2⟩ := info_parts info_item
 have hb0 := hh.box.lt
 have hn := h.env.le
 obtain ⟨g,cap,X,a1,a2,a3,a4,a5⟩ := run_append_lies (P := Tryz.prog) (w.alloc (.cells #[.string (S x.key),.string (S x.val)] 54)) 32 32 n 54 i0 (.agg #[.string ⟨#[]⟩,.string ⟨#[]⟩]) 2 32 Tryz.underlying32 hi hz0 hz1 hz2 rfl (by decide) v M.length (cellsI M) (hh.row.alloc _) ⟨w.heap.size,0,none⟩ 1 1 [.string (S x.key),.string (S x.val)] rfl (fun j u hu => cells_two_new w _ _ _ j u hu) (by simp [Value.oneCell']) (by omega) (by unfold maxLen; omega) (by omega) (by simp; omega) _ rfl
 rw [<- cellsI_snoc] at a2
 have hgw : (v.ownBlock = some g \/ w.heap.size <= g) := by
  rcases a4 with a4 | a4
  ·exact .inl a4
  ·right; rw [a4]; simp
 have hgb : g ≠ bh := by
  rcases hgw with e | e
  ·intro h; rw [h] at e; exact hv e
  ·omega
 have hbW : Bx (w.alloc (.cells #[.string (S x.key),.string (S x.val)] 54)) bh #[v] 34 := hh.box.alloc _
 have hcX : Chg (fun j => v.ownBlock = some j) (w.alloc (.cells #[.string (S x.key),.string (S x.val)] 54)) X := (Chg.refl _ _).grown a3 (fun k e => .inl e)
 have hbX : Bx X bh #[v] 34 := hbW.chg hcX hv
 have hC : Chg (fun j => j = bh \/ v.ownBlock = some j) w (X.setCell ⟨bh,0,none⟩ (.slice (some ⟨g,0,none⟩) (M.length + 1) cap)) :=
  (((Chg.refl _ _).alloc _).grown a3 (fun k e => .inl (.inr e))).set bh 0 _ (.inl (.inl rfl))
 have hK : ∀ k,(k = bh \/ v.ownBlock = some k) -> n <= k := by
  rintro k (hk | hk)
  ·rw [hk]; exact h.nb
  ·exact own_ge hh.row k hk
 have hB : Below n w (X.setCell ⟨bh,0,none⟩ (.slice (some ⟨g,0,none⟩) (M.length + 1) cap)) := hC.below hn hK
 obtain ⟨q,hq⟩ := h.st
 refine ⟨g,cap,X,a1,hbX.cell (j := 0) rfl,hbX.frozen 0,⟨h.env.below hB,fun k hk => ⟨(h.gs k hk).1,Nat.lt_of_lt_of_le (h.gs k hk).2 hC.size⟩,⟨q,hq.keep hC ?_⟩,⟨_,⟨hbX.setj 0 _,?_⟩,?_,?_⟩,h.nb,h.gb⟩,hB⟩
 ·rintro k hk (e | e)
  ·exact h.gb (by rw [<- e]; exact hk)
  ·exact hg k e hk
 ·rw [List.length_append]
  refine own_chg a2 (chg_one (F := fun j => j = bh) (grown_setB _ _ _ _) rfl) (fun g' e h' => ?_)
  have e' : g = g' := by simpa [Value.ownBlock] using e
  exact hgb (e'.trans h')
 ·intro e
  have e' : g = bh := by simpa [Value.ownBlock] using e
  exact hgb e'
 ·intro g' e hk
  have e' : g = g' := by simpa [Value.ownBlock] using e
  subst e'
  rcases hgw with e2 | e2
  ·exact hg g e2 hk
  ·exact absurd (h.gs g hk).2 (by omega)
def keyR (a : Int) : List UInt8 := keyK (pickK a 60).toNat
def nextL (L : List Sd) (e : Ent) : List Sd := butK e.key L ++ (if e.put = true then [entS e] else [])
theorem keyR_len (a : Int) : 2 <= (keyR a).length /\ (keyR a).length <= 3 := by
 have := digitsK_len (pickK a 60).toNat
 unfold keyR keyK
 simp
 omega
theorem tdiv_range {b : Int} (h : IntR b) : IntR (b.tdiv 4) := by
 obtain ⟨h1,h2⟩ := h
 by_cases h0 : 0 <= b
 ·rw [Int.tdiv_eq_ediv_of_nonneg h0]
  constructor <;> omega
 ·obtain ⟨c,rfl⟩ : ∃ c : Int,b = -c := ⟨-b,by omega⟩
  rw [Int.neg_tdiv,Int.tdiv_eq_ediv_of_nonneg (by omega)]
  constructor <;> omega

theorem ksame2_any (b1 b2 : Nat) (v1 v2 : Value) (A B : List Sd) (w : World) (h1 : w.ownsRow b1 54 2 v1 A.length (cellsI A)) (h2 : w.ownsRow b2 54 2 v2 B.length (cellsI B)) (hA : A.length <= 100000) (hB : B.length <= 100000) :
  Calls Tryz.prog 49 #[v1,v2] w fun e w' => ∃ b,e = .returned (.bool b) /\ (b = true ↔ A.map kv = B.map kv) /\ Below w.heap.size w w' := by
 obtain ⟨a1,c1,e1⟩ := own_len h1
 obtain ⟨a2,c2,e2⟩ := own_len h2
 subst e1
 subst e2
 have H1 : Hid (w.ownsRow b1 54 2 (.slice a1 A.length c1) A.length (cellsI A)) := h1
 have H2 : Hid (w.ownsRow b2 54 2 (.slice a2 B.length c2) B.length (cellsI B)) := h2
 clear h1 h2
 by_cases hl : A.length = B.length
 ·go_enter Tryz.func49,Tryz.ntmps49
  go_wp2
  go_loopw [5] (fun i wr => ∃ j : Nat,j <= A.length /\ i = .int .i64 j /\ (A.take j).map kv = (B.take j).map kv /\ Below w.heap.size w wr) (fun i _ => A.length - (intOf i).toNat)
  case atStart => exact ⟨0,by omega,rfl,rfl,Below.refl _ _⟩
  case round =>
   obtain ⟨j,hj,rfl,hs,hb⟩ := hrel
   have HS : Hid ((A.take j).map kv = (B.take j).map kv) := hs
   clear hs
   by_cases hlt : j < A.length
   ·obtain ⟨g,cap',hv2,_,hgl,hgc⟩ := own_cellsN H1.out (by omega)
    have ea : a1 = some ⟨g,0,none⟩ := by injection hv2
    subst ea
    obtain ⟨g',cap2,hv3,_,hgl2,hgc2⟩ := own_cellsN H2.out (by omega)
    have ea : a2 = some ⟨g',0,none⟩ := by injection hv3
    subst ea
    have hjB : j < B.length := by omega
    obtain ⟨p0,p1⟩ := item_at hgc hlt
    obtain ⟨q0,q1⟩ := item_at hgc2 hjB
    have HN : Hid ((A.take (j + 1)).map kv = (A.take j).map kv ++ [kv A[j]] /\ (B.take (j + 1)).map kv = (B.take j).map kv ++ [kv B[j]]) := by
     refine ⟨?_,?_⟩
     ·rw [List.take_succ_eq_append_getElem hlt,List.map_append]; rfl
     ·rw [List.take_succ_eq_append_getElem hjB,List.map_append]; rfl
    have HD : Hid (A.map kv = B.map kv -> kv A[j] = kv B[j]) := fun h => by
     have := congrArg (fun l => l[j]?) h
     simpa [hlt,hjB] using this
    have p0' := (hb.cell (p := ⟨g,j * 2,none⟩) hgl).trans p0
    have p1' := (hb.cell (p := ⟨g,j * 2 + 1,none⟩) hgl).trans p1
    have q0' := (hb.cell (p := ⟨g',j * 2,none⟩) hgl2).trans q0
    have q1' := (hb.cell (p := ⟨g',j * 2 + 1,none⟩) hgl2).trans q1
    clear hgc hgc2 hv2 hv3 p0 p1 q0 q1
    generalize A[j] = x at *
    generalize B[j] = y at *
    by_cases hke : x.key = y.key
    ·have hc1 : ((S x.key).toList == (S y.key).toList) = true := by rw [hke]; simp
     by_cases hve : x.val = y.val
     ·have hc2 : ((S x.val).toList == (S y.val).toList) = true := by rw [hve]; simp
      have HNX : Hid ((A.take (j + 1)).map kv = (B.take (j + 1)).map kv) := by
       show _ = _
       rw [HN.out.1,HN.out.2,HS.out]
       unfold kv
       rw [hke,hve]
      clear hke hve
      go_wp2_with fail
      go_region
      all_goals
       go_wp2
       go_roundw
       case rel => exact ⟨j + 1,by omega,by go_num,HNX.out,hb.drew⟩
       case measure => simp [intOf]; omega
     ·have hc2 : ((S x.val).toList == (S y.val).toList) = false := by
       rw [ByteArray.toList_eq,ByteArray.toList_eq,S_data,S_data,beq_eq_false_iff_ne]; exact hve
      have HNO : Hid (¬ A.map kv = B.map kv) := fun h => hve (congrArg Prod.snd (HD.out h))
      clear hke hve
      go_wp2_with fail
      go_region
      all_goals
       go_wp2
       go_ret
       exact ⟨_,rfl,⟨fun h => (by cases h),fun h => absurd h HNO.out⟩,hb.drew⟩
    ·have hc1 : ((S x.key).toList == (S y.key).toList) = false := by
      rw [ByteArray.toList_eq,ByteArray.toList_eq,S_data,S_data,beq_eq_false_iff_ne]; exact hke
     have HNO : Hid (¬ A.map kv = B.map kv) := fun h => hke (congrArg Prod.fst (HD.out h))
     clear hke
     go_wp2_with fail
     go_region
     all_goals
      go_wp2
      go_ret
      exact ⟨_,rfl,⟨fun h => (by cases h),fun h => absurd h HNO.out⟩,hb.drew⟩
   ·have HE : Hid (A.map kv = B.map kv) := by
     have h := HS.out
     rw [List.take_of_length_le (by omega),List.take_of_length_le (by omega)] at h
     exact h
    go_wp2
    go_ret
    exact ⟨_,rfl,⟨fun _ => HE.out,fun _ => rfl⟩,hb⟩
 ·have HNO : Hid (¬ A.map kv = B.map kv) := fun h => hl (by simpa using congrArg List.length h)
  have hl2 : ¬ (A.length : Int) = (B.length : Int) := by omega
  clear hl
  go_enter Tryz.func49,Tryz.ntmps49
  go_wp2
  go_ret
  exact ⟨_,rfl,⟨fun h => (by cases h),fun h => absurd h HNO.out⟩,Below.refl _ _⟩
end Go.Proofs.YtdhgebdbiehchaaGreatDoor
