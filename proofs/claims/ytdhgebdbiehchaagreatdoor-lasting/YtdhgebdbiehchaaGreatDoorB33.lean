/- On the way: WApp, WApp2, WWait, WWait2, WBlock, WRight, WHead, PStore, PStoreDo, PRefuse, PWrite, PWrite2, PFlush, POpen, DkOps. -/
import Derived.Test.YtdhgebdbiehchaaGreatDoorB32
import Derived.Lib.AppendStr
import Derived.Deep.QuietTactic
import Derived.BigQuiet
namespace Go.Proofs.YtdhgebdbiehchaaGreatDoor
open Go.RowKit Go.Maps
set_option linter.unusedSimpArgs false
set_option linter.unusedVariables false
set_option maxRecDepth 100000
set_option maxHeartbeats 3200000
def RowTo (w : World) (v : Value) (w' : World) (v' : Value) : Prop := Chg (fun k => v.ownBlock = some k) w w' /\ (v'.ownBlock = v.ownBlock \/ ∃ g,v'.ownBlock = some g /\ w.heap.size <= g)
theorem RowTo.refl (w : World) (v : Value) : RowTo w v w v := ⟨Chg.refl _ _,.inl rfl⟩
theorem RowTo.trans {w w1 w2 : World} {v v1 v2 : Value} (h : RowTo w v w1 v1) (k : RowTo w1 v1 w2 v2) : RowTo w v w2 v2 := by
 refine ⟨h.1.trans (k.1.mono ?_),?_⟩
 ·intro q hq hv
  rcases h.2 with h2 | ⟨g,h2,h3⟩
  ·exact .inl (by rw [<- h2]; exact hv)
  ·rw [h2] at hv; cases hv; exact .inr ⟨h3,hq⟩
 ·rcases k.2 with k2 | ⟨g,k2,k3⟩
  ·rw [k2]; exact h.2
  ·exact .inr ⟨g,k2,Nat.le_trans h.1.size k3⟩
theorem RowTo.alloc {w w1 : World} {v v1 : Value} (h : RowTo w v w1 v1) (o : Obj) : RowTo w v (w1.alloc o) v1 := ⟨h.1.alloc o,h.2⟩
theorem cellsB_str (s : List UInt8) : Go.Lib.strCells (S s) = cellsB s := by
 simp [Go.Lib.strCells,cellsB,S_data,S]
theorem app_str {W : World} {v : Value} {l t : List UInt8} (h1 : W.ownsRow 0 5 1 v l.length (cellsB l)) (hl : l.length + t.length <= 1000000000) :
  ∃ v' w',(Builtin.append_ #[43,9] 43 #[v,.string (S t)]).run Tryz.prog W = .ok v' w' /\ w'.ownsRow 0 5 1 v' (l ++ t).length (cellsB (l ++ t)) /\ RowTo W v w' v' := by
 obtain ⟨i0,hi,hz0,hz1,hz2⟩ := info_parts info_u8
 have hsz : (S t).size = t.length := S_size t
 have hxl : (cellsB l).length = l.length := cellsB_length l
 obtain ⟨v',w',a1,a2,a3,a4⟩ := Go.Lib.run_append_own_string (P := Tryz.prog) W 0 43 9 43 5 i0 Tryz.underlying43 Tryz.underlying9 hi hz0 hz1 hz2 v l.length (cellsB l) h1 (S t) (by unfold maxLen; omega) (by omega) (Nat.zero_le _)
 have hat : v'.ownBlock = v.ownBlock \/ ∃ g,v'.ownBlock = some g /\ W.heap.size <= g := by
  rcases h1.2 with ⟨rfl,e0⟩ | ⟨g,cap,cur,rfl,hbg,hg,hnc,hcm,hcs,htake⟩
  ·by_cases hm : (S t).size = 0
   ·have := a4.2 ⟨rfl,hm⟩
    rw [this]; exact .inl rfl
   ·have hr := run_append_nil_string (P := Tryz.prog) W 43 9 43 5 i0 (.int .u8 0) Tryz.underlying43 Tryz.underlying9 hi hz0 (S t) (by omega) (by omega) (by rw [hz2]; omega)
    rw [a1] at hr
    injection hr with e1 e2
    rw [e1]; exact .inr ⟨_,rfl,Nat.le_refl _⟩
  ·by_cases hroom : l.length + (S t).size <= cap
   ·have hr := Go.Lib.run_append_room_string (P := Tryz.prog) W 43 9 43 5 i0 Tryz.underlying43 Tryz.underlying9 hi hz1 g l.length cap cur hg (S t) hroom (by omega)
    rw [a1] at hr
    injection hr with e1 e2
    rw [e1]; exact .inl rfl
   ·have hr := Go.Lib.run_append_grow_string (P := Tryz.prog) W 43 9 43 5 i0 (.int .u8 0) Tryz.underlying43 Tryz.underlying9 hi hz0 ⟨g,0,none⟩ l.length cap (cellsB l) (by rw [hz1]; omega) (h1.cells (g := g) rfl) (S t) (by omega) (by omega) (by rw [hz2]; exact growslice_fits (by omega) (by omega))
    rw [a1] at hr
    injection hr with e1 e2
    rw [e1]; exact .inr ⟨_,rfl,Nat.le_refl _⟩
 rw [cellsB_str,<- cellsB_append,hsz] at a2
 rw [List.length_append]
 exact ⟨v',w',a1,a2,⟨(Chg.refl _ W).grown a3 (fun k e => .inl e),hat⟩⟩
theorem wp_append_run {P : Program} {w w' : World} {ops : Array Oper} {rest : List Oper} {o : Oper} {a : Act} {Q : Exit -> Act -> World -> Prop} (hgd : o.guard = none) (s x : Operand) (t u : TypeId)
  (ho : o.op = .call { callee := .builtin .append,args := #[s,x],argTypes := #[t,u] }) {v y r : Value} (hs : a.eval s = v) (hx : a.eval x = y) (hr : (Builtin.append_ #[t,u] o.type #[v,y]).run P w = .ok r w') (h : wpList P ops Q rest (a.put o.dst r) w') : wpList P ops Q (o :: rest) a w := by
 refine wpList_plain hgd fun K hK => ?_
 unfold Oper.wp execOp
 simp only [ho,resolve,invoke,builtin,Sem.run_bind,Sem.run_pure,Result.andThen_ok,List.map_toArray,List.map_cons,List.map_nil,hs,hx,hr]
 exact hK _ _ h
theorem app_rowTo {W : World} {v : Value} {l t : List UInt8} {g0 cp : Nat} (h1 : W.ownsRow 0 5 1 v l.length (cellsB l)) (h2 : W.ownsRow 0 5 1 (.slice (some ⟨g0,0,none⟩) t.length cp) t.length (cellsB t)) (ht : 0 < t.length) (hl : l.length + t.length <= 1000000) :
  ∃ v' w',(Builtin.append_ #[43,43] 43 #[v,.slice (some ⟨g0,0,none⟩) t.length cp]).run Tryz.prog W = .ok v' w' /\ w'.ownsRow 0 5 1 v' (l ++ t).length (cellsB (l ++ t)) /\ RowTo W v w' v' := by
 obtain ⟨g,cap,w',a1,a2,a3,a4,a5⟩ := app_row (cp := cp) h1 (RowB.of_own h2) ht hl
 refine ⟨_,w',a1,a2,(Chg.refl _ W).grown a3 (fun k e => .inl e),?_⟩
 rcases a4 with h | h
 ·exact .inl h.symm
 ·exact .inr ⟨g,rfl,by omega⟩
def entV (e : Ent) : Value := .agg #[.bool e.put,.string (S e.key),.string (S e.val)]
theorem row3 (W : World) (a b c : UInt8) {g : Nat} (hg : g = W.heap.size) : (W.alloc (.cells #[.int .u8 (a.toNat : Int),.int .u8 (b.toNat : Int),.int .u8 (c.toNat : Int)] 5)).ownsRow 0 5 1 (.slice (some ⟨g,0,none⟩) [a,b,c].length 3) [a,b,c].length (cellsB [a,b,c]) :=
 ⟨by simp [cellsB],.inr ⟨g,3,_,rfl,Nat.zero_le _,bx_new W _ _ hg,by simp,by unfold maxLen; omega,rfl,rfl⟩⟩
theorem appendTo_any (v : Value) (l : List UInt8) (en : Ent) (w : World) (hown : w.ownsRow 0 5 1 v l.length (cellsB l)) (hk : en.key.length <= 20) (hv : en.val.length <= 30) (hl : l.length <= 100000) :
  Calls Tryz.prog 156 #[entV en,v] w fun e w' => ∃ v',e = .returned v' /\ w'.ownsRow 0 5 1 v' (l ++ entB en).length (cellsB (l ++ entB en)) /\ RowTo w v w' v' := by
 obtain ⟨put,key,val⟩ := en
 simp only at hk hv
 have hkn : ((S key).size : Int) = key.length := by rw [S_size]
 have hvn : ((S val).size : Int) = val.length := by rw [S_size]
 have hwk : IntKind.u8.wrap (key.length : Int) = (key.length : Int) := by rw [IntKind.wrap_u8]; omega
 have hwv : IntKind.u8.wrap (val.length : Int) = (val.length : Int) := by rw [IntKind.wrap_u8]; omega
 have HB : Hid (entB ⟨put,key,val⟩ = (if put = true then 112 else 100) :: UInt8.ofNat key.length :: UInt8.ofNat val.length :: (key ++ val)) := rfl
 have e1 : ((UInt8.ofNat key.length).toNat : Int) = key.length := by simp; omega
 have e2 : ((UInt8.ofNat val.length).toNat : Int) = val.length := by simp; omega
 unfold entV
 simp only
 have HO : Hid (w.ownsRow 0 5 1 v l.length (cellsB l)) := hown
 clear hown
 cases put with
 | true =>
  obtain ⟨W,hW⟩ : ∃ W : World,W = (w.alloc (.cells #[.bool true,.string (S key),.string (S val)] 106)).alloc (.cells #[.int .u8 112,.int .u8 (key.length : Int),.int .u8 (val.length : Int)] 5) := ⟨_,rfl⟩
  have hzW : W.heap.size = w.heap.size + 1 + 1 := by rw [hW]; simp
  have hB : Below w.heap.size w W := by rw [hW]; exact ((Below.refl _ _).alloc (Nat.le_refl _) _).alloc (by simp) _
  have hx0 : Bx W w.heap.size #[.bool true,.string (S key),.string (S val)] 106 := by rw [hW]; exact (bx_new w _ _ rfl).alloc _
  have hr3 : W.ownsRow 0 5 1 (.slice (some ⟨w.heap.size + 1,0,none⟩) 3 3) 3 (cellsB [112,UInt8.ofNat key.length,UInt8.ofNat val.length]) := by
   have := row3 (w.alloc (.cells #[.bool true,.string (S key),.string (S val)] 106)) 112 (UInt8.ofNat key.length) (UInt8.ofNat val.length) (g := w.heap.size + 1) (by simp)
   rw [e1,e2] at this
   rw [hW]; exact this
  obtain ⟨v1,w1,R1,o1,t1⟩ := app_rowTo (t := [112,UInt8.ofNat key.length,UInt8.ofNat val.length]) (own_belowK HO.out hB (Nat.le_refl _)) hr3 (by simp) (by simp; omega)
  obtain ⟨v2,w2,R2,o2,t2⟩ := app_str (t := key) o1 (by simp; omega)
  obtain ⟨v3,w3,R3,o3,t3⟩ := app_str (t := val) o2 (by simp; omega)
  have hg : ∀ g,v.ownBlock = some g -> g < w.heap.size := own_lt HO.out
  have hg1 : ∀ g,v1.ownBlock = some g -> g ≠ w.heap.size := fun g h => by
   rcases t1.2 with h2 | ⟨g2,h2,h3⟩
   ·rw [h2] at h; have := hg g h; omega
   ·rw [h2] at h; cases h; omega
  have hx1 : Bx w1 w.heap.size #[.bool true,.string (S key),.string (S val)] 106 := hx0.chg t1.1 (fun h => by have := hg _ h; omega)
  have hx2 : Bx w2 w.heap.size #[.bool true,.string (S key),.string (S val)] 106 := hx1.chg t2.1 (fun h => hg1 _ h rfl)
  have k1 : w1.cell? ⟨w.heap.size,1,none⟩ = some (.string (S key)) := hx1.cell (j := 1) rfl
  have k2 : w2.cell? ⟨w.heap.size,2,none⟩ = some (.string (S val)) := hx2.cell (j := 2) rfl
  have HEND : Hid (w3.ownsRow 0 5 1 v3 (l ++ entB ⟨true,key,val⟩).length (cellsB (l ++ entB ⟨true,key,val⟩)) /\ RowTo w v w3 v3) := by
   have hrt : RowTo w v w3 v3 := (RowTo.trans ⟨Chg.of_below hB,.inl rfl⟩ t1).trans (t2.trans t3)
   refine ⟨?_,hrt⟩
   have : l ++ entB ⟨true,key,val⟩ = l ++ [112,UInt8.ofNat key.length,UInt8.ofNat val.length] ++ key ++ val := by rw [HB.out]; simp
   rw [this]
   exact o3
  have HR1 : Hid _ := R1
  have HR2 : Hid _ := R2
  have HR3 : Hid _ := R3
  subst hW
  clear R1 R2 R3 o1 o2 o3 t1 t2 t3 hx0 hx1 hx2 hg hg1 hr3 hB hzW HO HB e1 e2
  go_enter Tryz.func156,Tryz.ntmps156
  go_wp2_with (first | (at_builtin; refine wp_append_run rfl (.tmp 8) (.tmp 20) 43 43 rfl rfl rfl HR1.out ?_) | (at_builtin; refine wp_append_run rfl (.tmp 22) (.tmp 25) 43 9 rfl rfl rfl HR2.out ?_) | (at_builtin; refine wp_append_run rfl (.tmp 27) (.tmp 30) 43 9 rfl rfl rfl HR3.out ?_))
  go_ret
  exact ⟨_,rfl,HEND.out⟩
 | false =>
  obtain ⟨W,hW⟩ : ∃ W : World,W = (w.alloc (.cells #[.bool false,.string (S key),.string (S val)] 106)).alloc (.cells #[.int .u8 100,.int .u8 (key.length : Int),.int .u8 (val.length : Int)] 5) := ⟨_,rfl⟩
  have hzW : W.heap.size = w.heap.size + 1 + 1 := by rw [hW]; simp
  have hB : Below w.heap.size w W := by rw [hW]; exact ((Below.refl _ _).alloc (Nat.le_refl _) _).alloc (by simp) _
  have hx0 : Bx W w.heap.size #[.bool false,.string (S key),.string (S val)] 106 := by rw [hW]; exact (bx_new w _ _ rfl).alloc _
  have hr3 : W.ownsRow 0 5 1 (.slice (some ⟨w.heap.size + 1,0,none⟩) 3 3) 3 (cellsB [100,UInt8.ofNat key.length,UInt8.ofNat val.length]) := by
   have := row3 (w.alloc (.cells #[.bool false,.string (S key),.string (S val)] 106)) 100 (UInt8.ofNat key.length) (UInt8.ofNat val.length) (g := w.heap.size + 1) (by simp)
   rw [e1,e2] at this
   rw [hW]; exact this
  obtain ⟨v1,w1,R1,o1,t1⟩ := app_rowTo (t := [100,UInt8.ofNat key.length,UInt8.ofNat val.length]) (own_belowK HO.out hB (Nat.le_refl _)) hr3 (by simp) (by simp; omega)
  obtain ⟨v2,w2,R2,o2,t2⟩ := app_str (t := key) o1 (by simp; omega)
  obtain ⟨v3,w3,R3,o3,t3⟩ := app_str (t := val) o2 (by simp; omega)
  have hg : ∀ g,v.ownBlock = some g -> g < w.heap.size := own_lt HO.out
  have hg1 : ∀ g,v1.ownBlock = some g -> g ≠ w.heap.size := fun g h => by
   rcases t1.2 with h2 | ⟨g2,h2,h3⟩
   ·rw [h2] at h; have := hg g h; omega
   ·rw [h2] at h; cases h; omega
  have hx1 : Bx w1 w.heap.size #[.bool false,.string (S key),.string (S val)] 106 := hx0.chg t1.1 (fun h => by have := hg _ h; omega)
  have hx2 : Bx w2 w.heap.size #[.bool false,.string (S key),.string (S val)] 106 := hx1.chg t2.1 (fun h => hg1 _ h rfl)
  have k1 : w1.cell? ⟨w.heap.size,1,none⟩ = some (.string (S key)) := hx1.cell (j := 1) rfl
  have k2 : w2.cell? ⟨w.heap.size,2,none⟩ = some (.string (S val)) := hx2.cell (j := 2) rfl
  have HEND : Hid (w3.ownsRow 0 5 1 v3 (l ++ entB ⟨false,key,val⟩).length (cellsB (l ++ entB ⟨false,key,val⟩)) /\ RowTo w v w3 v3) := by
   have hrt : RowTo w v w3 v3 := (RowTo.trans ⟨Chg.of_below hB,.inl rfl⟩ t1).trans (t2.trans t3)
   refine ⟨?_,hrt⟩
   have : l ++ entB ⟨false,key,val⟩ = l ++ [100,UInt8.ofNat key.length,UInt8.ofNat val.length] ++ key ++ val := by rw [HB.out]; simp
   rw [this]
   exact o3
  have HR1 : Hid _ := R1
  have HR2 : Hid _ := R2
  have HR3 : Hid _ := R3
  subst hW
  clear R1 R2 R3 o1 o2 o3 t1 t2 t3 hx0 hx1 hx2 hg hg1 hr3 hB hzW HO HB e1 e2
  go_enter Tryz.func156,Tryz.ntmps156
  go_wp2_with (first | (at_builtin; refine wp_append_run rfl (.tmp 8) (.tmp 20) 43 43 rfl rfl rfl HR1.out ?_) | (at_builtin; refine wp_append_run rfl (.tmp 22) (.tmp 25) 43 9 rfl rfl rfl HR2.out ?_) | (at_builtin; refine wp_append_run rfl (.tmp 27) (.tmp 30) 43 9 rfl rfl rfl HR3.out ?_))
  go_ret
  exact ⟨_,rfl,HEND.out⟩
structure WaitAt (W : World) (bw most : Nat) (ws : List Ent) (v : Value) : Prop where
 box : Bx W bw #[.int .i64 (most : Int),.int .i64 (ws.length : Int),v] 126
 row : W.ownsRow 0 5 1 v (entsB ws).length (cellsB (entsB ws))
theorem WaitAt.chg {W W' : World} {F : Nat -> Prop} {bw most : Nat} {ws : List Ent} {v : Value} (h : WaitAt W bw most ws v) (hc : Chg F W W') (hb : ¬ F bw) (hv : ∀ g,v.ownBlock = some g -> ¬ F g) : WaitAt W' bw most ws v := ⟨h.box.chg hc hb,own_chg h.row hc hv⟩
theorem WaitAt.below {W W' : World} {bw most : Nat} {ws : List Ent} {v : Value} (h : WaitAt W bw most ws v) (hb : Below W.heap.size W W') : WaitAt W' bw most ws v := h.chg (F := fun _ => False) (Chg.of_below hb) (fun h => h) (fun _ _ h => h)
theorem newWaiting_any (blk seed bits : Nat) (w : World) :
  Calls Tryz.prog 128 #[.agg #[.int .i64 (blk : Int),.int .i64 (seed : Int),.int .i64 (bits : Int)]] w fun e w' => e = .returned (.pointer (some ⟨w.heap.size + 1,0,none⟩)) /\ WaitAt w' (w.heap.size + 1) blk [] (.slice none 0 0) /\ Below w.heap.size w w' := by
 go_enter Tryz.func128,Tryz.ntmps128
 go_wp2
 go_ret
 exact ⟨rfl,⟨bx_new _ _ _ (by simp),World.ownsRow_nil _ _ _ _⟩,((Below.refl _ _).alloc (Nat.le_refl _) _).alloc (by simp) _⟩
theorem waitAny_any (bw most : Nat) (ws : List Ent) (v : Value) (w : World) (h : WaitAt w bw most ws v) :
  Calls Tryz.prog 39 #[.pointer (some ⟨bw,0,none⟩)] w fun e w' => e = .returned (.bool (!ws.isEmpty)) /\ w' = w := by
 have c1 : w.cell? ⟨bw,1,none⟩ = some (.int .i64 (ws.length : Int)) := h.box.cell (j := 1) rfl
 have HV : Hid (decide (0 < ws.length) = !ws.isEmpty) := by
  show _ = _
  cases ws <;> simp
 clear h
 go_enter Tryz.func39,Tryz.ntmps39
 go_wp2
 go_ret
 exact ⟨by rw [<- HV.out]; simp,rfl⟩
theorem clear_any (bw most : Nat) (ws : List Ent) (v : Value) (w : World) (h : WaitAt w bw most ws v) :
    Calls Tryz.prog 73 #[.pointer (some ⟨bw,0,none⟩)] w fun e w' => e = .returned (.tuple #[]) /\ ∃ v',WaitAt w' bw most [] v' /\ v'.ownBlock = v.ownBlock /\ Chg (fun k => k = bw) w w' := by
  have c1 : w.cell? ⟨bw,1,none⟩ = some (.int .i64 (ws.length : Int)) := h.box.cell (j := 1) rfl
  have c2 : w.cell? ⟨bw,2,none⟩ = some v := h.box.cell (j := 2) rfl
  have f1 := h.box.frozen 1
  have f2 := h.box.frozen 2
  have hC : ∀ v' : Value,Chg (fun k => k = bw) w ((w.setCell ⟨bw,1,none⟩ (.int .i64 0)).setCell ⟨bw,2,none⟩ v') := fun v' => (((Chg.refl (fun k => k = bw) w).set bw 1 _ (.inl rfl)).set bw 2 _ (.inl rfl))
  have hbx : ∀ v' : Value,Bx ((w.setCell ⟨bw,1,none⟩ (.int .i64 0)).setCell ⟨bw,2,none⟩ v') bw #[.int .i64 (most : Int),.int .i64 0,v'] 126 := fun v' => (h.box.setj 1 _).setj 2 _
  have hun := own_unlike h.box h.row (by decide)
  rcases h.row.2 with ⟨rfl,e0⟩ | ⟨g,cap,cur,rfl,hbg,hg,hnc,hcm,hcs,htake⟩
  · have HE : Hid (WaitAt ((w.setCell ⟨bw,1,none⟩ (.int .i64 0)).setCell ⟨bw,2,none⟩ (.slice none 0 0)) bw most [] (.slice none 0 0) /\ Chg (fun k => k = bw) w ((w.setCell ⟨bw,1,none⟩ (.int .i64 0)).setCell ⟨bw,2,none⟩ (.slice none 0 0))) := ⟨⟨hbx _,World.ownsRow_nil _ _ _ _⟩,hC _⟩
    clear h hC hbx hun
    go_enter Tryz.func73,Tryz.ntmps73
    go_wp2
    refine bodyPost_end (v := .tuple #[]) ?_ rfl ⟨rfl,_,HE.out.1,rfl,HE.out.2⟩
    simp [results,Tryz.results73,go_sem]
  · have hne : ¬ g = bw := fun e => by
      rcases hun with h5 | h5
      · cases h5
      · exact h5 (by rw [<- e]; rfl)
    have HE : Hid (WaitAt ((w.setCell ⟨bw,1,none⟩ (.int .i64 0)).setCell ⟨bw,2,none⟩ (.slice (some ⟨g,0,none⟩) 0 cap)) bw most [] (.slice (some ⟨g,0,none⟩) 0 cap) /\ Chg (fun k => k = bw) w ((w.setCell ⟨bw,1,none⟩ (.int .i64 0)).setCell ⟨bw,2,none⟩ (.slice (some ⟨g,0,none⟩) 0 cap))) := by
      refine ⟨⟨hbx _,?_⟩,hC _⟩
      have := own_cut h.row (q := 0) rfl (Nat.zero_le _)
      exact own_chg this (hC _) (fun g' hg' e => hne (by have : g = g' := by simpa [Value.ownBlock] using hg'
                                                         omega))
    have hcap : (0 : Int) <= cap := by omega
    have hnc2 : ((entsB ws).length : Int) <= cap := by omega
    clear h hC hbx hun hbg hg hcs htake hcm
    go_enter Tryz.func73,Tryz.ntmps73
    go_wp2
    refine bodyPost_end (v := .tuple #[]) ?_ rfl ⟨rfl,_,HE.out.1,rfl,HE.out.2⟩
    simp [results,Tryz.results73,go_sem]
theorem size_any (en : Ent) (w : World) (hk : en.key.length <= 1000000) (hv : en.val.length <= 1000000) :
  Calls Tryz.prog 155 #[entV en] w fun e w' => e = .returned (.int .i64 ((entB en).length : Nat)) /\ Below w.heap.size w w' := by
 obtain ⟨put,key,val⟩ := en
 simp only at hk hv
 have hkn : ((S key).size : Int) = key.length := by rw [S_size]
 have hvn : ((S val).size : Int) = val.length := by rw [S_size]
 have HL : Hid (((entB ⟨put,key,val⟩).length : Int) = 3 + (key.length : Int) + (val.length : Int)) := by show _ = _; rw [entB_length]; simp
 unfold entV
 go_enter Tryz.func155,Tryz.ntmps155
 go_wp2
 go_ret
 exact ⟨by rw [HL.out]; rfl,(Below.refl _ _).alloc (Nat.le_refl _) _⟩
theorem addW_any (bw most : Nat) (ws : List Ent) (en : Ent) (v : Value) (w : World) (h : WaitAt w bw most ws v) (hk : en.key.length <= 20) (hv : en.val.length <= 30) (hl : (entsB ws).length <= 100000) (hn : ws.length <= 1000) :
  Calls Tryz.prog 101 #[.pointer (some ⟨bw,0,none⟩),entV en] w fun e w' => e = .returned (.tuple #[]) /\ ∃ v',WaitAt w' bw most (ws ++ [en]) v' /\ (v'.ownBlock = v.ownBlock \/ ∃ g,v'.ownBlock = some g /\ w.heap.size <= g) /\ Chg (fun k => k = bw \/ v.ownBlock = some k) w w' := by
 obtain ⟨W,hW⟩ : ∃ W : World,W = (w.setCell ⟨bw,1,none⟩ (.int .i64 ((ws.length : Int) + 1))).alloc (.cells #[.bool en.put,.string (S en.key),.string (S en.val)] 106) := ⟨_,rfl⟩
 have hlt := h.box.lt
 have c1 : w.cell? ⟨bw,1,none⟩ = some (.int .i64 (ws.length : Int)) := h.box.cell (j := 1) rfl
 have f1 := h.box.frozen 1
 have hbx1 : Bx W bw #[.int .i64 (most : Int),.int .i64 ((ws.length : Int) + 1),v] 126 := by rw [hW]; exact Bx.alloc (h.box.setj 1 _) _
 have hC0 : Chg (fun k => k = bw \/ v.ownBlock = some k) w W := by rw [hW]; exact ((Chg.refl _ w).set bw 1 _ (.inl (.inl rfl))).alloc _
 have hzW : W.heap.size = w.heap.size + 1 := by rw [hW]; simp
 have hun := own_unlike h.box h.row (by decide)
 have hnv : v.ownBlock ≠ some bw := by
  rcases hun with h5 | h5
  ·rw [h5]; simp
  ·exact h5
 have hrow1 : W.ownsRow 0 5 1 v (entsB ws).length (cellsB (entsB ws)) := by
  have hcc : Chg (fun k => k = bw) w W := by rw [hW]; exact ((Chg.refl (fun k => k = bw) w).set bw 1 _ (.inl rfl)).alloc _
  exact own_chg h.row hcc (fun g hg e => hnv (by rw [hg,e]))
 have hg : ∀ g,v.ownBlock = some g -> g < w.heap.size := own_lt h.row
 have hx : Bx W w.heap.size #[.bool en.put,.string (S en.key),.string (S en.val)] 106 := by
  rw [hW]
  exact bx_new _ _ _ (by simp)
 have HAP : Hid (∀ wx : World,wx.ownsRow 0 5 1 v (entsB ws).length (cellsB (entsB ws)) -> _) := fun wx hx => appendTo_any v (entsB ws) en wx hx hk hv hl
 clear h
 unfold entV
 go_enter Tryz.func101,Tryz.ntmps101
 go_wp2_with fail
 rw [<- hW]
 have HB1 : Hid (Bx W bw #[.int .i64 (most : Int),.int .i64 ((ws.length : Int) + 1),v] 126) := hbx1
 have c2 : W.cell? ⟨bw,2,none⟩ = some v := hbx1.cell (j := 2) rfl
 have x0 : W.cell? ⟨w.heap.size,0,none⟩ = some (.bool en.put) := hx.cell (j := 0) rfl
 have x1 : W.cell? ⟨w.heap.size,1,none⟩ = some (.string (S en.key)) := hx.cell (j := 1) rfl
 have x2 : W.cell? ⟨w.heap.size,2,none⟩ = some (.string (S en.val)) := hx.cell (j := 2) rfl
 have HR : Hid (W.ownsRow 0 5 1 v (entsB ws).length (cellsB (entsB ws))) := hrow1
 have HNV : Hid (v.ownBlock ≠ some bw) := hnv
 have HC0 : Hid (Chg (fun k => k = bw \/ v.ownBlock = some k) w W) := hC0
 clear hbx1 hx hrow1 hnv hC0 c1 f1 hW hun
 go_region_with (first | (go_at_call 156; refine (HAP.out _ ?_).mono ?_; exact HR.out.drew; rintro e w1 ⟨v1,rfl,o1,t1⟩; obtain ⟨a1,cp1,rfl⟩ := own_len o1; have hb1 : Bx w1 bw #[.int .i64 (most : Int),.int .i64 ((ws.length : Int) + 1),v] 126 := (t1.1.keep bw (by exact HB1.out.lt) HNV.out).trans HB1.out; have d2 := hb1.cell (j := 2) rfl; have g2 := hb1.frozen 2; have HO1 : Hid _ := o1; have HT1 : Hid _ := t1; have HX1 : Hid _ := hb1; clear o1 t1 hb1))
 all_goals
  go_wp2
  have ho : w1.ownsRow 0 5 1 (.slice a1 (entsB ws ++ entB en).length cp1) (entsB ws ++ entB en).length (cellsB (entsB ws ++ entB en)) := HO1.out
  have ht := HT1.out
  have hb : Bx w1 bw #[.int .i64 (most : Int),.int .i64 ((ws.length : Int) + 1),v] 126 := HX1.out
  have hne : (Value.slice a1 (entsB ws ++ entB en).length cp1).ownBlock ≠ some bw := by
   rcases ht.2 with h2 | ⟨g,h2,h3⟩
   ·rw [h2]; exact HNV.out
   ·rw [h2]
    have h4 : W.heap.size <= g := h3
    simp; omega
  have hC1 : Chg (fun k => k = bw \/ v.ownBlock = some k) w w1 := HC0.out.trans ((show Chg (fun k => v.ownBlock = some k) W w1 from ⟨ht.1.os,ht.1.tape,ht.1.output,ht.1.size,ht.1.keep⟩).mono (fun k _ h => .inl (.inr h)))
  have hbk : ∀ u : Value,Bx (w1.setCell ⟨bw,2,none⟩ u) bw #[.int .i64 (most : Int),.int .i64 (((ws ++ [en]).length : Nat) : Int),u] 126 := fun u => by
   have := hb.setj 2 u
   rw [List.length_append]
   exact this
  refine bodyPost_end (v := .tuple #[]) (by simp [results,Tryz.results101,go_sem]) rfl ⟨rfl,.slice a1 (entsB ws ++ entB en).length cp1,?_,?_,?_⟩
  ·rw [<- List.length_append]
   refine ⟨hbk _,?_⟩
   rw [entsB_snoc]
   exact ho.kept (grown_setB _ _ _ _) (.inr hne)
  ·rcases ht.2 with h2 | ⟨g,h2,h3⟩
   ·exact .inl h2
   ·have h4 : W.heap.size <= g := h3
    exact .inr ⟨g,h2,by omega⟩
  ·exact hC1.set bw 2 _ (.inl (.inl rfl))
theorem entsB_some {ws : List Ent} (h : ws ≠ []) : 0 < (entsB ws).length := by
 cases ws with
 | nil => exact absurd rfl h
 | cons e es =>
  show 0 < (entB e ++ entsB es).length
  rw [List.length_append,entB_length]; omega
theorem row1 (W : World) (a : UInt8) {g : Nat} (hg : g = W.heap.size) : (W.alloc (.cells #[.int .u8 (a.toNat : Int)] 5)).ownsRow g 5 1 (.slice (some ⟨g,0,none⟩) 1 1) [a].length (cellsB [a]) :=
 ⟨by simp [cellsB],.inr ⟨g,1,_,rfl,Nat.le_refl _,bx_new W _ _ hg,by simp,by unfold maxLen; omega,rfl,rfl⟩⟩
theorem wBlock_any (bw most : Nat) (ws : List Ent) (v : Value) (w : World) (h : WaitAt w bw most ws v) (hH : HalvesAt w) (hne : ws ≠ []) (hn : ws.length <= 255) (hl : (entsB ws).length <= 65535) :
  Calls Tryz.prog 72 #[.pointer (some ⟨bw,0,none⟩)] w fun e w' => ∃ g cp,e = .returned (.slice (some ⟨g,0,none⟩) (blockB ws).length cp) /\ w'.ownsRow w.heap.size 5 1 (.slice (some ⟨g,0,none⟩) (blockB ws).length cp) (blockB ws).length (cellsB (blockB ws)) /\ Below w.heap.size w w' := by
 obtain ⟨i0,hi,hz0,hz1,hz2⟩ := info_parts info_u8
 have hp := entsB_some hne
 have hlt := h.box.lt
 have c1 : w.cell? ⟨bw,1,none⟩ = some (.int .i64 (ws.length : Int)) := h.box.cell (j := 1) rfl
 have hwk : IntKind.u8.wrap (ws.length : Int) = (ws.length : Int) := by rw [IntKind.wrap_u8]; omega
 have e1 : ((UInt8.ofNat ws.length).toNat : Int) = ws.length := by simp; omega
 obtain ⟨gv,cv,rfl,_,hgl⟩ := h.row.form (by omega)
 obtain ⟨W,hW⟩ : ∃ W : World,W = w.alloc (.cells #[.int .u8 (ws.length : Int)] 5) := ⟨_,rfl⟩
 have hB : Below w.heap.size w W := by rw [hW]; exact (Below.refl _ _).alloc (Nat.le_refl _) _
 have hzW : W.heap.size = w.heap.size + 1 := by rw [hW]; simp
 have hrow : W.ownsRow w.heap.size 5 1 (.slice (some ⟨w.heap.size,0,none⟩) 1 1) [UInt8.ofNat ws.length].length (cellsB [UInt8.ofNat ws.length]) := by
  have := row1 w (UInt8.ofNat ws.length) rfl
  rw [e1] at this
  rw [hW]; exact this
 have HAL := appendLow_any (.slice (some ⟨w.heap.size,0,none⟩) 1 1) [UInt8.ofNat ws.length] ((entsB ws).length : Int) 2 W w.heap.size (by omega) (by omega) (by omega) hrow (by omega) (by simp)
 have c2 : W.cell? ⟨bw,2,none⟩ = some (.slice (some ⟨gv,0,none⟩) (entsB ws).length cv) := (h.box.below hB hlt).cell (j := 2) rfl
 have HC2 : Hid (∀ w1 : World,Below w.heap.size w w1 -> w1.cell? ⟨bw,2,none⟩ = some (.slice (some ⟨gv,0,none⟩) (entsB ws).length cv)) := fun w1 hb => (h.box.below hb hlt).cell (j := 2) rfl
 have HRV : Hid (∀ w1 : World,Below w.heap.size w w1 -> w1.ownsRow 0 5 1 (.slice (some ⟨gv,0,none⟩) (entsB ws).length cv) (entsB ws).length (cellsB (entsB ws))) := fun w1 hb => own_belowK h.row hb (Nat.le_refl _)
 have HH : Hid (HalvesAt w) := hH
 have HB : Hid (Below w.heap.size w W) := hB
 have HBL : Hid (blockB ws = sealL ([UInt8.ofNat ws.length] ++ lowL (entsB ws).length 2 ++ entsB ws)) := by
  show _ = _
  have : lowL ws.length 1 = [UInt8.ofNat ws.length] := by
   show [UInt8.ofNat (ws.length % 256)] = _
   rw [Nat.mod_eq_of_lt (by omega)]
  unfold blockB; rw [this]
 subst hW
 clear h hrow hH e1 hB
 go_enter Tryz.func72,Tryz.ntmps72
 go_wp2_with (first | (go_at_call 129; refine HAL.mono ?_; rintro e w1 ⟨v1,rfl,r1,b1⟩; have hB1 : Below w.heap.size w w1 := HB.out.trans b1; have d2 := HC2.out w1 hB1; have HB1 : Hid (Below w.heap.size w w1) := hB1; clear b1 hB1; have HR1 : Hid (w1.ownsRow w.heap.size 5 1 v1 ([UInt8.ofNat ws.length].length + 2) (cellsB ([UInt8.ofNat ws.length] ++ lowL ((entsB ws).length : Int).toNat 2))) := r1; clear r1) | (at_builtin; go_loud (refine wpList_append_own _ rfl (.tmp 17) (.tmp 21) 43 rfl w.heap.size 5 i0 (.int .u8 0) 1 1 Tryz.underlying43 hi hz0 hz1 hz2 rfl (by decide) _ _ _ rfl HR1.out ⟨gv,0,none⟩ (entsB ws).length cv (cellsB (entsB ws)) rfl (by simp [cellsB_length]) (own_news (HRV.out w1 HB1.out)) (by intro u hu; obtain ⟨x,_,rfl⟩ := List.mem_map.1 hu; rfl) (by unfold maxLen; simp <;> omega) (by simp <;> omega) HB1.out.size ?_; intro v2 w2 r2 g2 _; have HB2 : Hid (Below w.heap.size w w2) := HB1.out.grown g2 HB1.out.size (own_ge HR1.out); have HR2 : Hid (w2.ownsRow w.heap.size 5 1 v2 ([UInt8.ofNat ws.length] ++ lowL (entsB ws).length 2 ++ entsB ws).length (cellsB ([UInt8.ofNat ws.length] ++ lowL (entsB ws).length 2 ++ entsB ws))) := (by rw [Int.toNat_natCast,<- cellsB_append] at r2; rw [List.length_append,List.length_append,lowL_length]; exact r2); clear r2 g2)) | (go_at_call 130; go_loud (refine (seal_any v2 _ w.heap.size w2 HR2.out HB2.out.size (by simp [lowL_length] <;> omega) (HH.out.below HB2.out HH.out.1)).mono ?_; rintro e w3 ⟨v3,rfl,r3,b3⟩; rw [<- HBL.out] at r3; have hs3 : 0 < (blockB ws).length := (by rw [HBL.out]; simp [sealL] <;> omega); obtain ⟨g3,cp3,rfl,_,_⟩ := r3.form hs3; have HR3 : Hid (w3.ownsRow w.heap.size 5 1 (.slice (some ⟨g3,0,none⟩) (blockB ws).length cp3) (blockB ws).length (cellsB (blockB ws))) := r3; have HB3 : Hid (Below w.heap.size w w3) := HB2.out.trans b3; clear r3 b3 hs3)))
 go_ret
 exact ⟨_,_,rfl,HR3.out,HB3.out⟩
def rightB (en : Ent) : Bool := !(decide (en.key.length < 1 \/ 20 < en.key.length \/ 30 < en.val.length))
theorem entRight_any (en : Ent) (w : World) :
  Calls Tryz.prog 99 #[entV en] w fun e w' => e = .returned (.bool (rightB en)) /\ Below w.heap.size w w' := by
 have h := isRight_any en.put (S en.key) (S en.val) w
 have hkn : (S en.key).size = en.key.length := S_size _
 have hvn : (S en.val).size = en.val.length := S_size _
 have HR : rightB en = (keyB (S en.key) && decide ((S en.val).size <= 30)) := by
  unfold rightB keyB
  rw [hkn,hvn,Bool.eq_iff_iff]
  simp only [Bool.not_eq_true',decide_eq_false_iff_not,Bool.and_eq_true,decide_eq_true_eq]
  omega
 rw [HR]
 exact h
theorem below_drewN {n k : Nat} {w w1 : World} (h : Below n w w1) : Below n w (w1.drewN k) := ⟨h.os,h.tape,h.output,h.size,h.block⟩
def takesB (most : Nat) (ws : List Ent) (en : Ent) : Bool := ws.isEmpty || (decide (ws.length < 255) && decide ((entsB ws).length + (entB en).length <= most))
def TkC (bw most n : Nat) (v : Value) (en : Ent) (w w' : World) : Prop := ((w'.cell? ⟨bw,0,none⟩ = some (.int .i64 (most : Int)) /\ w'.cell? ⟨bw,1,none⟩ = some (.int .i64 (n : Int)) /\ w'.cell? ⟨bw,2,none⟩ = some v) /\ (w'.cell? ⟨w.heap.size,0,none⟩ = some (.bool en.put) /\ w'.cell? ⟨w.heap.size,1,none⟩ = some (.string (S en.key)) /\ w'.cell? ⟨w.heap.size,2,none⟩ = some (.string (S en.val)))) /\ Below w.heap.size w w' /\ w.heap.size < w'.heap.size
theorem tkC_0 {bw most n : Nat} {v : Value} {en : Ent} {w : World} (c0 : w.cell? ⟨bw,0,none⟩ = some (.int .i64 (most : Int))) (c1 : w.cell? ⟨bw,1,none⟩ = some (.int .i64 (n : Int))) (c2 : w.cell? ⟨bw,2,none⟩ = some v) (hlt : bw < w.heap.size) : TkC bw most n v en w (w.alloc (.cells #[.bool en.put,.string (S en.key),.string (S en.val)] 106)).drew := by
 have f : ∀ {j : Nat} {u : Value},w.cell? ⟨bw,j,none⟩ = some u -> (w.alloc (.cells #[.bool en.put,.string (S en.key),.string (S en.val)] 106)).drew.cell? ⟨bw,j,none⟩ = some u := fun {j u} h => (World.cell?_alloc_lt _ _ ⟨bw,j,none⟩ hlt).trans h
 have hx : Bx (w.alloc (.cells #[.bool en.put,.string (S en.key),.string (S en.val)] 106)) w.heap.size #[.bool en.put,.string (S en.key),.string (S en.val)] 106 := bx_new w _ _ rfl
 exact ⟨⟨⟨f c0,f c1,f c2⟩,hx.cell (j := 0) rfl,hx.cell (j := 1) rfl,hx.cell (j := 2) rfl⟩,((Below.refl _ _).alloc (Nat.le_refl _) _).drew,by simp⟩
theorem tkC_next {bw most n : Nat} {v : Value} {en : Ent} {w wx w' : World} (h : TkC bw most n v en w wx) (hb : Below wx.heap.size wx w') : TkC bw most n v en w w' := by
 obtain ⟨⟨⟨h1,h2,h3⟩,h4,h5,h6⟩,h7,h8⟩ := h
 have f : ∀ {k j : Nat} {x : Value},wx.cell? ⟨k,j,none⟩ = some x -> w'.cell? ⟨k,j,none⟩ = some x := fun {k j x} hx => by
  have hlt := cell_lt (p := ⟨k,j,none⟩) hx
  rw [<- hx]
  unfold World.cell?
  rw [hb.block k hlt]
 exact ⟨⟨⟨f h1,f h2,f h3⟩,f h4,f h5,f h6⟩,h7.trans (hb.mono h7.size),Nat.lt_of_lt_of_le h8 hb.size⟩
theorem takes_any (bw most : Nat) (ws : List Ent) (en : Ent) (v : Value) (w : World) (h : WaitAt w bw most ws v) (hk : en.key.length <= 20) (hv : en.val.length <= 30) (hl : (entsB ws).length <= 100000) (hn : ws.length <= 1000) :
  Calls Tryz.prog 100 #[.pointer (some ⟨bw,0,none⟩),entV en] w fun e w' => e = .returned (.bool (takesB most ws en)) /\ Below w.heap.size w w' := by
 have hlt := h.box.lt
 have c0 : w.cell? ⟨bw,0,none⟩ = some (.int .i64 (most : Int)) := h.box.cell (j := 0) rfl
 have c1 : w.cell? ⟨bw,1,none⟩ = some (.int .i64 (ws.length : Int)) := h.box.cell (j := 1) rfl
 have c2 : w.cell? ⟨bw,2,none⟩ = some v := h.box.cell (j := 2) rfl
 obtain ⟨a,cp,rfl⟩ := own_len h.row
 have HW : Hid (∀ wx : World,Below w.heap.size w wx -> WaitAt wx bw most ws (.slice a (entsB ws).length cp)) := fun wx hb => h.below hb
 have HA : Hid (∀ wx : World,Below w.heap.size w wx -> _) := fun wx hb => waitAny_any bw most ws _ wx (h.below hb)
 have HZ : Hid (∀ wx : World,_) := fun wx => size_any en wx (by omega) (by omega)
 have HT : Hid (takesB most ws en = (ws.isEmpty || (decide (ws.length < 255) && decide ((entsB ws).length + (entB en).length <= most)))) := rfl
 clear h
 have hez : (entB en).length <= 100 := by rw [entB_length]; omega
 cases he : ws.isEmpty with
 | true =>
  rw [he] at HT HA
  simp only [Bool.true_or,Bool.not_true] at HT HA
  unfold entV
  go_enter Tryz.func100,Tryz.ntmps100
  go_wp2_with fail
  go_quiet (first | (go_at_call 39; refine Calls.quiet_of_same (HA.out _ ?_); exact below_drewN ((Below.refl _ _).alloc (Nat.le_refl _) _)))
  go_wp2
  go_ret
  exact ⟨by rw [HT.out]; rfl,below_drewN ((Below.refl _ _).alloc (Nat.le_refl _) _)⟩
 | false =>
  rw [he] at HT HA
  simp only [Bool.false_or,Bool.not_false] at HT HA
  by_cases hc : ws.length < 255
  ·have hd : decide (ws.length < 255) = true := decide_eq_true hc
   rw [hd,Bool.true_and] at HT
   have hci : (ws.length : Int) < 255 := by omega
   have hw1 : IntKind.i64.wrap (((entsB ws).length : Int) + ((entB en).length : Int)) = ((entsB ws).length : Int) + ((entB en).length : Int) := by rw [IntKind.wrap_i64]; omega
   have HDD : Hid (decide ((entsB ws).length + (entB en).length <= most) = decide (((entsB ws).length : Int) + ((entB en).length : Int) <= (most : Int))) := by show _ = _; rw [decide_eq_decide]; omega
   unfold entV at HZ ⊢
   go_enter Tryz.func100,Tryz.ntmps100
   go_wp2_with fail
   go_region_held3 (fun w' => ((w'.cell? ⟨bw,0,none⟩ = some (.int .i64 (most : Int)) /\ w'.cell? ⟨bw,1,none⟩ = some (.int .i64 (ws.length : Int)) /\ w'.cell? ⟨bw,2,none⟩ = some (.slice a (entsB ws).length cp)) /\ (w'.cell? ⟨w.heap.size,0,none⟩ = some (.bool en.put) /\ w'.cell? ⟨w.heap.size,1,none⟩ = some (.string (S en.key)) /\ w'.cell? ⟨w.heap.size,2,none⟩ = some (.string (S en.val)))) /\ Below w.heap.size w w' /\ w.heap.size < w'.heap.size) (first | (exact tkC_0 c0 c1 c2 hlt) | (assumption) | (exact tkC_next (by assumption) (by assumption))) (first | (go_at_call 39; refine (HA.out _ ?_).mono ?_; exact And.left (And.right (by assumption)); rintro e w1 ⟨rfl,rfl⟩) | (go_at_call 155; refine (HZ.out _).mono ?_; rintro e wz ⟨rfl,hbz⟩))
   all_goals
    go_wp2
    go_ret
    exact ⟨by rw [HT.out,HDD.out]; rfl,And.left (And.right (by assumption))⟩
  ·have hd : decide (ws.length < 255) = false := decide_eq_false hc
   rw [hd,Bool.false_and] at HT
   have hci : decide ((ws.length : Int) < 255) = false := decide_eq_false (by omega)
   unfold entV
   go_enter Tryz.func100,Tryz.ntmps100
   go_wp2_with fail
   go_quiet (first | (go_at_call 39; refine Calls.quiet_of_same (HA.out _ ?_); exact below_drewN ((Below.refl _ _).alloc (Nat.le_refl _) _)))
   go_wp2
   go_ret
   exact ⟨by rw [HT.out]; rfl,below_drewN ((Below.refl _ _).alloc (Nat.le_refl _) _)⟩
theorem Cells3.belowH {w w' : World} {b n : Nat} {a1 a2 a3 : Value} (h : Bx w b #[a1,a2,a3] 29) (hb : Below n w w') (hn : b < n) : Bx w' b #[a1,a2,a3] 29 := (hb.block b hn).trans h
theorem recHeadB_any (a1 a2 a3 : Nat) (w : World) (h1 : a1 < 4294967296) (h2 : a2 < 4294967296) (h3 : a3 < 4294967296) (hH : HalvesAt w) :
  Calls Tryz.prog 71 #[.agg #[.int .i64 (a1 : Int),.int .i64 (a2 : Int),.int .i64 (a3 : Int)]] w fun e w' => ∃ v',e = .returned v' /\ w'.ownsRow w.heap.size 5 1 v' (headL a1 a2 a3).length (cellsB (headL a1 a2 a3)) /\ Below w.heap.size w w' := by
 have HH : Hid (HalvesAt w) := hH
 clear hH
 have hcv := Joins.run_convert_bytes_const_at (P := Tryz.prog) (w.alloc (.cells #[.int .i64 (a1 : Int),.int .i64 (a2 : Int),.int .i64 (a3 : Int)] 29)) 43 5 #[.int .u8 76,.int .u8 71] 2 2 (w.heap.size + 1) (by simp) Tryz.underlying43 Tryz.underlying5
 go_enter Tryz.func71,Tryz.ntmps71
 go_wp2_with fail
 clear hcv
 obtain ⟨W,hW⟩ : ∃ W,W = (w.alloc (.cells #[.int .i64 (a1 : Int),.int .i64 (a2 : Int),.int .i64 (a3 : Int)] 29)).alloc (.cells #[.int .u8 76,.int .u8 71] 5 (2,3)) := ⟨_,rfl⟩
 have hc : Bx W w.heap.size #[.int .i64 (a1 : Int),.int .i64 (a2 : Int),.int .i64 (a3 : Int)] 29 := by rw [hW]; exact (bx_new w _ _ rfl).alloc _
 have hz : W.heap.size = w.heap.size + 1 + 1 := by rw [hW]; simp
 have hl : ∀ j u,(cellsB [76,71])[j]? = some u -> W.cell? ⟨w.heap.size + 1,j,none⟩ = some u := by
  intro j u hu
  rw [hW,Joins.cell_alloc_mark_at _ _ _ _ _ _ (by simp)]
  have e : cellsB [76,71] = [.int .u8 76,.int .u8 71] := rfl
  rw [e] at hu
  simpa using hu
 have hB : Below w.heap.size w W := by rw [hW]; exact ((Below.refl _ _).alloc (Nat.le_refl _) _).alloc (by simp) _
 rw [<- hW]
 have HA : Hid _ := appendLow_lit (w.heap.size + 1) [76,71] (a1 : Int) 2 W (w.heap.size + 1 + 1) (by omega) (by omega) (by omega) (by omega) hl (by omega) (by omega) (by simp)
 clear hW hl
 refine Calls.mono HA.out ?_
 rintro e w1 ⟨v1,rfl,r1,b1⟩
 rw [Int.toNat_natCast,show ([76,71] : List UInt8).length + 2 = ([76,71] ++ lowL a1 2).length by simp [lowL_length]] at r1
 have hB1 : Below w.heap.size w w1 := hB.trans (b1.mono (by omega))
 have c1 := Cells3.belowH hc b1 (by omega)
 have z1 := b1.size
 have k1 : w1.cell? ⟨w.heap.size,1,none⟩ = some (.int .i64 (a2 : Int)) := c1.cell (j := 1) rfl
 have HA1 : Hid _ := appendLow_any v1 _ (a2 : Int) 4 w1 (w.heap.size + 1 + 1) (by omega) (by omega) (by omega) r1 (by omega) (by simp [lowL_length])
 clear HA r1
 go_wp2_with fail
 refine Calls.mono HA1.out ?_
 rintro e w2 ⟨v2,rfl,r2,b2⟩
 rw [Int.toNat_natCast,show ([76,71] ++ lowL a1 2 : List UInt8).length + 4 = ([76,71] ++ lowL a1 2 ++ lowL a2 4).length by simp [lowL_length]] at r2
 have hB2 : Below w.heap.size w w2 := hB1.trans (b2.mono (by omega))
 have c2 := Cells3.belowH c1 b2 (by omega)
 have z2 := b2.size
 have k2 : w2.cell? ⟨w.heap.size,2,none⟩ = some (.int .i64 (a3 : Int)) := c2.cell (j := 2) rfl
 have HA2 : Hid _ := appendLow_any v2 _ (a3 : Int) 2 w2 (w.heap.size + 1 + 1) (by omega) (by omega) (by omega) r2 (by omega) (by simp [lowL_length])
 clear HA1 r2 k1
 go_wp2_with fail
 refine Calls.mono HA2.out ?_
 rintro e w3 ⟨v3,rfl,r3,b3⟩
 rw [Int.toNat_natCast,show ([76,71] ++ lowL a1 2 ++ lowL a2 4 : List UInt8).length + 2 = ([76,71] ++ lowL a1 2 ++ lowL a2 4 ++ lowL a3 2).length by simp [lowL_length]] at r3
 have hB3 : Below w.heap.size w w3 := hB2.trans (b3.mono (by omega))
 have z3 := b3.size
 have HS : Hid _ := seal_any v3 ([76,71] ++ lowL a1 2 ++ lowL a2 4 ++ lowL a3 2) (w.heap.size + 1 + 1) w3 r3 (by omega) (by simp [lowL_length]) (HH.out.below hB3 HH.out.1)
 clear HA2 r3 k2
 go_wp2_with fail
 refine Calls.mono HS.out ?_
 rintro e w6 ⟨v6,rfl,r6,b6⟩
 have HR6 : Hid (w6.ownsRow (w.heap.size + 1 + 1) 5 1 v6 (headL a1 a2 a3).length (cellsB (headL a1 a2 a3))) := r6
 clear r6 HS
 go_wp2
 go_ret
 exact ⟨_,rfl,Joins.ownsRow_le HR6.out (by omega),hB3.trans (b6.mono (by omega))⟩
structure StP where
 bd : Nat
 Fd : Nat -> Prop
 p : Pr
 ow : Option Nat
 v : Value
def WaitIs (W : World) (o : Option Nat) (ws : List Ent) (ow : Option Nat) (v : Value) : Prop := match o,ow with
 | none,none => v = .slice none 0 0
 | some blk,some bw => WaitAt W bw blk ws v
 | _,_ => False
structure StoreAt (W : World) (G : Nat -> Prop) (bs : Nat) (d : Dk) (q : StP) : Prop where
 box : Bx W bs #[.pointer (some ⟨q.bd,0,none⟩),optP q.ow] 78
 disk : DiskAt W q.Fd q.bd d q.p
 wait : WaitIs W d.opn d.waits q.ow q.v
 fs : ¬ q.Fd bs
 fw : ∀ b,q.ow = some b -> ¬ q.Fd b
 fv : ∀ g,q.v.ownBlock = some g -> ¬ q.Fd g
 gs : G bs
 gd : ∀ k,q.Fd k -> G k
 gw : ∀ b,q.ow = some b -> G b
 gv : ∀ g,q.v.ownBlock = some g -> G g
theorem wait_none {W : World} {ws : List Ent} {ow : Option Nat} {v : Value} (h : WaitIs W none ws ow v) : ow = none /\ v = .slice none 0 0 := by
 cases ow with
 | none => exact ⟨rfl,h⟩
 | some b => exact h.elim
theorem wait_some {W : World} {blk : Nat} {ws : List Ent} {ow : Option Nat} {v : Value} (h : WaitIs W (some blk) ws ow v) : ∃ bw,ow = some bw /\ WaitAt W bw blk ws v := by
 cases ow with
 | none => exact h.elim
 | some b => exact ⟨b,rfl,h⟩
theorem WaitIs.chg {W W' : World} {F : Nat -> Prop} {o : Option Nat} {ws : List Ent} {ow : Option Nat} {v : Value} (h : WaitIs W o ws ow v) (hc : Chg F W W') (hb : ∀ b,ow = some b -> ¬ F b) (hv : ∀ g,v.ownBlock = some g -> ¬ F g) : WaitIs W' o ws ow v := by
 cases o with
 | none =>
  obtain ⟨rfl,rfl⟩ := wait_none h
  rfl
 | some blk =>
  obtain ⟨bw,rfl,h1⟩ := wait_some h
  exact WaitAt.chg h1 hc (hb bw rfl) hv
theorem StoreAt.below {W W' : World} {G : Nat -> Prop} {bs : Nat} {d : Dk} {q : StP} (h : StoreAt W G bs d q) (hb : Below W.heap.size W W') : StoreAt W' G bs d q :=
 ⟨h.box.below hb h.box.lt,h.disk.below hb,h.wait.chg (Chg.of_below (F := fun _ => False) hb) (fun _ _ h => h) (fun _ _ h => h),h.fs,h.fw,h.fv,h.gs,h.gd,h.gw,h.gv⟩
theorem StoreAt.mono {W : World} {G G' : Nat -> Prop} {bs : Nat} {d : Dk} {q : StP} (h : StoreAt W G bs d q) (hG : ∀ k,G k -> G' k) : StoreAt W G' bs d q :=
 ⟨h.box,h.disk,h.wait,h.fs,h.fw,h.fv,hG _ h.gs,fun k hk => hG _ (h.gd k hk),fun b hb => hG _ (h.gw b hb),fun g hg => hG _ (h.gv g hg)⟩
theorem StoreAt.keep {W W' : World} {G K : Nat -> Prop} {bs : Nat} {d : Dk} {q : StP} (h : StoreAt W G bs d q) (hc : Chg K W W') (hK : ∀ k,G k -> ¬ K k) : StoreAt W' G bs d q :=
 ⟨h.box.chg hc (hK _ h.gs),h.disk.keep hc (fun k hk => hK _ (h.gd k hk)),h.wait.chg hc (fun b hb => hK _ (h.gw b hb)) (fun g hg => hK _ (h.gv g hg)),h.fs,h.fw,h.fv,h.gs,h.gd,h.gw,h.gv⟩
theorem wait_lt {W : World} {o : Option Nat} {ws : List Ent} {ow : Option Nat} {v : Value} (h : WaitIs W o ws ow v) : (∀ b,ow = some b -> b < W.heap.size) /\ (∀ g,v.ownBlock = some g -> g < W.heap.size) := by
 cases o with
 | none =>
  obtain ⟨rfl,rfl⟩ := wait_none h
  exact ⟨fun b e => (by cases e),fun g e => (by cases e)⟩
 | some blk =>
  obtain ⟨bw,rfl,h1⟩ := wait_some h
  exact ⟨fun b e => by cases e; exact h1.box.lt,own_lt h1.row⟩
theorem StoreAt.disked {W W' : World} {G : Nat -> Prop} {bs : Nat} {d d' : Dk} {q : StP} {p' : Pr} (h : StoreAt W G bs d q) (hc : Chg q.Fd W W') (hD : DiskAt W' (Fx q.Fd W W') q.bd d' p') (h1 : d'.opn = d.opn) (h2 : d'.waits = d.waits) :
  StoreAt W' (Fx G W W') bs d' ⟨q.bd,Fx q.Fd W W',p',q.ow,q.v⟩ := by
 have hl := wait_lt h.wait
 have nx : ∀ {k},k < W.heap.size -> ¬ q.Fd k -> ¬ Fx q.Fd W W' k := fun hk hn hx => by
  rcases hx with hx | hx
  ·exact hn hx
  ·omega
 refine ⟨h.box.chg hc h.fs,hD,?_,nx h.box.lt h.fs,fun b hb => nx (hl.1 b hb) (h.fw b hb),fun g hg => nx (hl.2 g hg) (h.fv g hg),.inl h.gs,?_,fun b hb => .inl (h.gw b hb),fun g hg => .inl (h.gv g hg)⟩
 ·rw [h1,h2]; exact h.wait.chg hc h.fw h.fv
 ·rintro k (hk | hk)
  ·exact .inl (h.gd k hk)
  ·exact .inr hk
theorem StoreAt.shut {W W' : World} {G : Nat -> Prop} {bs : Nat} {d d' : Dk} {q : StP} {p' : Pr} (h : StoreAt W G bs d q) (hc : Chg q.Fd W W') (hD : DiskAt W' (Fx q.Fd W W') q.bd d' p') (h1 : d'.opn = none) :
  StoreAt (W'.setCell ⟨bs,1,none⟩ (.pointer none)) (Fx G W W') bs d' ⟨q.bd,Fx q.Fd W W',p',none,.slice none 0 0⟩ := by
 have nbs : ¬ Fx q.Fd W W' bs := fun hx => by
  rcases hx with hx | hx
  ·exact h.fs hx
  ·have := h.box.lt; omega
 refine ⟨(h.box.chg hc h.fs).setj 1 _,hD.keep (G := fun k => k = bs) (chg_one (grown_setB _ _ _ _) rfl) (fun k hk e => nbs (by rw [<- e]; exact hk)),?_,nbs,fun b e => (by cases e),fun g e => (by cases e),.inl h.gs,?_,fun b e => (by cases e),fun g e => (by cases e)⟩
 ·rw [h1]; rfl
 ·rintro k (hk | hk)
  ·exact .inl (h.gd k hk)
  ·exact .inr hk
theorem steps_codes (d : Dk) (ss : List St) : (d.steps ss).1 = 0 \/ (d.steps ss).1 = 2 \/ (d.steps ss).1 = 6 \/ (d.steps ss).1 = 8 := by
 induction ss generalizing d with
 | nil => exact .inl rfl
 | cons st ss ih =>
  rw [steps_cons]
  split
  ·exact ih _
  ·rename_i hr
   obtain ⟨b,d',hct⟩ : ∃ b d',d.count = (b,d') := ⟨_,_,rfl⟩
   cases b with
   | false => rw [one_no hct]; simp
   | true =>
    rw [one_yes hct]
    unfold Dk.take
    repeat' split
    all_goals simp
theorem errAd_power {E : Sent} (h : E.all.Nodup) {e : Int} (he : e = 2 \/ e = 6) : errAd E e ≠ E.power := by
 unfold Sent.all at h
 simp only [List.nodup_cons,List.mem_cons,List.not_mem_nil,or_false,not_or,List.nodup_nil,and_true,not_false_eq_true] at h
 obtain ⟨⟨a1,a2,a3,a4⟩,⟨b1,b2,b3⟩,⟨c1,c2⟩,d1⟩ := h
 unfold errAd
 rcases he with rfl | rfl
 ·simpa using b3
 ·simpa using a4
def Done (E : Sent) (G : Nat -> Prop) (bs : Nat) (w : World) (d' : Dk) (w' : World) : Prop := (∃ q',StoreAt w' (Fx G w w') bs d' q') /\ Chg G w w'
theorem fx_setCell {G : Nat -> Prop} {w w' : World} {a : Addr} {v : Value} : ∀ k,Fx G w w' k -> Fx G w (w'.setCell a v) k := fun k h => by
 rcases h with h | h
 ·exact .inl h
 ·exact .inr (by simpa using h)
theorem storeDo_any (E : Sent) (n : Nat) (G : Nat -> Prop) (bs : Nat) (d : Dk) (q : StP) (g cap : Nat) (cs : Array Value) (ss : List St) (w : World) (hE : Env0 n w E) (hG : ∀ k,G k -> n <= k /\ k < w.heap.size) (hS : StoreAt w G bs d q) (hok : DkOk d) (hup : d.down = false) (hT : StepsAt w q.Fd g cs ss) (hcap : ss.length <= cap) (hl : ss.length <= 1000) :
  Calls Tryz.prog 42 #[.pointer (some ⟨bs,0,none⟩),.slice (some ⟨g,0,none⟩) ss.length cap] w fun e w' => ∃ v,e = .returned v /\ FaultIs w' E (d.steps ss).1 v /\ Done E G bs w (d.steps ss).2 w' := by
 have c0 : w.cell? ⟨bs,0,none⟩ = some (.pointer (some ⟨q.bd,0,none⟩)) := hS.box.cell (j := 0) rfl
 have HDO := doAll_any E n q.Fd q.bd d q.p g cap cs ss w hE (fun k hk => hG k (hS.gd k hk)) hS.disk hok hup hT hcap hl
 have hsame := steps_same (d := d) ss
 have hcod := steps_codes d ss
 have HC : Hid (∀ w1 : World,Chg q.Fd w w1 -> Chg G w w1) := fun w1 h => h.mono (fun k _ hk => hS.gd k hk)
 have HEV : Hid (∀ w1 : World,Chg q.Fd w w1 -> Env w1 E) := fun w1 h => (hE.chg h (fun k hk => (hG k (hS.gd k hk)).1)).env
 have HS : Hid (StoreAt w G bs d q) := hS
 have HBX : Hid (∀ w1 : World,Chg q.Fd w w1 -> Bx w1 bs #[.pointer (some ⟨q.bd,0,none⟩),optP q.ow] 78) := fun w1 h => hS.box.chg h hS.fs
 clear hS hT hE hG hok
 generalize d.steps ss = r at *
 obtain ⟨re,rd⟩ := r
 simp only at hsame hcod
 by_cases h0 : re = 0
 ·subst h0
  have HFIN : Hid (∀ (v : Value) (w1 : World),Did E q.Fd q.bd w (0,rd) v w1 -> v = .nilIface /\ Done E G bs w rd w1 /\ Chg q.Fd w w1) := fun v w1 ⟨h1,⟨p',h2⟩,h3⟩ => by
   rcases h1 with ⟨_,h1⟩ | ⟨h1,_⟩
   ·exact ⟨h1,⟨⟨_,HS.out.disked h3 h2 (hsame.1 (by decide)).2.1 (hsame.1 (by decide)).2.2⟩,HC.out w1 h3⟩,h3⟩
   ·exact absurd rfl h1
  clear hsame hcod
  go_enter Tryz.func42,Tryz.ntmps42
  go_wp2_with (first | (go_at_call 76; refine HDO.mono ?_; rintro e w1 ⟨v,rfl,hd⟩; obtain ⟨rfl,hdn,hch⟩ := HFIN.out v w1 hd; clear hd; have gp := (HEV.out w1 hch).power; have HDN : Hid (Done E G bs w rd w1) := hdn; clear hdn hch) | (go_at_call 75; refine (is_nil _ _).mono ?_; rintro e w2 ⟨rfl,rfl⟩))
  go_ret
  exact ⟨_,rfl,.inl ⟨rfl,rfl⟩,HDN.out⟩
 ·by_cases h8 : re = 8
  ·subst h8
   have hv8 : errVal E 8 = .iface 352 (.pointer (some E.power)) := by simp [errVal,errAd]
   have HFIN : Hid (∀ (v : Value) (w1 : World),Did E q.Fd q.bd w (8,rd) v w1 -> ∃ b,v = .iface 128 (.pointer (some ⟨b,0,none⟩)) /\ w1.cell? ⟨b,2,none⟩ = some (.iface 352 (.pointer (some E.power))) /\ Chg q.Fd w w1 /\ FaultIs (w1.setCell ⟨bs,1,none⟩ (.pointer none)) E 8 v /\ Done E G bs w rd (w1.setCell ⟨bs,1,none⟩ (.pointer none))) := fun v w1 ⟨h1,⟨p',h2⟩,h3⟩ => by
    rcases h1 with ⟨h1,_⟩ | ⟨_,b,rfl,h4⟩
    ·cases h1
    ·have h5 := h4
     rw [hv8] at h4
     have hbx := HBX.out w1 h3
     have hne : b ≠ bs := fun e => by
      subst e
      rw [cell_of_row w1 b 2 _ _ _ hbx] at h4
      simp at h4
     refine ⟨b,rfl,h4,h3,.inr ⟨by decide,b,rfl,?_⟩,⟨_,(HS.out.shut h3 h2 (hsame.2 rfl).2.1).mono fx_setCell⟩,(HC.out w1 h3).set bs 1 _ (.inl HS.out.gs)⟩
     rw [<- h5]
     have hb2 := (grown_setB w1 bs 1 (.pointer none)).block b (cell_lt (p := ⟨b,2,none⟩) h5) (fun e => hne (by simpa using e))
     unfold World.cell?
     rw [hb2]
   clear hsame hcod
   go_enter Tryz.func42,Tryz.ntmps42
   go_wp2_with (first | (go_at_call 76; refine HDO.mono ?_; rintro e w1 ⟨v,rfl,hd⟩; obtain ⟨b,rfl,hb4,hch,hfa,hdn⟩ := HFIN.out v w1 hd; clear hd; have gp := (HEV.out w1 hch).power; have hce := (HEV.out w1 hch).cells E.power (by simp [Sent.all]); have hbx := HBX.out w1 hch; have s1 := hbx.cell (j := 1) rfl; have s2 := hbx.frozen 1; have HCE : Hid _ := hce; have HFA : Hid _ := hfa; have HDN : Hid _ := hdn; clear hfa hdn hch hce hbx) | (go_at_call 75; refine (is_fault b E.power E.power w1 hb4 HCE.out HCE.out).mono ?_; rintro e w2 ⟨rfl,rfl⟩; rw [decide_eq_true rfl]))
   go_ret
   exact ⟨_,rfl,HFA.out,HDN.out⟩
  ·have hre : re = 2 \/ re = 6 := by rcases hcod with h | h | h | h; exact absurd h h0; exact .inl h; exact .inr h; exact absurd h h8
   have hvp := errVal_pos (E := E) h0
   have HFIN : Hid (∀ (v : Value) (w1 : World),Did E q.Fd q.bd w (re,rd) v w1 -> ∃ b,v = .iface 128 (.pointer (some ⟨b,0,none⟩)) /\ w1.cell? ⟨b,2,none⟩ = some (.iface 352 (.pointer (some (errAd E re)))) /\ Chg q.Fd w w1 /\ FaultIs w1 E re v /\ Done E G bs w rd w1) := fun v w1 ⟨h1,⟨p',h2⟩,h3⟩ => by
    rcases h1 with ⟨h1,_⟩ | ⟨h9,b,rfl,h4⟩
    ·exact absurd h1 h0
    ·exact ⟨b,rfl,by rw [<- hvp]; exact h4,h3,.inr ⟨h9,b,rfl,h4⟩,⟨_,HS.out.disked h3 h2 (hsame.1 h8).2.1 (hsame.1 h8).2.2⟩,HC.out w1 h3⟩
   clear hsame hcod
   go_enter Tryz.func42,Tryz.ntmps42
   go_wp2_with (first | (go_at_call 76; refine HDO.mono ?_; rintro e w1 ⟨v,rfl,hd⟩; obtain ⟨b,rfl,hb4,hch,hfa,hdn⟩ := HFIN.out v w1 hd; clear hd; have gp := (HEV.out w1 hch).power; have HEN : Hid (Env w1 E) := HEV.out w1 hch; have HFA : Hid _ := hfa; have HDN : Hid _ := hdn; clear hfa hdn hch) | (go_at_call 75; refine (is_fault b (errAd E re) E.power w1 hb4 (HEN.out.cells _ (errAd_mem E re)) (HEN.out.cells _ (by simp [Sent.all]))).mono ?_; rintro e w2 ⟨rfl,rfl⟩; rw [decide_eq_false (errAd_power HEN.out.nodup hre)]))
   go_ret
   exact ⟨_,rfl,HFA.out,HDN.out⟩
theorem S_log : (⟨#[108,111,103]⟩ : ByteArray) = S (nm 0) := by
 apply ByteArray.ext
 rfl
def refE (d : Dk) : Int := if d.down = true then 7 else if d.opn.isSome = true then 0 else 2
theorem refusal_any (E : Sent) (n : Nat) (G : Nat -> Prop) (bs : Nat) (d : Dk) (q : StP) (w : World) (hE : Env0 n w E) (hS : StoreAt w G bs d q) :
  Calls Tryz.prog 38 #[.pointer (some ⟨bs,0,none⟩)] w fun e w' => e = .returned (.int .i64 (refE d)) /\ Below w.heap.size w w' := by
 have c0 : w.cell? ⟨bs,0,none⟩ = some (.pointer (some ⟨q.bd,0,none⟩)) := hS.box.cell (j := 0) rfl
 have HC1 : Hid (∀ w1 : World,Below w.heap.size w w1 -> w1.cell? ⟨bs,1,none⟩ = some (optP q.ow)) := fun w1 hb => (hS.box.below hb hS.box.lt).cell (j := 1) rfl
 have HH := has_any E n q.Fd q.bd d q.p ⟨#[108,111,103]⟩ w hE hS.disk (by decide)
 have HEV : Hid (∀ w1 : World,Below w.heap.size w w1 -> Env w1 E) := fun w1 hb => hE.env.below hb
 have HR : Hid (refE d = if d.down = true then 7 else if d.opn.isSome = true then 0 else 2) := rfl
 have hw := hS.wait
 clear hS hE
 cases hd : d.down with
 | true =>
  rw [hd] at HR HH
  simp only [if_true,Bool.not_true,Bool.false_and] at HR HH
  have HV : Hid (∀ (v : Value) (w1 : World),FaultIs w1 E 7 v -> ∃ b,v = .iface 128 (.pointer (some ⟨b,0,none⟩))) := fun v w1 h => by
   rcases h with ⟨h,_⟩ | ⟨_,b,h,_⟩
   ·cases h
   ·exact ⟨b,h⟩
  clear hw hd
  go_enter Tryz.func38,Tryz.ntmps38
  go_wp2_with (first | (go_at_call 69; refine HH.mono ?_; rintro e w1 ⟨ev,rfl,hf,hb⟩; obtain ⟨b,rfl⟩ := HV.out _ _ hf; have HB : Hid (Below w.heap.size w w1) := hb; have HFA : Hid (FaultIs w1 E 7 (.iface 128 (.pointer (some ⟨b,0,none⟩)))) := hf; clear hf hb) | (go_at_call 41; refine (answer_any E 7 _ w1 (HEV.out w1 HB.out) HFA.out (by decide)).mono ?_; rintro e w2 ⟨rfl,hb2⟩))
  go_ret
  exact ⟨by rw [HR.out]; rfl,HB.out.trans (hb2.mono HB.out.size)⟩
 | false =>
  rw [hd] at HR HH
  simp only [Bool.false_eq_true,if_false] at HR HH
  have HV : Hid (∀ (v : Value) (w1 : World),FaultIs w1 E 0 v -> v = .nilIface) := fun v w1 h => by
   rcases h with ⟨_,h⟩ | ⟨h,_⟩
   ·exact h
   ·exact absurd rfl h
  cases ho : d.opn with
  | none =>
   rw [ho] at hw HR
   obtain ⟨h1,_⟩ := wait_none hw
   rw [h1] at HC1
   simp only [Option.isSome_none,Bool.false_eq_true,if_false] at HR
   clear hw hd ho h1
   go_enter Tryz.func38,Tryz.ntmps38
   go_wp2_with (first | (go_at_call 69; refine HH.mono ?_; rintro e w1 ⟨ev,rfl,hf,hb⟩; obtain rfl := HV.out _ _ hf; have k1 : w1.cell? ⟨bs,1,none⟩ = some (.pointer none) := HC1.out w1 hb; have HB : Hid (Below w.heap.size w w1) := hb; clear hf hb))
   go_ret
   exact ⟨by rw [HR.out]; rfl,HB.out⟩
  | some blk =>
   rw [ho] at hw HR
   obtain ⟨bw,h1,_⟩ := wait_some hw
   rw [h1] at HC1
   simp only [Option.isSome_some,if_true] at HR
   clear hw hd ho h1
   go_enter Tryz.func38,Tryz.ntmps38
   go_wp2_with (first | (go_at_call 69; refine HH.mono ?_; rintro e w1 ⟨ev,rfl,hf,hb⟩; obtain rfl := HV.out _ _ hf; have k1 : w1.cell? ⟨bs,1,none⟩ = some (.pointer (some ⟨bw,0,none⟩)) := HC1.out w1 hb; have HB : Hid (Below w.heap.size w w1) := hb; clear hf hb))
   go_ret
   exact ⟨by rw [HR.out]; rfl,HB.out⟩
theorem DiskAt.setW {W : World} {F : Nat -> Prop} {bd : Nat} {d : Dk} {p : Pr} (h : DiskAt W F bd d p) (o : Option Nat) (ws : List Ent) : DiskAt W F bd { d with opn := o,waits := ws } p :=
 ⟨h.dk,h.map,h.coming,h.files,h.dB,h.dV,h.fd,h.fm,h.fc,h.fB,h.fV,h.small⟩
theorem StoreAt.waited {W W' : World} {G : Nat -> Prop} {bs : Nat} {d : Dk} {q : StP} {blk bw : Nat} {ws' : List Ent} {v' : Value} (h : StoreAt W G bs d q) (hGz : ∀ k,G k -> k < W.heap.size) (ho : d.opn = some blk) (hb : q.ow = some bw) (hc : Chg (fun k => k = bw \/ q.v.ownBlock = some k) W W') (hw : WaitAt W' bw blk ws' v') (hv : v'.ownBlock = q.v.ownBlock \/ ∃ g,v'.ownBlock = some g /\ W.heap.size <= g) :
  StoreAt W' (Fx G W W') bs { d with waits := ws' } { q with v := v' } := by
 have h1 := h.wait
 rw [ho,hb] at h1
 have hwa : WaitAt W bw blk d.waits q.v := h1
 have hne : bs ≠ bw := bx_unlike h.box hwa.box (by decide)
 have hnv : ¬ q.v.ownBlock = some bs := by
  rcases own_unlike h.box hwa.row (by decide) with h5 | h5
  ·rw [h5]; intro e; cases e
  ·exact h5
 refine ⟨h.box.chg hc (by rintro (e | e); exact hne e; exact hnv e),?_,?_,h.fs,h.fw,?_,.inl h.gs,fun k hk => .inl (h.gd k hk),fun b hb => .inl (h.gw b hb),?_⟩
 ·have := (h.disk.keep hc (by rintro k hk (e | e); exact h.fw bw hb (by rw [<- e]; exact hk); exact h.fv k e hk)).setW d.opn ws'
  exact this
 ·show WaitIs W' d.opn ws' q.ow v'
  rw [ho,hb]; exact hw
 ·intro g hg
  rcases hv with hv | ⟨g',hg',hz⟩
  ·exact h.fv g (by rw [<- hv]; exact hg)
  ·intro hf
   have h7 : some g' = some g := hg'.symm.trans hg
   cases h7
   have := hGz _ (h.gd _ hf)
   omega
 ·intro g hg
  rcases hv with hv | ⟨g',hg',hz⟩
  ·exact .inl (h.gv g (by rw [<- hv]; exact hg))
  ·have h7 : some g' = some g := hg'.symm.trans hg
   cases h7
   exact .inr ⟨hz,own_lt hw.row _ hg'⟩
theorem Done.later {E : Sent} {G : Nat -> Prop} {bs : Nat} {w w1 : World} {d' : Dk} {w' : World} (h : Done E G bs w1 d' w') (hb : Below w.heap.size w w1) : Done E G bs w d' w' := by
 obtain ⟨⟨q',h2⟩,h3⟩ := h
 refine ⟨⟨q',h2.mono ?_⟩,(Chg.of_below hb).trans (h3.mono (fun k _ h => .inl h))⟩
 rintro k (h | h)
 ·exact .inl h
 ·exact .inr ⟨Nat.le_trans hb.size h.1,h.2⟩
theorem Done.then {E : Sent} {G : Nat -> Prop} {bs : Nat} {w w1 : World} {d1 d' : Dk} {w' : World} (h : Done E G bs w d1 w1) (k : Done E (Fx G w w1) bs w1 d' w') : Done E G bs w d' w' := by
 obtain ⟨_,h3⟩ := h
 obtain ⟨⟨q',k2⟩,k3⟩ := k
 exact ⟨⟨q',k2.mono (fx_trans h3.size k3.size)⟩,h3.trans k3⟩
theorem Made.form {w : World} {st : St} {g : Option Nat} {e : Ending} {w' : World} (h : Made w st g e w') : ∃ s1 s2 k caps,e = .returned (.agg #[.string s1,.string s2,.func (.func k) #[] caps]) /\ (∀ F : Nat -> Prop,(∀ q,F q -> q < w.heap.size) -> (∀ q,g = some q -> ¬ F q) -> TakeAt w' F st (.func (.func k) #[] caps)) /\ Below w.heap.size w w' := h
theorem steps_one {w2 : World} {F : Nat -> Prop} {st : St} {s1 s2 : ByteArray} {k : Nat} {caps : Array Value} (hF : ∀ q,F q -> q < w2.heap.size) (hT : TakeAt w2 F st (.func (.func k) #[] caps)) (hs : StFine st) : StepsAt (w2.alloc (.cells #[.string s1,.string s2,.func (.func k) #[] caps] 86)) F w2.heap.size #[.string s1,.string s2,.func (.func k) #[] caps] [st] := by
 refine ⟨bx_new w2 _ _ rfl,fun h => absurd (hF _ h) (by omega),?_⟩
 intro j s hj
 cases j with
 | zero =>
  simp at hj
  subst hj
  exact ⟨s1,s2,_,rfl,rfl,rfl,hT.turn (Chg.of_below (F := fun _ => False) ((Below.refl _ _).alloc (Nat.le_refl _) _)) (fun _ h => h.elim) (fun _ _ h => h),hs⟩
 | succ j => simp at hj
theorem hok_waits {d : Dk} (h : DkOk d) : (entsB d.waits).length <= 65535 := by
 have h1 := h.ents
 have h2 := h.most
 have : ∀ l : List Ent,(∀ e ∈ l,EntOk e) -> (entsB l).length <= 53 * l.length := by
  intro l
  induction l with
  | nil => intro _; simp [entsB]
  | cons e es ih =>
   intro hh
   have := ih (fun x hx => hh x (by simp [hx]))
   have he := hh e (by simp)
   have hl := entB_length e
   show (entB e ++ entsB es).length <= _
   obtain ⟨_,a2,a3,_⟩ := he
   rw [List.length_append,List.length_cons]; omega
 have := this _ h1
 omega
theorem write_eq (d : Dk) : d.write = if (d.steps [stAppend 0 (blockB d.waits)]).1 = 0 then (0,{ (d.steps [stAppend 0 (blockB d.waits)]).2 with waits := [] }) else d.steps [stAppend 0 (blockB d.waits)] := by
 unfold Dk.write
 generalize d.steps [stAppend 0 (blockB d.waits)] = r
 obtain ⟨e,d'⟩ := r
 rfl
theorem done_clear {E : Sent} {G : Nat -> Prop} {bs blk : Nat} {w w4 : World} {rd : Dk} (hG : ∀ k,G k -> k < w.heap.size) (h : Done E G bs w rd w4) (ho : rd.opn = some blk) :
  ∃ bw4,w4.cell? ⟨bs,1,none⟩ = some (.pointer (some ⟨bw4,0,none⟩)) /\ Calls Tryz.prog 73 #[.pointer (some ⟨bw4,0,none⟩)] w4 fun e w' => e = .returned (.tuple #[]) /\ Done E G bs w { rd with waits := [] } w' := by
 obtain ⟨⟨q4,h1⟩,h2⟩ := h
 have hw := h1.wait
 rw [ho] at hw
 obtain ⟨bw4,hb,hwa⟩ := wait_some hw
 have c1 : w4.cell? ⟨bs,1,none⟩ = some (optP q4.ow) := h1.box.cell (j := 1) rfl
 rw [hb] at c1
 refine ⟨bw4,c1,(clear_any bw4 blk rd.waits q4.v w4 hwa).mono ?_⟩
 rintro e w5 ⟨rfl,v',k1,k2,k3⟩
 have hGz : ∀ k,Fx G w w4 k -> k < w4.heap.size := fun k hk => by
  rcases hk with hk | hk
  ·exact Nat.lt_of_lt_of_le (hG k hk) h2.size
  ·exact hk.2
 have hst := h1.waited hGz ho hb (k3.mono (fun k _ h => .inl h)) k1 (.inl k2)
 exact ⟨rfl,⟨_,hst.mono (fx_trans h2.size k3.size)⟩,h2.trans (k3.mono (fun k _ e => by subst e; exact h1.gw _ hb))⟩
theorem steps_call {E : Sent} {n : Nat} {G : Nat -> Prop} {bs : Nat} {d : Dk} {q : StP} {st : St} {og : Option Nat} {w w1 w2 : World} {e : Ending} (hE : Env0 n w E) (hG : ∀ k,G k -> n <= k /\ k < w.heap.size) (hS : StoreAt w G bs d q) (hok : DkOk d) (hup : d.down = false) (hst : StFine st) (hb : Below w.heap.size w w1) (hM : Made w1 st og e w2) (hg : ∀ g,og = some g -> w.heap.size <= g) :
  ∃ s1 s2 k caps,e = .returned (.agg #[.string s1,.string s2,.func (.func k) #[] caps]) /\ Calls Tryz.prog 42 #[.pointer (some ⟨bs,0,none⟩),.slice (some ⟨w2.heap.size,0,none⟩) 1 1] (w2.alloc (.cells #[.string s1,.string s2,.func (.func k) #[] caps] 86)) fun e w' => ∃ v,e = .returned v /\ FaultIs w' E (d.steps [st]).1 v /\ Done E G bs w (d.steps [st]).2 w' := by
 obtain ⟨s1,s2,k,caps,rfl,hT,hb2⟩ := hM
 refine ⟨s1,s2,k,caps,rfl,?_⟩
 have hz := hb.size
 have hz2 := hb2.size
 have hF : ∀ x,q.Fd x -> x < w.heap.size := fun x hx => (hG x (hS.gd x hx)).2
 have hB2 : Below w.heap.size w w2 := hb.trans (hb2.mono hz)
 have hB3 : Below w.heap.size w (w2.alloc (.cells #[.string s1,.string s2,.func (.func k) #[] caps] 86)) := hB2.alloc (by omega) _
 have hTk := hT q.Fd (fun x hx => Nat.lt_of_lt_of_le (hF x hx) hz) (fun x hx hf => by have := hg x hx; have := hF x hf; omega)
 have h := storeDo_any E n G bs d q w2.heap.size 1 _ [st] _ (hE.chg (F := fun _ => False) (Chg.of_below hB3) (fun _ h => h.elim)) (fun k hk => ⟨(hG k hk).1,Nat.lt_of_lt_of_le (hG k hk).2 hB3.size⟩) (hS.below hB3) hok hup (steps_one (fun x hx => by have := hF x hx; omega) hTk hst) (by simp) (by simp)
 exact h.mono fun e w' ⟨v,h1,h2,h3⟩ => ⟨v,h1,h2,h3.later hB3⟩
theorem append_log (g cp : Nat) (t : List UInt8) (w : World) (hr : w.ownsRow 0 5 1 (.slice (some ⟨g,0,none⟩) t.length cp) t.length (cellsB t)) (hp : 0 < t.length) (hl : t.length <= 1000000000) : Calls Tryz.prog 55 #[.string ⟨#[108,111,103]⟩,.slice (some ⟨g,0,none⟩) t.length cp] w (Made w (stAppend 0 t) (some g)) := by
 rw [S_log]
 exact appendS_any 0 g cp t w (by omega) (RowB.of_own hr) hp hl
theorem sync_log (w : World) : Calls Tryz.prog 43 #[.string ⟨#[108,111,103]⟩] w (Made w (stSync 0) none) := by
 rw [S_log]
 exact syncS_any 0 w (by omega)
theorem fault_nil {w : World} {E : Sent} {v : Value} (h : FaultIs w E 0 v) : v = .nilIface := by
 rcases h with ⟨_,h⟩ | ⟨h,_⟩
 ·exact h
 ·exact absurd rfl h
theorem fault_some {w : World} {E : Sent} {e : Int} {v : Value} (h : FaultIs w E e v) (he : e ≠ 0) : ∃ b,v = .iface 128 (.pointer (some ⟨b,0,none⟩)) := by
 rcases h with ⟨h,_⟩ | ⟨_,b,h,_⟩
 ·exact absurd h he
 ·exact ⟨b,h⟩
theorem blockB_len (ws : List Ent) : (blockB ws).length = 7 + (entsB ws).length := by simp [blockB,sealL,lowL_length]; omega
theorem write_any (E : Sent) (n : Nat) (G : Nat -> Prop) (bs blk : Nat) (d : Dk) (q : StP) (w : World) (hE : Env0 n w E) (hG : ∀ k,G k -> n <= k /\ k < w.heap.size) (hS : StoreAt w G bs d q) (hok : DkOk d) (hup : d.down = false) (ho : d.opn = some blk) (hne : d.waits ≠ []) :
  Calls Tryz.prog 40 #[.pointer (some ⟨bs,0,none⟩)] w fun e w' => ∃ v,e = .returned v /\ FaultIs w' E d.write.1 v /\ Done E G bs w d.write.2 w' := by
 have hw := hS.wait
 rw [ho] at hw
 obtain ⟨bw,hb,hwa⟩ := wait_some hw
 have c1 : w.cell? ⟨bs,1,none⟩ = some (optP q.ow) := hS.box.cell (j := 1) rfl
 rw [hb] at c1
 have c1' : w.cell? ⟨bs,1,none⟩ = some (.pointer (some ⟨bw,0,none⟩)) := c1
 have HBK := wBlock_any bw blk d.waits q.v w hwa hE.env.halves hne hok.most (hok_waits hok)
 have hbl := blockB_len d.waits
 have hwl := hok_waits hok
 have HAP : Hid (∀ (w1 : World) (g cp : Nat),w1.ownsRow w.heap.size 5 1 (.slice (some ⟨g,0,none⟩) (blockB d.waits).length cp) (blockB d.waits).length (cellsB (blockB d.waits)) -> Calls Tryz.prog 55 #[.string ⟨#[108,111,103]⟩,.slice (some ⟨g,0,none⟩) (blockB d.waits).length cp] w1 (Made w1 (stAppend 0 (blockB d.waits)) (some g))) := fun w1 g cp hr => append_log g cp _ w1 (own_lower hr (Nat.zero_le _)) (by omega) (by omega)
 have HSC : Hid (∀ (w1 w2 : World) (g cp : Nat) (e : Ending),w1.ownsRow w.heap.size 5 1 (.slice (some ⟨g,0,none⟩) (blockB d.waits).length cp) (blockB d.waits).length (cellsB (blockB d.waits)) -> Below w.heap.size w w1 -> Made w1 (stAppend 0 (blockB d.waits)) (some g) e w2 -> _) := fun w1 w2 g cp e hr hb hM => steps_call hE hG hS hok hup (st := stAppend 0 (blockB d.waits)) ⟨by simp [stAppend],by simp [stAppend],by simp [stAppend]⟩ hb hM (fun g' hg' => by cases hg'; exact own_ge hr g rfl)
 have HWE := write_eq d
 have hsame := steps_same (d := d) [stAppend 0 (blockB d.waits)]
 have hok2 := hok.steps [stAppend 0 (blockB d.waits)] (by intro s hs; simp at hs; subst hs; exact ⟨by simp [stAppend],by simp [stAppend],by simp [stAppend]⟩)
 have HGZ : Hid (∀ k,G k -> k < w.heap.size) := fun k hk => (hG k hk).2
 generalize d.steps [stAppend 0 (blockB d.waits)] = r at *
 obtain ⟨re,rd⟩ := r
 simp only at hsame HWE
 clear hw hwa hS hE hG hok hb c1 hok2 hbl hwl
 by_cases h0 : re = 0
 ·subst h0
  rw [if_pos rfl] at HWE
  have ho2 : rd.opn = some blk := (hsame.1 (by decide)).2.1.trans ho
  have HD1 : Hid (d.write.1 = 0) := by show _ = _; rw [HWE]
  have HD2 : Hid (d.write.2 = { rd with waits := [] }) := by show _ = _; rw [HWE]
  have HCL : Hid (∀ w4 : World,Done E G bs w rd w4 -> _) := fun w4 h => done_clear HGZ.out h ho2
  clear HWE hsame ho2
  go_enter Tryz.func40,Tryz.ntmps40
  go_wp2_with (first | (go_at_call 72; refine HBK.mono ?_; rintro e w1 ⟨g,cp,rfl,hr,hb1⟩; have HR : Hid (w1.ownsRow w.heap.size 5 1 (.slice (some ⟨g,0,none⟩) (blockB d.waits).length cp) (blockB d.waits).length (cellsB (blockB d.waits))) := hr; have HB1 : Hid (Below w.heap.size w w1) := hb1; clear hr hb1) | (go_at_call 55; refine (HAP.out w1 g cp HR.out).mono ?_; intro e w2 hM; obtain ⟨s1,s2,k,caps,rfl,hcall⟩ := HSC.out w1 w2 g cp e HR.out HB1.out hM; clear hM) | (go_at_call 42; refine hcall.mono ?_; rintro e w4 ⟨v,rfl,hf,hdn⟩; obtain rfl := fault_nil hf; obtain ⟨bw4,k1,hcl⟩ := HCL.out w4 hdn; clear hf hdn hcall) | (go_at_call 73; refine hcl.mono ?_; rintro e w5 ⟨rfl,hdn5⟩))
  go_ret
  refine ⟨_,rfl,?_,?_⟩
  ·rw [HD1.out]; exact .inl ⟨rfl,rfl⟩
  ·rw [HD2.out]; exact hdn5
 ·rw [if_neg h0] at HWE
  have HD1 : Hid (d.write.1 = re) := by show _ = _; rw [HWE]
  have HD2 : Hid (d.write.2 = rd) := by show _ = _; rw [HWE]
  clear HWE hsame
  go_enter Tryz.func40,Tryz.ntmps40
  go_wp2_with (first | (go_at_call 72; refine HBK.mono ?_; rintro e w1 ⟨g,cp,rfl,hr,hb1⟩; have HR : Hid (w1.ownsRow w.heap.size 5 1 (.slice (some ⟨g,0,none⟩) (blockB d.waits).length cp) (blockB d.waits).length (cellsB (blockB d.waits))) := hr; have HB1 : Hid (Below w.heap.size w w1) := hb1; clear hr hb1) | (go_at_call 55; refine (HAP.out w1 g cp HR.out).mono ?_; intro e w2 hM; obtain ⟨s1,s2,k,caps,rfl,hcall⟩ := HSC.out w1 w2 g cp e HR.out HB1.out hM; clear hM) | (go_at_call 42; refine hcall.mono ?_; rintro e w4 ⟨v,rfl,hf,hdn⟩; obtain ⟨b,rfl⟩ := fault_some hf h0; have HFA : Hid _ := hf; have HDN : Hid _ := hdn; clear hf hdn hcall))
  go_ret
  refine ⟨_,rfl,?_,?_⟩
  ·rw [HD1.out]; exact HFA.out
  ·rw [HD2.out]; exact HDN.out
theorem flush_down {d : Dk} (h : d.down = true) : d.flush = (7,d) := by unfold Dk.flush; rw [if_pos h]
theorem flush_none {d : Dk} (h : d.down = false) (ho : d.opn = none) : d.flush = (2,d) := by unfold Dk.flush; rw [if_neg (by simp [h]),ho]
theorem flush_sync {d : Dk} {blk : Nat} (h : d.down = false) (ho : d.opn = some blk) (hw : d.waits.isEmpty = true) : d.flush = d.steps [stSync 0] := by unfold Dk.flush; rw [if_neg (by simp [h]),ho]; simp only; rw [if_pos hw]
theorem flush_write {d : Dk} {blk : Nat} (h : d.down = false) (ho : d.opn = some blk) (hw : d.waits.isEmpty = false) : d.flush = if d.write.1 = 0 then d.write.2.steps [stSync 0] else d.write := by
 unfold Dk.flush
 rw [if_neg (by simp [h]),ho]
 simp only
 rw [if_neg (by simp [hw])]
theorem write_codes (d : Dk) : d.write.1 = 0 \/ d.write.1 = 2 \/ d.write.1 = 6 \/ d.write.1 = 8 := by
 rw [write_eq]
 split
 ·exact .inl rfl
 ·exact steps_codes d _
theorem write_fine {d : Dk} (h : DkOk d) (hup : d.down = false) : (d.write.1 = 0 -> DkOk d.write.2 /\ d.write.2.down = false /\ d.write.2.opn = d.opn /\ d.write.2.waits = []) := by
 rw [write_eq]
 have hok2 := h.steps [stAppend 0 (blockB d.waits)] (by intro s hs; simp at hs; subst hs; exact ⟨by simp [stAppend],by simp [stAppend],by simp [stAppend]⟩)
 have hsame := steps_same (d := d) [stAppend 0 (blockB d.waits)]
 generalize d.steps [stAppend 0 (blockB d.waits)] = r at *
 obtain ⟨re,rd⟩ := r
 simp only at *
 split
 ·rename_i h0
  intro _
  subst h0
  obtain ⟨a1,a2,a3⟩ := hsame.1 (by decide)
  refine ⟨⟨hok2.room,hok2.used,hok2.sync,hok2.opn,fun _ => rfl,by intro e he; simp at he,by simp,by intro b _ h1; simp at h1⟩,a1.trans hup,a2,rfl⟩
 ·rename_i h0
  intro h1
  exact absurd h1 h0
theorem codes_answer {e : Int} (h : e = 0 \/ e = 2 \/ e = 6 \/ e = 8) : e = 0 \/ e = 6 \/ e = 7 \/ e = 8 \/ e = 1 \/ e = 2 := by omega
theorem done_env {E : Sent} {n : Nat} {G : Nat -> Prop} {bs : Nat} {w w' : World} {d : Dk} (hE : Env0 n w E) (hG : ∀ k,G k -> n <= k /\ k < w.heap.size) (h : Done E G bs w d w') : Env0 n w' E := hE.chg h.2 (fun k hk => (hG k hk).1)
theorem done_below {E : Sent} {G : Nat -> Prop} {bs : Nat} {w w1 w2 : World} {d : Dk} (h : Done E G bs w d w1) (hb : Below w1.heap.size w1 w2) : Done E G bs w d w2 := by
 obtain ⟨⟨q,h1⟩,h2⟩ := h
 refine ⟨⟨q,(h1.below hb).mono ?_⟩,h2.trans0 hb⟩
 rintro k (hk | hk)
 ·exact .inl hk
 ·exact .inr ⟨hk.1,Nat.lt_of_lt_of_le hk.2 hb.size⟩
theorem stSync_fine : StFine (stSync 0) := ⟨by simp [stSync],by simp [stSync],by simp [stSync]⟩
theorem flush_any (E : Sent) (n : Nat) (G : Nat -> Prop) (bs : Nat) (d : Dk) (q : StP) (w : World) (hE : Env0 n w E) (hG : ∀ k,G k -> n <= k /\ k < w.heap.size) (hS : StoreAt w G bs d q) (hok : DkOk d) :
  Calls Tryz.prog 17 #[.pointer (some ⟨bs,0,none⟩)] w fun e w' => e = .returned (.int .i64 d.flush.1) /\ Done E G bs w d.flush.2 w' := by
 have HRF := refusal_any E n G bs d q w hE hS
 have HS0 : Hid (∀ w1 : World,Below w.heap.size w w1 -> Done E G bs w d w1) := fun w1 hb => ⟨⟨q,(hS.below hb).mono (fun k h => .inl h)⟩,Chg.of_below hb⟩
 cases hd : d.down with
 | true =>
  have hr : refE d = 7 := by unfold refE; rw [if_pos hd]
  rw [hr] at HRF
  have HF1 : Hid (d.flush.1 = 7) := by show _ = _; rw [flush_down hd]
  have HF2 : Hid (d.flush.2 = d) := by show _ = _; rw [flush_down hd]
  clear hE hG hS hok hr
  go_enter Tryz.func17,Tryz.ntmps17
  go_wp2_with (first | (go_at_call 38; refine HRF.mono ?_; rintro e w1 ⟨rfl,hb⟩; have HB : Hid (Below w.heap.size w w1) := hb; clear hb))
  go_ret
  exact ⟨by rw [HF1.out]; rfl,by rw [HF2.out]; exact HS0.out _ HB.out⟩
 | false =>
  cases ho : d.opn with
  | none =>
   have hr : refE d = 2 := by unfold refE; rw [if_neg (by simp [hd]),ho]; rfl
   rw [hr] at HRF
   have HF1 : Hid (d.flush.1 = 2) := by show _ = _; rw [flush_none hd ho]
   have HF2 : Hid (d.flush.2 = d) := by show _ = _; rw [flush_none hd ho]
   clear hE hG hS hok hr
   go_enter Tryz.func17,Tryz.ntmps17
   go_wp2_with (first | (go_at_call 38; refine HRF.mono ?_; rintro e w1 ⟨rfl,hb⟩; have HB : Hid (Below w.heap.size w w1) := hb; clear hb))
   go_ret
   exact ⟨by rw [HF1.out]; rfl,by rw [HF2.out]; exact HS0.out _ HB.out⟩
  | some blk =>
   have hr : refE d = 0 := by unfold refE; rw [if_neg (by simp [hd]),ho]; rfl
   rw [hr] at HRF
   have hw := hS.wait
   rw [ho] at hw
   obtain ⟨bw,hbw,hwa⟩ := wait_some hw
   have HC1 : Hid (∀ w1 : World,Below w.heap.size w w1 -> w1.cell? ⟨bs,1,none⟩ = some (.pointer (some ⟨bw,0,none⟩))) := fun w1 hb => by
    have : w1.cell? ⟨bs,1,none⟩ = some (optP q.ow) := (hS.box.below hb hS.box.lt).cell (j := 1) rfl
    rw [hbw] at this
    exact this
   have HAN : Hid (∀ w1 : World,Below w.heap.size w w1 -> _) := fun w1 hb => waitAny_any bw blk d.waits q.v w1 (hwa.below hb)
   cases hwe : d.waits.isEmpty with
   | true =>
    rw [hwe] at HAN
    have HSC : Hid (∀ (w1 w2 : World) (e : Ending),Below w.heap.size w w1 -> Made w1 (stSync 0) none e w2 -> _) := fun w1 w2 e hb hM => steps_call hE hG hS hok hd (st := stSync 0) stSync_fine hb hM (fun g' hg' => by cases hg')
    have HEV : Hid (∀ (w1 : World) (d' : Dk),Done E G bs w d' w1 -> Env w1 E) := fun w1 d' h => (done_env hE hG h).env
    have HFL : Hid (d.flush = d.steps [stSync 0]) := flush_sync hd ho hwe
    have HCO := codes_answer (steps_codes d [stSync 0])
    generalize d.steps [stSync 0] = r at *
    clear hE hG hS hok hr hw hwa hbw
    go_enter Tryz.func17,Tryz.ntmps17
    go_wp2_with (first | (go_at_call 38; refine HRF.mono ?_; rintro e w1 ⟨rfl,hb⟩; have k1 := HC1.out w1 hb; have HB : Hid (Below w.heap.size w w1) := hb; clear hb) | (go_at_call 39; refine (HAN.out w1 HB.out).mono ?_; rintro e w1 ⟨rfl,rfl⟩) | (go_at_call 43; refine (sync_log w1).mono ?_; intro e w2 hM; obtain ⟨s1,s2,k,caps,rfl,hcall⟩ := HSC.out w1 w2 e HB.out hM; clear hM) | (go_at_call 42; refine hcall.mono ?_; rintro e w4 ⟨v,rfl,hf,hdn⟩; have HFA : Hid (FaultIs w4 E r.1 v) := hf; have HDN : Hid (Done E G bs w r.2 w4) := hdn; clear hf hdn hcall) | (go_at_call 41; refine (answer_any E r.1 v w4 (HEV.out w4 _ HDN.out) HFA.out HCO).mono ?_; rintro e w5 ⟨rfl,hb5⟩))
    go_ret
    exact ⟨by rw [HFL.out]; rfl,by rw [HFL.out]; exact done_below HDN.out hb5⟩
   | false =>
    rw [hwe] at HAN
    have hne : d.waits ≠ [] := by intro e; rw [e] at hwe; cases hwe
    have HGL : Hid (∀ (w1 w4 : World) (d' : Dk),Done E G bs w d' w4 -> ∀ k,Fx G w w4 k -> n <= k /\ k < w4.heap.size) := fun w1 w4 d' h k hk => by
     have := hE.le
     have h2 := h.2.size
     rcases hk with hk | hk
     ·have := hG k hk; omega
     ·omega
    have HEV : Hid (∀ (w1 : World) (d' : Dk),Done E G bs w d' w1 -> Env0 n w1 E) := fun w1 d' h => done_env hE hG h
    have HWR : Hid (∀ w1 : World,Below w.heap.size w w1 -> Calls Tryz.prog 40 #[.pointer (some ⟨bs,0,none⟩)] w1 fun e w' => ∃ v,e = .returned v /\ FaultIs w' E d.write.1 v /\ Done E G bs w d.write.2 w') := fun w1 hb =>
     (write_any E n G bs blk d q w1 (hE.chg (F := fun _ => False) (Chg.of_below hb) (fun _ h => h.elim)) (fun k hk => ⟨(hG k hk).1,Nat.lt_of_lt_of_le (hG k hk).2 hb.size⟩) (hS.below hb) hok hd ho hne).mono fun e w' ⟨v,h1,h2,h3⟩ => ⟨v,h1,h2,h3.later hb⟩
    have HFL := flush_write hd ho hwe
    have hfine := write_fine hok hd
    have HCW := codes_answer (write_codes d)
    generalize d.write = r at *
    obtain ⟨re,rd⟩ := r
    simp only at HFL hfine HCW
    by_cases h0 : re = 0
    ·subst h0
     rw [if_pos rfl] at HFL
     obtain ⟨f1,f2,f3,f4⟩ := hfine rfl
     have HSC : Hid (∀ (w4 w5 : World) (e : Ending),Done E G bs w rd w4 -> Made w4 (stSync 0) none e w5 -> ∃ s1 s2 k caps,e = .returned (.agg #[.string s1,.string s2,.func (.func k) #[] caps]) /\ Calls Tryz.prog 42 #[.pointer (some ⟨bs,0,none⟩),.slice (some ⟨w5.heap.size,0,none⟩) 1 1] (w5.alloc (.cells #[.string s1,.string s2,.func (.func k) #[] caps] 86)) fun e w' => ∃ v,e = .returned v /\ FaultIs w' E (rd.steps [stSync 0]).1 v /\ Done E G bs w (rd.steps [stSync 0]).2 w') := fun w4 w5 e h hM => by
      obtain ⟨⟨q4,h1⟩,h2⟩ := h
      obtain ⟨s1,s2,k,caps,e1,hc⟩ := steps_call (HEV.out w4 rd ⟨⟨q4,h1⟩,h2⟩) (HGL.out w w4 rd ⟨⟨q4,h1⟩,h2⟩) h1 f1 f2 (st := stSync 0) stSync_fine (Below.refl _ _) hM (fun g' hg' => by cases hg')
      exact ⟨s1,s2,k,caps,e1,hc.mono fun e w' ⟨v,a1,a2,a3⟩ => ⟨v,a1,a2,Done.then ⟨⟨q4,h1⟩,h2⟩ a3⟩⟩
     have HF0 : Hid (d.flush = rd.steps [stSync 0]) := HFL
     have HCO := codes_answer (steps_codes rd [stSync 0])
     generalize rd.steps [stSync 0] = r at *
     clear hE hG hS hok hr hw hwa hbw HFL hfine f1 f2 f3 f4 HCW hne
     go_enter Tryz.func17,Tryz.ntmps17
     go_wp2_with (first | (go_at_call 38; refine HRF.mono ?_; rintro e w1 ⟨rfl,hb⟩; have k1 := HC1.out w1 hb; have HB : Hid (Below w.heap.size w w1) := hb; clear hb) | (go_at_call 39; refine (HAN.out w1 HB.out).mono ?_; rintro e w1 ⟨rfl,rfl⟩) | (go_at_call 40; refine (HWR.out w1 HB.out).mono ?_; rintro e w4 ⟨v,rfl,hf,hdn⟩; obtain rfl := fault_nil hf; have HD4 : Hid (Done E G bs w rd w4) := hdn; clear hf hdn) | (go_at_call 43; refine (sync_log w4).mono ?_; intro e w5 hM; obtain ⟨s1,s2,k,caps,rfl,hcall⟩ := HSC.out w4 w5 e HD4.out hM; clear hM) | (go_at_call 42; refine hcall.mono ?_; rintro e w6 ⟨v,rfl,hf,hdn⟩; have HFA : Hid (FaultIs w6 E r.1 v) := hf; have HDN : Hid (Done E G bs w r.2 w6) := hdn; clear hf hdn hcall) | (go_at_call 41; refine (answer_any E r.1 v w6 (HEV.out w6 _ HDN.out).env HFA.out HCO).mono ?_; rintro e w7 ⟨rfl,hb7⟩))
     go_ret
     exact ⟨by rw [HF0.out]; rfl,by rw [HF0.out]; exact done_below HDN.out hb7⟩
    ·rw [if_neg h0] at HFL
     have HF0 : Hid (d.flush = (re,rd)) := HFL
     clear hE hG hS hok hr hw hwa hbw HFL hfine hne
     go_enter Tryz.func17,Tryz.ntmps17
     go_wp2_with (first | (go_at_call 38; refine HRF.mono ?_; rintro e w1 ⟨rfl,hb⟩; have k1 := HC1.out w1 hb; have HB : Hid (Below w.heap.size w w1) := hb; clear hb) | (go_at_call 39; refine (HAN.out w1 HB.out).mono ?_; rintro e w1 ⟨rfl,rfl⟩) | (go_at_call 40; refine (HWR.out w1 HB.out).mono ?_; rintro e w4 ⟨v,rfl,hf,hdn⟩; obtain ⟨b,rfl⟩ := fault_some hf h0; have HFA : Hid (FaultIs w4 E re (.iface 128 (.pointer (some ⟨b,0,none⟩)))) := hf; have HDN : Hid (Done E G bs w rd w4) := hdn; clear hf hdn) | (go_at_call 41; refine (answer_any E re _ w4 (HEV.out w4 _ HDN.out).env HFA.out HCW).mono ?_; rintro e w7 ⟨rfl,hb7⟩))
     go_ret
     exact ⟨by rw [HF0.out]; rfl,by rw [HF0.out]; exact done_below HDN.out hb7⟩
theorem opening_eq (d : Dk) (blk : Nat) (ss : List St) : d.opening blk ss = if (d.steps ss).1 = 0 then (0,(d.steps ss).2.opens blk) else d.steps ss := by
 unfold Dk.opening
 generalize d.steps ss = r
 obtain ⟨e,d'⟩ := r
 rfl
theorem StoreAt.opened {W W' : World} {G : Nat -> Prop} {bs : Nat} {d : Dk} {q : StP} {blk bw : Nat} (h : StoreAt W G bs d q) (hGz : ∀ k,G k -> k < W.heap.size) (hb : Below W.heap.size W W') (hw : WaitAt W' bw blk [] (.slice none 0 0)) (hbw : W.heap.size <= bw) :
  StoreAt (W'.setCell ⟨bs,1,none⟩ (.pointer (some ⟨bw,0,none⟩))) (Fx G W W') bs (d.opens blk) ⟨q.bd,q.Fd,q.p,some bw,.slice none 0 0⟩ := by
 have hlt := h.box.lt
 have hs := h.below hb
 refine ⟨hs.box.setj 1 _,?_,?_,h.fs,?_,fun g e => (by cases e),.inl h.gs,fun k hk => .inl (h.gd k hk),?_,fun g e => (by cases e)⟩
 ·exact (hs.disk.keep (G := fun k => k = bs) (chg_one (grown_setB _ _ _ _) rfl) (fun k hk e => h.fs (by rw [<- e]; exact hk))).setW (some blk) []
 ·show WaitAt _ bw blk [] _
  exact hw.chg (F := fun k => k = bs) (chg_one (grown_setB _ _ _ _) rfl) (by omega) (fun g e => (by cases e))
 ·intro b e hf
  cases e
  have := hGz _ (h.gd _ hf)
  omega
 ·intro b e
  cases e
  exact .inr ⟨hbw,hw.box.lt⟩
theorem sopen_any (E : Sent) (n : Nat) (G : Nat -> Prop) (bs : Nat) (d : Dk) (q : StP) (blk seed bits : Nat) (g cap : Nat) (cs : Array Value) (ss : List St) (w : World) (hE : Env0 n w E) (hG : ∀ k,G k -> n <= k /\ k < w.heap.size) (hS : StoreAt w G bs d q) (hok : DkOk d) (hup : d.down = false) (hT : StepsAt w q.Fd g cs ss) (hcap : ss.length <= cap) (hl : ss.length <= 1000) :
  Calls Tryz.prog 70 #[.pointer (some ⟨bs,0,none⟩),.agg #[.int .i64 (blk : Int),.int .i64 (seed : Int),.int .i64 (bits : Int)],.slice (some ⟨g,0,none⟩) ss.length cap] w fun e w' => e = .returned (.int .i64 (d.opening blk ss).1) /\ Done E G bs w (d.opening blk ss).2 w' := by
 obtain ⟨W,hW⟩ : ∃ W : World,W = w.alloc (.cells #[.int .i64 (blk : Int),.int .i64 (seed : Int),.int .i64 (bits : Int)] 29) := ⟨_,rfl⟩
 have hB0 : Below w.heap.size w W := by rw [hW]; exact (Below.refl _ _).alloc (Nat.le_refl _) _
 have hx : Bx W w.heap.size #[.int .i64 (blk : Int),.int .i64 (seed : Int),.int .i64 (bits : Int)] 29 := by rw [hW]; exact bx_new w _ _ rfl
 have hnG : ¬ G w.heap.size := fun h => by have := (hG _ h).2; omega
 have hS1 := hS.below hB0
 have HDO := storeDo_any E n G bs d q g cap cs ss W (hE.chg (F := fun _ => False) (Chg.of_below hB0) (fun _ h => h.elim)) (fun k hk => ⟨(hG k hk).1,Nat.lt_of_lt_of_le (hG k hk).2 hB0.size⟩) hS1 hok hup (hT.turn (F' := q.Fd) (Chg.of_below (F := fun _ => False) hB0) (fun _ h => h.elim) (fun _ _ h => h)) hcap hl
 have HOE := opening_eq d blk ss
 have HCO := codes_answer (steps_codes d ss)
 have HEV : Hid (∀ (w1 : World) (d' : Dk),Done E G bs w d' w1 -> Env w1 E) := fun w1 d' h => (done_env hE hG h).env
 have HLT : Hid (∀ (w1 : World) (d' : Dk),Done E G bs W d' w1 -> Done E G bs w d' w1) := fun w1 d' h => h.later hB0
 have HCX : Hid (∀ (w1 : World) (d' : Dk),Done E G bs W d' w1 -> (w1.cell? ⟨w.heap.size,0,none⟩ = some (.int .i64 (blk : Int)) /\ w1.cell? ⟨w.heap.size,1,none⟩ = some (.int .i64 (seed : Int)) /\ w1.cell? ⟨w.heap.size,2,none⟩ = some (.int .i64 (bits : Int)))) := fun w1 d' h => by
  have := hx.chg h.2 hnG
  exact ⟨this.cell (j := 0) rfl,this.cell (j := 1) rfl,this.cell (j := 2) rfl⟩
 have HGZ : Hid (∀ k,G k -> k < w.heap.size) := fun k hk => (hG k hk).2
 generalize d.steps ss = r at *
 obtain ⟨re,rd⟩ := r
 simp only at HOE HCO
 by_cases h0 : re = 0
 ·subst h0
  rw [if_pos rfl] at HOE
  have HO : Hid (d.opening blk ss = (0,rd.opens blk)) := HOE
  have HOP : Hid (∀ w1 w2 : World,Done E G bs w rd w1 -> Below w1.heap.size w1 w2 -> WaitAt w2 (w1.heap.size + 1) blk [] (.slice none 0 0) -> (∃ c,w2.cell? ⟨bs,1,none⟩ = some c) /\ w2.frozen? ⟨bs,1,none⟩ = false /\ Done E G bs w (rd.opens blk) (w2.setCell ⟨bs,1,none⟩ (.pointer (some ⟨w1.heap.size + 1,0,none⟩)))) := fun w1 w2 h hb hw => by
   obtain ⟨⟨q1,h1⟩,h2⟩ := h
   have hb2 := (h1.below hb).box
   have hz := hb.size
   have hGz : ∀ k,Fx G w w1 k -> k < w1.heap.size := fun k hk => by
    rcases hk with hk | hk
    ·have := HGZ.out k hk; have := h2.size; omega
    ·exact hk.2
   refine ⟨⟨_,hb2.cell (j := 1) rfl⟩,hb2.frozen 1,⟨_,(h1.opened hGz hb hw (by omega)).mono ?_⟩,(h2.trans0 hb).set bs 1 _ ?_⟩
   ·intro k hk
    refine fx_setCell k ?_
    exact fx_trans h2.size hb.size k hk
   ·rcases h1.gs with h | h
    ·exact .inl h
    ·exact .inr h.1
  subst hW
  clear hE hG hS hS1 hok hT hB0 hx hnG HOE HCO
  go_enter Tryz.func70,Tryz.ntmps70
  go_wp2_with (first | (go_at_call 42; refine HDO.mono ?_; rintro e w1 ⟨v,rfl,hf,hdn⟩; obtain rfl := fault_nil hf; obtain ⟨x0,x1,x2⟩ := HCX.out w1 _ hdn; have HDN : Hid (Done E G bs w rd w1) := HLT.out w1 _ hdn; clear hf hdn) | (go_at_call 128; refine (newWaiting_any blk seed bits w1).mono ?_; rintro e w2 ⟨rfl,hw2,hb2⟩; obtain ⟨⟨cc,hcc⟩,hfz,hdn2⟩ := HOP.out w1 w2 HDN.out hb2 hw2; have HD2 : Hid _ := hdn2; clear hdn2 hw2 hb2))
  go_ret
  exact ⟨by rw [HO.out]; rfl,by rw [HO.out]; exact HD2.out⟩
 ·rw [if_neg h0] at HOE
  have HO : Hid (d.opening blk ss = (re,rd)) := HOE
  subst hW
  clear hE hG hS hS1 hok hT hB0 hx hnG HOE
  go_enter Tryz.func70,Tryz.ntmps70
  go_wp2_with (first | (go_at_call 42; refine HDO.mono ?_; rintro e w1 ⟨v,rfl,hf,hdn⟩; obtain ⟨b,rfl⟩ := fault_some hf h0; have HFA : Hid (FaultIs w1 E re (.iface 128 (.pointer (some ⟨b,0,none⟩)))) := hf; have HDN : Hid (Done E G bs w rd w1) := HLT.out w1 _ hdn; clear hf hdn) | (go_at_call 41; refine (answer_any E re _ w1 (HEV.out w1 _ HDN.out) HFA.out HCO).mono ?_; rintro e w7 ⟨rfl,hb7⟩))
  go_ret
  exact ⟨by rw [HO.out]; rfl,by rw [HO.out]; exact done_below HDN.out hb7⟩
end Go.Proofs.YtdhgebdbiehchaaGreatDoor
namespace Go.Proofs.YtdhgebdbiehchaaGreatDoor
open Go.RowKit
set_option linter.unusedSimpArgs false
set_option linter.unusedVariables false
theorem DkOk.opens {d : Dk} (h : DkOk d) {blk : Nat} (hf : d.f0.isSome = true) (hd : d.down = false) (h1 : 1 <= blk) (h2 : blk <= 400) : DkOk (d.opens blk) :=
 ⟨h.room,h.used,h.sync,fun b e => by cases e; exact ⟨hf,h1,h2,hd⟩,fun e => (by cases e),fun e he => (by cases he),by simp [Dk.opens],fun b e hl => by simp [Dk.opens] at hl⟩
theorem put_f0 {d : Dk} {i : Nat} {f : Option Fl} (h : d.f0.isSome = true) (hf : i = 0 -> f.isSome = true) : (d.put i f).f0.isSome = true := by
 rcases dk_cases d i f with ⟨h1,e⟩ | ⟨h1,e⟩ | ⟨h1,e⟩ | ⟨h1,e⟩
 ·rw [e]; exact hf h1
 ·rw [e]; exact h
 ·rw [e]; exact h
 ·rw [e]; exact h
theorem take_f0 {d : Dk} {s : St} (h : d.f0.isSome = true) (hs : StFine s) : (d.take s).2.f0.isSome = true := by
 unfold Dk.take
 split
 ·exact put_f0 h (fun _ => rfl)
 ·split
  ·exact h
  ·split
   ·split
    ·exact h
    ·exact put_f0 h (fun _ => rfl)
   ·split
    ·exact put_f0 h (fun _ => rfl)
    ·split
     ·exact put_f0 h (fun _ => rfl)
     ·split
      ·rename_i ht
       exact put_f0 (put_f0 h (fun e => absurd e (hs.1 ht))) (fun _ => rfl)
      ·exact put_f0 h (fun e => absurd e (hs.2.1 (by have := hs.2.2; omega)))
theorem count_f0 {d : Dk} (h : d.f0.isSome = true) : d.count.2.f0.isSome = true := by
 unfold Dk.count
 split
 ·exact h
 ·simp [Dk.falls,h]
 ·exact h
theorem one_f0 {d : Dk} {s : St} (h : d.f0.isSome = true) (hs : StFine s) : (d.one s).2.f0.isSome = true := by
 have hc := count_f0 h
 obtain ⟨b,d',hct⟩ : ∃ b d',d.count = (b,d') := ⟨_,_,rfl⟩
 rw [hct] at hc
 cases b with
 | false => rw [one_no hct]; exact hc
 | true => rw [one_yes hct]; exact take_f0 hc hs
theorem steps_f0 {d : Dk} (h : d.f0.isSome = true) (ss : List St) (hs : ∀ s ∈ ss,StFine s) : (d.steps ss).2.f0.isSome = true := by
 induction ss generalizing d with
 | nil => exact h
 | cons s ss ih =>
  rw [steps_cons]
  split
  ·exact ih (one_f0 h (hs s (by simp))) (fun x hx => hs x (by simp [hx]))
  ·exact one_f0 h (hs s (by simp))
theorem make_f0 {d : Dk} (ss : List St) (hs : ∀ s ∈ ss,StFine s) (h0 : (d.steps (stMake 0 :: ss)).1 = 0) : (d.steps (stMake 0 :: ss)).2.f0.isSome = true := by
 rw [steps_cons] at h0 ⊢
 split
 ·rename_i h1
  refine steps_f0 ?_ ss hs
  obtain ⟨b,d',hct⟩ : ∃ b d',d.count = (b,d') := ⟨_,_,rfl⟩
  cases b with
  | false => rw [one_no hct] at h1; cases h1
  | true => rw [one_yes hct]; rfl
 ·rename_i h1
  rw [if_neg h1] at h0
  exact absurd h0 h1
theorem DkOk.opening {d : Dk} (h : DkOk d) {blk : Nat} {ss : List St} (hs : ∀ s ∈ ss,StFine s) (hd : d.down = false) (h1 : 1 <= blk) (h2 : blk <= 400) (hf : (d.steps ss).1 = 0 -> (d.steps ss).2.f0.isSome = true) : DkOk (d.opening blk ss).2 := by
 have hk := h.steps ss hs
 have hsame := steps_same (d := d) ss
 rw [opening_eq]
 split
 ·rename_i h0
  exact hk.opens (hf h0) ((hsame.1 (by rw [h0]; decide)).1.trans hd) h1 h2
 ·exact hk
theorem wellB_blk {a b c : Int} (h : wellB a b c = true) : 1 <= a /\ a <= 400 := by
 unfold wellB at h
 simp at h
 omega
theorem fine_make (i : Nat) : StFine (stMake i) := ⟨by simp [stMake],by simp [stMake],by simp [stMake]⟩
theorem fine_append (i : Nat) (t : List UInt8) : StFine (stAppend i t) := ⟨by simp [stAppend],by simp [stAppend],by simp [stAppend]⟩
theorem fine_sync (i : Nat) : StFine (stSync i) := ⟨by simp [stSync],by simp [stSync],by simp [stSync]⟩
theorem fine_cut (i n : Nat) : StFine (stCut i n) := ⟨by simp [stCut],by simp [stCut],by simp [stCut]⟩
theorem DkOk.create {d : Dk} (h : DkOk d) (blk seed bits : Int) : DkOk (d.create blk seed bits).2 := by
 unfold Dk.create
 split
 ·exact h
 ·rename_i hw
  split
  ·exact h
  ·rename_i hd
   split
   ·exact h
   ·have hb := wellB_blk (a := blk) (b := seed) (c := bits) (by simpa using hw)
    have fine : ∀ s ∈ [stAppend 0 (headL blk.toNat seed.toNat bits.toNat),stSync 0],StFine s := by
     intro s hs
     simp at hs
     rcases hs with rfl | rfl
     ·exact fine_append _ _
     ·exact fine_sync _
    refine h.opening ?_ (by simpa using hd) (by omega) (by omega) (make_f0 _ fine)
    intro s hs
    rw [List.mem_cons] at hs
    rcases hs with rfl | hs
    ·exact fine_make _
    ·exact fine s hs
theorem DkOk.write {d : Dk} (h : DkOk d) : DkOk d.write.2 := by
 have hok2 := h.steps [stAppend 0 (blockB d.waits)] (by intro s hs; simp at hs; subst hs; exact fine_append _ _)
 rw [write_eq]
 split
 ·exact ⟨hok2.room,hok2.used,hok2.sync,hok2.opn,fun _ => rfl,by intro e he; simp at he,by simp,by intro b _ h1; simp at h1⟩
 ·exact hok2
theorem DkOk.waited {d : Dk} (h : DkOk d) {e : Ent} (he : EntOk e) {blk : Nat} (ho : d.opn = some blk) (hfit : d.fits blk e = true) : DkOk { d with waits := d.waits ++ [e] } := by
 refine ⟨h.room,h.used,h.sync,h.opn,fun e1 => ?_,fun x hx => ?_,?_,fun b hb hl => ?_⟩
 ·have : d.opn = none := e1
  rw [ho] at this; cases this
 ·simp at hx
  rcases hx with hx | rfl
  ·exact h.ents x hx
  ·exact he
 ·have := h.most
  unfold Dk.fits at hfit
  simp at hfit ⊢
  rcases hfit with h0 | ⟨h1,_⟩
  ·rw [h0]; simp
  ·omega
 ·have hb' : d.opn = some b := hb
  rw [ho] at hb'
  cases hb'
  unfold Dk.fits at hfit
  simp at hfit hl
  rcases hfit with h0 | ⟨h1,h2⟩
  ·rw [h0] at hl; simp at hl
  ·show (entsB (d.waits ++ [e])).length <= blk
   have : entsB (d.waits ++ [e]) = entsB d.waits ++ entB e := by simp [entsB]
   rw [this,List.length_append]
   exact h2
theorem DkOk.add {d : Dk} (h : DkOk d) {e : Ent} (he : e.put = false -> e.val = []) : DkOk (d.add e).2 := by
 unfold Dk.add
 split
 ·exact h
 ·rename_i hz
  have hek : EntOk e := by
   simp only [not_or,Nat.not_lt] at hz
   exact ⟨hz.1,hz.2.1,hz.2.2,he⟩
  split
  ·exact h
  ·rename_i hd
   split
   ·exact h
   ·rename_i blk ho
    split
    ·rename_i hfit
     exact h.waited hek ho hfit
    ·have hw := h.write
     have hf := write_fine h (by simpa using hd)
     generalize d.write = r at *
     obtain ⟨re,rd⟩ := r
     simp only at *
     split
     ·rename_i h0
      obtain ⟨f1,f2,f3,f4⟩ := hf h0
      exact f1.waited hek (f3.trans ho) (by unfold Dk.fits; rw [f4]; rfl)
     ·exact hw
theorem DkOk.flush {d : Dk} (h : DkOk d) : DkOk d.flush.2 := by
 have fs : ∀ s ∈ [stSync 0],StFine s := by intro s hs; simp at hs; subst hs; exact fine_sync _
 unfold Dk.flush
 split
 ·exact h
 ·split
  ·exact h
  ·split
   ·exact h.steps _ fs
   ·have hw := h.write
    generalize d.write = r at *
    obtain ⟨re,rd⟩ := r
    simp only at *
    split
    ·exact hw.steps _ fs
    ·exact hw
theorem DkOk.disk {room : Int} {d : Dk} (h : diskD room = some d) : DkOk d := by
 unfold diskD at h
 split at h
 ·cases h
 ·cases h
  refine ⟨by simp; omega,by simp [Dk.used,lenF],fun i f hf => ?_,fun b e => (by cases e),fun _ => rfl,fun e he => (by cases he),by simp,fun b e => (by cases e)⟩
  unfold Dk.file at hf
  simp at hf
end Go.Proofs.YtdhgebdbiehchaaGreatDoor
