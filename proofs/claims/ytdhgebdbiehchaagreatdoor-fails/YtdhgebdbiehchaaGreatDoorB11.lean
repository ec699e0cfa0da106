/- On the way: RefLive, RefSlots, RefSlotsL, RefSlots2, RefRead, RefRead2. -/
import Derived.Test.YtdhgebdbiehchaaGreatDoorB08
import Derived.Deep.DeepCutAuto
import Derived.Laws.AppendOwnNone
import Derived.BigQuiet
import Derived.Test.YtdhgebdbiehchaaGreatDoorB03
namespace Go.Proofs.YtdhgebdbiehchaaGreatDoor
open Go.RowKit
set_option linter.unusedSimpArgs false
set_option linter.unusedVariables false
set_option maxRecDepth 100000
set_option maxHeartbeats 3200000
theorem info_said : (Tryz.prog.info? 302).map (fun i => (i.zero,i.size,i.bytes)) = some (some (.agg #[.bool false,.string ⟨#[]⟩,.string ⟨#[]⟩,.int .i64 0,.int .i64 0]),5,56) := by kernel_rfl
def cellsS (l : List Sd) : List Value := l.flatMap fun x => [.bool x.put,.string (S x.key),.string (S x.val),.int .i64 x.blk,.int .i64 x.no]
theorem cellsS_length (l : List Sd) : (cellsS l).length = l.length * 5 := by
 induction l with
 | nil => rfl
 | cons x l ih => simp [cellsS] at *; omega
theorem cellsS_snoc (l : List Sd) (x : Sd) : cellsS (l ++ [x]) = cellsS l ++ [.bool x.put,.string (S x.key),.string (S x.val),.int .i64 x.blk,.int .i64 x.no] := by simp [cellsS]
theorem cellsS_one (l : List Sd) : ∀ u ∈ cellsS l,u.oneCell' = true := by
 intro u hu
 simp only [cellsS,List.mem_flatMap] at hu
 obtain ⟨x,_,hx⟩ := hu
 simp only [List.mem_cons,List.not_mem_nil,or_false] at hx
 rcases hx with rfl | rfl | rfl | rfl | rfl <;> rfl
theorem cellsS_get {l : List Sd} {i : Nat} (h : i < l.length) : (cellsS l)[i * 5]? = some (.bool l[i].put) /\ (cellsS l)[i * 5 + 1]? = some (.string (S l[i].key)) /\ (cellsS l)[i * 5 + 2]? = some (.string (S l[i].val)) /\ (cellsS l)[i * 5 + 3]? = some (.int .i64 l[i].blk) /\ (cellsS l)[i * 5 + 4]? = some (.int .i64 l[i].no) := by
 induction l generalizing i with
 | nil => simp at h
 | cons e es ih =>
  cases i with
  | zero => exact ⟨rfl,rfl,rfl,rfl,rfl⟩
  | succ i =>
   have := ih (i := i) (by simpa using h)
   have e1 : ∀ j,(cellsS (e :: es))[(i + 1) * 5 + j]? = (cellsS es)[i * 5 + j]? := fun j => by
    show ([.bool e.put,.string (S e.key),.string (S e.val),.int .i64 e.blk,.int .i64 e.no] ++ cellsS es)[(i + 1) * 5 + j]? = _
    rw [List.getElem?_append_right (by simp; omega)]
    congr 1
    simp; omega
   exact ⟨(e1 0).trans this.1,(e1 1).trans this.2.1,(e1 2).trans this.2.2.1,(e1 3).trans this.2.2.2.1,(e1 4).trans this.2.2.2.2⟩
theorem own_cellsN {w : World} {base e size n : Nat} {v : Value} {xs : List Value} (h : w.ownsRow base e size v n xs) (hn : 0 < n) : ∃ g cap,v = .slice (some ⟨g,0,none⟩) n cap /\ base <= g /\ g < w.heap.size /\ ∀ j,j < n * size -> w.cell? ⟨g,j,none⟩ = xs[j]? := by
 obtain ⟨h1,h2⟩ := h
 rcases h2 with ⟨_,h0⟩ | ⟨g,cap,cur,rfl,hb,hg,hc,hm,hsz,ht⟩
 ·omega
 ·refine ⟨g,cap,rfl,hb,(Array.getElem?_eq_some_iff.1 hg).1,fun j hj => World.ownsRow.cellAt (w := w) ⟨h1,.inr ⟨g,cap,cur,rfl,hb,hg,hc,hm,hsz,ht⟩⟩ j hj⟩
theorem said_at {w : World} {base n g cap : Nat} {l : List Sd} (hg : ∀ j,j < l.length * 5 -> w.cell? ⟨g,j,none⟩ = (cellsS l)[j]?) {i : Nat} (h : i < l.length) : w.cell? ⟨g,i * 5,none⟩ = some (.bool l[i].put) /\ w.cell? ⟨g,i * 5 + 1,none⟩ = some (.string (S l[i].key)) /\ w.cell? ⟨g,i * 5 + 2,none⟩ = some (.string (S l[i].val)) /\ w.cell? ⟨g,i * 5 + 3,none⟩ = some (.int .i64 l[i].blk) /\ w.cell? ⟨g,i * 5 + 4,none⟩ = some (.int .i64 l[i].no) := by
 obtain ⟨h0,h1,h2,h3,h4⟩ := cellsS_get h
 exact ⟨(hg _ (by omega)).trans h0,(hg _ (by omega)).trans h1,(hg _ (by omega)).trans h2,(hg _ (by omega)).trans h3,(hg _ (by omega)).trans h4⟩
def lastB (l : List Sd) (m q : Nat) : Bool := match l[m]? with
 | none => false
 | some x => x.put && ((l.drop (m + 1)).take (q - (m + 1))).all (fun y => y.key != x.key)
theorem lastB_start {l : List Sd} {m : Nat} (h : m < l.length) : lastB l m (m + 1) = l[m].put := by
 simp [lastB,List.getElem?_eq_getElem h]
theorem lastB_next {l : List Sd} {m q : Nat} (h : m < l.length) (hmq : m + 1 <= q) (hq : q < l.length) (ht : lastB l m q = true) : lastB l m (q + 1) = (l[q].key != l[m].key) := by
 simp only [lastB,List.getElem?_eq_getElem h] at ht ⊢
 have e : (l.drop (m + 1)).take (q + 1 - (m + 1)) = (l.drop (m + 1)).take (q - (m + 1)) ++ [l[q]] := by
  rw [show q + 1 - (m + 1) = (q - (m + 1)) + 1 by omega,List.take_succ_eq_append_getElem (by simp; omega)]
  congr 2
  simp; congr 1; omega
 rw [e,List.all_append,<- Bool.and_assoc,ht]
 simp
theorem lastB_end {l : List Sd} {m q : Nat} (h : m < l.length) (hq : q <= l.length) (hd : lastB l m q = false \/ q = l.length) : liveL (l.drop m) = if lastB l m q = true then l[m] :: liveL (l.drop (m + 1)) else liveL (l.drop (m + 1)) := by
 have hfull : (lastB l m l.length = true) = (l[m].put = true /\ ∀ y ∈ l.drop (m + 1),y.key ≠ l[m].key) := by
  simp only [lastB,List.getElem?_eq_getElem h]
  rw [List.take_of_length_le (by simp)]
  simp
 have hmono : lastB l m q = false -> lastB l m l.length = false := by
  intro hf
  by_cases hx : lastB l m l.length = true
  ·rw [hfull] at hx
   simp only [lastB,List.getElem?_eq_getElem h,hx.1,Bool.true_and] at hf
   rw [List.all_eq_false] at hf
   obtain ⟨y,hy,hyk⟩ := hf
   have := hx.2 y (List.mem_of_mem_take hy)
   simp at hyk
   exact absurd hyk this
  ·simpa using hx
 have he : (lastB l m q = true) = (lastB l m l.length = true) := by
  rcases hd with hd | hd
  ·rw [hd,hmono hd]
  ·rw [hd]
 rw [List.drop_eq_getElem_cons h,liveL]
 simp only [he,hfull]
theorem refLive_any (v : Value) (l : List Sd) (w : World) (base : Nat) (hown : w.ownsRow base 302 5 v l.length (cellsS l)) (hlen : l.length <= 100000000) :
  Calls Tryz.prog 164 #[v] w fun e w' => ∃ v',e = .returned v' /\ w'.ownsRow w.heap.size 302 5 v' (liveL l).length (cellsS (liveL l)) /\ Below w.heap.size w w' := by
 obtain ⟨i0,hi,hz0,hz1,hz2⟩ := info_parts info_said
 by_cases h0 : l.length = 0
 ·obtain ⟨p,c,rfl⟩ := own_len hown
  have hnil : l = [] := List.eq_nil_of_length_eq_zero h0
  subst hnil
  clear hown
  go_enter Tryz.func164,Tryz.ntmps164
  go_wp2
  refine wp_loop_rounds 1 ?_
  rw [rounds_succ]
  go_wp2
  go_ret
  exact ⟨_,rfl,World.ownsRow_nil _ _ _ _,Below.refl _ _⟩
 ·obtain ⟨g,cap,rfl,_,hg,hcell⟩ := own_cellsN hown (by omega)
  have hcap : l.length <= cap := by
   rcases hown.2 with ⟨h,_⟩ | ⟨g',cap',cur,h',_,_,hnc,_⟩
   ·simp at h
   ·simp at h'; omega
  have HC : Hid (∀ j,j < l.length * 5 -> w.cell? ⟨g,j,none⟩ = (cellsS l)[j]?) := hcell
  clear hown hcell
  go_enter Tryz.func164,Tryz.ntmps164
  go_wp2
  go_loopw [3,4] (fun o i wr => ∃ (k : Nat),k <= l.length /\ i = .int .i64 ((k : Int) - 1) /\ wr.ownsRow w.heap.size 302 5 o (liveL (l.drop k)).length (cellsS (liveL (l.drop k))) /\ Below w.heap.size w wr) (fun _ i _ => (intOf i + 1).toNat)
  case atStart => exact ⟨l.length,Nat.le_refl _,rfl,by rw [List.drop_length]; exact World.ownsRow_nil _ _ _ _,Below.refl _ _⟩
  case round =>
   obtain ⟨k,hk,rfl,ho,hb⟩ := hrel
   by_cases hk0 : k = 0
   ·subst hk0
    rw [List.drop_zero] at ho
    have HO : Hid _ := ho
    clear ho
    go_wp2
    go_ret
    exact ⟨_,rfl,HO.out,hb⟩
   ·obtain ⟨m,rfl⟩ : ∃ m,k = m + 1 := ⟨k - 1,by omega⟩
    have hmi : ((m + 1 : Nat) : Int) - 1 = (m : Int) := by omega
    rw [hmi]
    clear hmi hk0
    obtain ⟨W1,rfl⟩ : ∃ W1,W1 = wr := ⟨_,rfl⟩
    have hm : m < l.length := by omega
    have hgw : g < W1.heap.size := Nat.lt_of_lt_of_le hg hb.size
    obtain ⟨y0,y1,y2,y3,y4⟩ := said_at (w := w) (base := 0) (n := 0) (cap := 0) HC.out hm
    replace y0 := (hb.cell (p := ⟨g,m * 5,none⟩) hg).trans y0
    replace y1 := (hb.cell (p := ⟨g,m * 5 + 1,none⟩) hg).trans y1
    replace y2 := (hb.cell (p := ⟨g,m * 5 + 2,none⟩) hg).trans y2
    replace y3 := (hb.cell (p := ⟨g,m * 5 + 3,none⟩) hg).trans y3
    replace y4 := (hb.cell (p := ⟨g,m * 5 + 4,none⟩) hg).trans y4
    have HL : Hid (lastB l m (m + 1) = l[m].put) := lastB_start hm
    have HO : Hid _ := ho
    clear ho
    go_wp2
    go_loopw [5,6] (fun la kk wx => ∃ (q : Nat),m + 1 <= q /\ q <= l.length /\ kk = .int .i64 q /\ la = .bool (lastB l m q) /\ Below W1.heap.size W1 wx) (fun _ kk _ => l.length - (intOf kk).toNat)
    case atStart => exact ⟨m + 1,Nat.le_refl _,hm,by congr 1,by rw [HL.out],Below.refl _ _⟩
    case round =>
     obtain ⟨q,hq1,hq2,rfl,rfl,hbx⟩ := hrel
     obtain ⟨wx,rfl⟩ : ∃ wx,wx = wr := ⟨_,rfl⟩
     have HOX : Hid _ := own_below HO.out hbx (Nat.le_refl _)
     have hbw : Below w.heap.size w wx := hb.trans (hbx.mono hb.size)
     have x0 := (hbx.cell (p := ⟨g,m * 5,none⟩) hgw).trans y0
     have x1 := (hbx.cell (p := ⟨g,m * 5 + 1,none⟩) hgw).trans y1
     have x2 := (hbx.cell (p := ⟨g,m * 5 + 2,none⟩) hgw).trans y2
     have x3 := (hbx.cell (p := ⟨g,m * 5 + 3,none⟩) hgw).trans y3
     have x4 := (hbx.cell (p := ⟨g,m * 5 + 4,none⟩) hgw).trans y4
     clear y0 y1 y2 y3 y4 HO HL
     cases hlast : lastB l m q
     ·have HLV : Hid (liveL (l.drop m) = liveL (l.drop (m + 1))) := by
       show _ = _
       rw [lastB_end hm hq2 (.inl hlast),hlast]; rfl
      clear hlast
      go_wp2
      go_roundw
      case rel => exact ⟨m,by omega,by first | rfl | go_num,by rw [HLV.out]; exact HOX.out,hbw⟩
      case measure => first | (simp [intOf]; omega) | (simp [intOf])
     ·by_cases hqn : q < l.length
      ·obtain ⟨z0,z1,z2,z3,z4⟩ := said_at (w := w) (base := 0) (n := 0) (cap := 0) HC.out hqn
       replace z1 := (hbw.cell (p := ⟨g,q * 5 + 1,none⟩) hg).trans z1
       clear z0 z2 z3 z4 x0 x2 x3 x4
       have HNX : Hid (lastB l m (q + 1) = (l[q].key != l[m].key)) := lastB_next hm hq1 hqn hlast
       have HCMP : Hid ((!((S l[q].key).toList == (S l[m].key).toList)) = (l[q].key != l[m].key)) := by
        show _ = _
        rw [ByteArray.toList_eq,ByteArray.toList_eq,S_data,S_data]; rfl
       generalize (l[q].key != l[m].key) = bb at *
       generalize S l[q].key = s1 at *
       generalize S l[m].key = s2 at *
       clear hlast
       go_wp2_with fail
       go_quiet (fail)
       go_wp2
       go_roundw
       case rel => exact ⟨q + 1,by omega,by omega,by first | rfl | go_num,by rw [HNX.out,<- HCMP.out],below_drewN hbx _⟩
       case measure => first | (simp [intOf]; omega) | (simp [intOf])
      ·have hqe : q = l.length := by omega
       subst hqe
       have HLV : Hid (liveL (l.drop m) = l[m] :: liveL (l.drop (m + 1))) := by
        show _ = _
        rw [lastB_end hm (Nat.le_refl _) (.inr rfl),if_pos hlast]
       clear hlast
       have hll : (liveL (l.drop (m + 1))).length <= 100000000 := by
        have := liveL_le (l.drop (m + 1))
        simp at this; omega
       have hsz := hbw.size
       have hlit := World.ownsRow_lit (base := w.heap.size) (e := 302) (size := 5) wx #[.bool l[m].put,.string (S l[m].key),.string (S l[m].val),.int .i64 l[m].blk,.int .i64 l[m].no] 1 hsz (by decide) rfl
       have HLIT : Hid _ := hlit
       clear hlit
       rcases HOX.out.2 with ⟨ho1,ho2⟩ | ⟨g2,cap2,cur,ho1,hg2,ho2⟩
       ·have HE0 : Hid (liveL (l.drop (m + 1)) = []) := List.eq_nil_of_length_eq_zero ho2
        subst ho1
        go_wp2_with (at_builtin; refine wpList_append_own_none rfl (.tmp 49) (.tmp 50) 256 rfl w.heap.size 302 i0 5 Tryz.underlying256 hi _ _ _ rfl HLIT.out rfl ?_)
        go_roundw
        case rel => exact ⟨m,by omega,by first | rfl | go_num,by rw [HLV.out,HE0.out]; exact HLIT.out,hbw.alloc hsz _⟩
        case measure => first | (simp [intOf]; omega) | (simp [intOf])
       ·subst ho1
        go_wp2_with (at_builtin; refine wpList_append_own _ rfl (.tmp 49) (.tmp 50) 256 rfl w.heap.size 302 i0 (.agg #[.bool false,.string ⟨#[]⟩,.string ⟨#[]⟩,.int .i64 0,.int .i64 0]) 5 56 Tryz.underlying256 hi hz0 hz1 hz2 rfl (by decide) _ _ _ rfl HLIT.out ⟨g2,0,none⟩ (liveL (l.drop (m + 1))).length cap2 (cellsS (liveL (l.drop (m + 1)))) rfl (cellsS_length _) ?_ (cellsS_one _) (by unfold maxLen; omega) (by omega) (by simp; omega) ?_)
        ·intro j u hj
         have hjl : j < (liveL (l.drop (m + 1))).length * 5 := by
          have := (List.getElem?_eq_some_iff.1 hj).1
          rw [cellsS_length] at this; exact this
         exact (World.ownsRow.cellAt (World.ownsRow.alloc HOX.out _) j hjl).trans hj
        ·intro v' w1 hown' hgrow _
         go_wp2
         go_roundw
         case rel => exact ⟨m,by omega,by first | rfl | go_num,by rw [HLV.out,List.length_cons,Nat.add_comm]; exact hown',(hbw.alloc hsz _).grown hgrow (by simp; omega) (own_ge HLIT.out)⟩
         case measure => first | (simp [intOf]; omega) | (simp [intOf])
theorem info_slot : (Tryz.prog.info? 263).map (fun i => (i.zero,i.size,i.bytes)) = some (some (.agg #[.bool false,.int .i64 0,.int .i64 0,.int .i64 0,.int .i64 0]),5,40) := by kernel_rfl
def sltC (n : Nat) : Option Slt -> List Value
 | none => [.bool false,.int .i64 0,.int .i64 0,.int .i64 0,.int .i64 0]
 | some x => [.bool true,.int .i64 x.num,.int .i64 x.blk,.int .i64 x.no,.int .i64 ((x.num % n : Nat) : Int)]
theorem sltC_length (n : Nat) (x : Option Slt) : (sltC n x).length = 5 := by cases x <;> rfl
def cellsT (n : Nat) (t : List (Option Slt)) : List Value := t.flatMap (sltC n)
theorem cellsT_length (n : Nat) (t : List (Option Slt)) : (cellsT n t).length = t.length * 5 := by
 induction t with
 | nil => rfl
 | cons x t ih =>
  show (sltC n x ++ cellsT n t).length = _
  rw [List.length_append,ih,sltC_length,List.length_cons]; omega
theorem cellsT_at {n : Nat} {t : List (Option Slt)} {i : Nat} {x : Option Slt} (h : t[i]? = some x) (j : Nat) (hj : j < 5) : (cellsT n t)[i * 5 + j]? = (sltC n x)[j]? := by
 induction t generalizing i with
 | nil => simp at h
 | cons y t ih =>
  cases i with
  | zero =>
   simp at h; subst h
   show (sltC n y ++ cellsT n t)[0 * 5 + j]? = _
   rw [List.getElem?_append_left (by rw [sltC_length]; omega)]
   congr 1; omega
  | succ i =>
   show (sltC n y ++ cellsT n t)[(i + 1) * 5 + j]? = _
   rw [List.getElem?_append_right (by rw [sltC_length]; omega),sltC_length,show (i + 1) * 5 + j - 5 = i * 5 + j by omega]
   exact ih (by simpa using h)
theorem set5 {α : Type} (l r : List α) (x0 x1 x2 x3 x4 y0 y1 y2 y3 y4 : α) (k : Nat) (h : l.length = k) : (((((l ++ x0 :: x1 :: x2 :: x3 :: x4 :: r).set k y0).set (k + 1) y1).set (k + 2) y2).set (k + 3) y3).set (k + 4) y4 = l ++ y0 :: y1 :: y2 :: y3 :: y4 :: r := by
 subst h
 induction l with
 | nil => rfl
 | cons a l ih => simp
theorem cellsT_set {n : Nat} {t : List (Option Slt)} {i : Nat} (h : i < t.length) (x : Slt) : ((((((cellsT n t).set (i * 5) (.bool true)).set (i * 5 + 1) (.int .i64 x.num)).set (i * 5 + 2) (.int .i64 x.blk)).set (i * 5 + 3) (.int .i64 x.no)).set (i * 5 + 4) (.int .i64 ((x.num % n : Nat) : Int))) = cellsT n (t.set i (some x)) := by
 have e : t = t.take i ++ t[i] :: t.drop (i + 1) := by rw [List.getElem_cons_drop,List.take_append_drop]
 have hl : (t.take i).length = i := by simp; omega
 have e2 : t.set i (some x) = t.take i ++ some x :: t.drop (i + 1) := by
  conv => lhs; rw [e]
  rw [List.set_append_right _ _ (by omega),hl,Nat.sub_self]; rfl
 have c1 : ∀ (l r : List (Option Slt)) (y : Option Slt),cellsT n (l ++ y :: r) = cellsT n l ++ (sltC n y ++ cellsT n r) := fun l r y => by simp [cellsT]
 rw [e2,c1]
 conv => lhs; rw [e,c1]
 cases t[i] with
 | none => exact set5 _ _ _ _ _ _ _ _ _ _ _ _ _ (by rw [cellsT_length,hl])
 | some y => exact set5 _ _ _ _ _ _ _ _ _ _ _ _ _ (by rw [cellsT_length,hl])
theorem made5 (n : Nat) : (madeCells #[.bool false,.int .i64 0,.int .i64 0,.int .i64 0,.int .i64 0] (n * 5)).toList = cellsT n (List.replicate n none) := by
 apply List.ext_getElem?
 intro j
 by_cases hj : j < n * 5
 ·have h5 : j % 5 < 5 := Nat.mod_lt _ (by omega)
  have hd : j / 5 < n := by omega
  have hr : (cellsT n (List.replicate n none))[j]? = (sltC n none)[j % 5]? := by
   have := cellsT_at (n := n) (t := List.replicate n none) (i := j / 5) (x := none) (by rw [List.getElem?_replicate,if_pos hd]) (j % 5) h5
   rwa [show j / 5 * 5 + j % 5 = j by omega] at this
  rw [hr]
  simp [madeCells,hj]
  generalize j % 5 = q at *
  match q,h5 with
  | 0,_ => rfl
  | 1,_ => rfl
  | 2,_ => rfl
  | 3,_ => rfl
  | 4,_ => rfl
 ·have h1 : (cellsT n (List.replicate n none))[j]? = none := List.getElem?_eq_none (by rw [cellsT_length]; simp; omega)
  rw [h1]
  simp [madeCells,hj]
theorem refAway_any (n : Nat) (x : Slt) (a : Nat) (w : World) (ha : a < n) (hn : n <= 5000) :
  Calls Tryz.prog 166 #[.agg #[.bool true,.int .i64 x.num,.int .i64 x.blk,.int .i64 x.no,.int .i64 ((x.num % n : Nat) : Int)],.int .i64 a,.int .i64 n] w fun e w' => e = .returned (.int .i64 (awayN n x a : Nat)) /\ Below w.heap.size w w' := by
 have hh : x.num % n < n := Nat.mod_lt _ (by omega)
 have HA : Hid (awayN n x a = if a < x.num % n then a + n - x.num % n else a - x.num % n) := awayN_ref x ha
 generalize x.num % n = h at *
 by_cases hlt : a < h
 ·go_enter Tryz.func166,Tryz.ntmps166
  go_wp2
  go_ret
  exact ⟨ret_int (by rw [HA.out,if_pos hlt]; omega),(Below.refl _ _).alloc (Nat.le_refl _) _⟩
 ·go_enter Tryz.func166,Tryz.ntmps166
  go_wp2
  go_ret
  exact ⟨ret_int (by rw [HA.out,if_neg hlt]; omega),(Below.refl _ _).alloc (Nat.le_refl _) _⟩
theorem sizeF_stop {f n s : Nat} (h : ¬ s <= 5 * n / 4) : sizeF f n s = s := by
 cases f with
 | zero => rfl
 | succ f => rw [sizeF,if_neg h]
theorem own_store5 {w : World} {base g cap n : Nat} {t : List (Option Slt)} {a : Nat} (x : Slt) (h : w.ownsRow base 263 5 (.slice (some ⟨g,0,none⟩) n cap) n (cellsT n t)) (hl : t.length = n) (ha : a < n) :
  (((((w.setCell ⟨g,a * 5,none⟩ (.bool true)).setCell ⟨g,a * 5 + 1,none⟩ (.int .i64 x.num)).setCell ⟨g,a * 5 + 2,none⟩ (.int .i64 x.blk)).setCell ⟨g,a * 5 + 3,none⟩ (.int .i64 x.no)).setCell ⟨g,a * 5 + 4,none⟩ (.int .i64 ((x.num % n : Nat) : Int))).ownsRow base 263 5 (.slice (some ⟨g,0,none⟩) n cap) n (cellsT n (t.set a (some x))) := by
 rw [<- cellsT_set (by omega) x]
 exact (((((h.stored _ _).1.stored _ _).1.stored _ _).1.stored _ _).1.stored _ _).1
def SlotAt (w : World) (g k : Nat) (n : Nat) (x : Slt) : Prop := w.cell? ⟨g,k,none⟩ = some (.bool true) /\ w.cell? ⟨g,k + 1,none⟩ = some (.int .i64 x.num) /\ w.cell? ⟨g,k + 2,none⟩ = some (.int .i64 x.blk) /\ w.cell? ⟨g,k + 3,none⟩ = some (.int .i64 x.no) /\ w.cell? ⟨g,k + 4,none⟩ = some (.int .i64 ((x.num % n : Nat) : Int))
theorem slot_at {w : World} {base g cap n : Nat} {t : List (Option Slt)} {a : Nat} {x : Slt} (h : w.ownsRow base 263 5 (.slice (some ⟨g,0,none⟩) n cap) n (cellsT n t)) (hx : t[a]? = some (some x)) (ha : a < n) : SlotAt w g (a * 5) n x :=
 ⟨(h.cellAt (a * 5) (by omega)).trans (cellsT_at hx 0 (by omega)),(h.cellAt (a * 5 + 1) (by omega)).trans (cellsT_at hx 1 (by omega)),(h.cellAt (a * 5 + 2) (by omega)).trans (cellsT_at hx 2 (by omega)),(h.cellAt (a * 5 + 3) (by omega)).trans (cellsT_at hx 3 (by omega)),(h.cellAt (a * 5 + 4) (by omega)).trans (cellsT_at hx 4 (by omega))⟩
theorem SlotAt.below {w w' : World} {g k n m : Nat} {x : Slt} (h : SlotAt w g k n x) (hb : Below m w w') (hg : g < m) : SlotAt w' g k n x :=
 ⟨(hb.cell (p := ⟨g,k,none⟩) hg).trans h.1,(hb.cell (p := ⟨g,k + 1,none⟩) hg).trans h.2.1,(hb.cell (p := ⟨g,k + 2,none⟩) hg).trans h.2.2.1,(hb.cell (p := ⟨g,k + 3,none⟩) hg).trans h.2.2.2.1,(hb.cell (p := ⟨g,k + 4,none⟩) hg).trans h.2.2.2.2⟩
theorem keepA {p q r : Addr} {w wx w' : World} {a b c : Option Value} {m : Nat} (h : (wx.cell? p = a /\ wx.cell? q = b /\ wx.cell? r = c) /\ Below m w wx /\ m <= wx.heap.size) (hp : p.block < m) (hq : q.block < m) (hr : r.block < m) (hb : Below wx.heap.size wx w') :
  (w'.cell? p = a /\ w'.cell? q = b /\ w'.cell? r = c) /\ Below m w w' /\ m <= w'.heap.size := by
 obtain ⟨⟨h0,h1,h2⟩,h3,h4⟩ := h
 exact ⟨⟨(hb.cell (p := p) (by omega)).trans h0,(hb.cell (p := q) (by omega)).trans h1,(hb.cell (p := r) (by omega)).trans h2⟩,h3.trans (hb.mono h4),Nat.le_trans h4 hb.size⟩
def BoxAt (w : World) (g : Nat) (n : Nat) (x : Slt) : Prop := (w.cell? ⟨g,0,none⟩ = some (.bool true) /\ w.cell? ⟨g,1,none⟩ = some (.int .i64 x.num) /\ w.cell? ⟨g,2,none⟩ = some (.int .i64 x.blk) /\ w.cell? ⟨g,3,none⟩ = some (.int .i64 x.no) /\ w.cell? ⟨g,4,none⟩ = some (.int .i64 ((x.num % n : Nat) : Int))) /\ ∀ i,w.frozen? ⟨g,i,none⟩ = false
theorem BoxAt.below {w w' : World} {g n m : Nat} {x : Slt} (h : BoxAt w g n x) (hb : Below m w w') (hg : g < m) : BoxAt w' g n x :=
 ⟨⟨(hb.cell (p := ⟨g,0,none⟩) hg).trans h.1.1,(hb.cell (p := ⟨g,1,none⟩) hg).trans h.1.2.1,(hb.cell (p := ⟨g,2,none⟩) hg).trans h.1.2.2.1,(hb.cell (p := ⟨g,3,none⟩) hg).trans h.1.2.2.2.1,(hb.cell (p := ⟨g,4,none⟩) hg).trans h.1.2.2.2.2⟩,fun i => (hb.frozen (p := ⟨g,i,none⟩) hg).trans (h.2 i)⟩
def put5 (w : World) (g k : Nat) (a b c d e : Value) : World := ((((w.setCell ⟨g,k,none⟩ a).setCell ⟨g,k + 1,none⟩ b).setCell ⟨g,k + 2,none⟩ c).setCell ⟨g,k + 3,none⟩ d).setCell ⟨g,k + 4,none⟩ e
theorem put5_far (w : World) {g m : Nat} (h : g ≠ m) (k : Nat) (a b c d e : Value) (j : Nat) : (put5 w g k a b c d e).cell? ⟨m,j,none⟩ = w.cell? ⟨m,j,none⟩ := by
 unfold put5
 rw [World.cell?_setCell_far _ _ _ _ h,World.cell?_setCell_far _ _ _ _ h,World.cell?_setCell_far _ _ _ _ h,World.cell?_setCell_far _ _ _ _ h,World.cell?_setCell_far _ _ _ _ h]
theorem put5_below {w w0 : World} {g n : Nat} (h : Below n w0 w) (hg : n <= g) (k : Nat) (a b c d e : Value) : Below n w0 (put5 w g k a b c d e) :=
 ((((h.setCell hg _).setCell hg _).setCell hg _).setCell hg _).setCell hg _
theorem put5_size (w : World) (g k : Nat) (a b c d e : Value) : (put5 w g k a b c d e).heap.size = w.heap.size := by simp [put5]
theorem grown_set (w : World) (b j : Nat) (u : Value) : w.grownBy (w.setCell ⟨b,j,none⟩ u) (some b) :=
 ⟨rfl,rfl,rfl,by simp,fun k _ hk => heap_setCell_other w ⟨b,j,none⟩ k u (fun e => hk (by simp [e]))⟩
theorem own_set_other {w : World} {base e size g cap n : Nat} {xs : List Value} (h : w.ownsRow base e size (.slice (some ⟨g,0,none⟩) n cap) n xs) {b : Nat} (hb : g ≠ b) (j : Nat) (u : Value) : (w.setCell ⟨b,j,none⟩ u).ownsRow base e size (.slice (some ⟨g,0,none⟩) n cap) n xs :=
 h.kept (grown_set w b j u) (.inr (by simp [Value.ownBlock]; exact hb))
theorem own_put5_other {w : World} {base e size g cap n : Nat} {xs : List Value} (h : w.ownsRow base e size (.slice (some ⟨g,0,none⟩) n cap) n xs) {b : Nat} (hb : g ≠ b) (k : Nat) (v0 v1 v2 v3 v4 : Value) : (put5 w b k v0 v1 v2 v3 v4).ownsRow base e size (.slice (some ⟨g,0,none⟩) n cap) n xs :=
 own_set_other (own_set_other (own_set_other (own_set_other (own_set_other h hb _ _) hb _ _) hb _ _) hb _ _) hb _ _
theorem off_ne {w : World} {b i k : Nat} {u : Value} (h : i ≠ k) : (w.setCell ⟨b,i,none⟩ u).cell? ⟨b,k,none⟩ = w.cell? ⟨b,k,none⟩ := World.cell?_setCell_other _ _ _ _ (by simp [h])
theorem box_put5 {w : World} {b n : Nat} {x : Slt} (h : BoxAt w b n x) (y : Slt) : BoxAt (put5 w b 0 (.bool true) (.int .i64 y.num) (.int .i64 y.blk) (.int .i64 y.no) (.int .i64 ((y.num % n : Nat) : Int))) b n y := by
 obtain ⟨⟨h0,h1,h2,h3,h4⟩,hf⟩ := h
 unfold put5
 simp only [Nat.zero_add]
 refine ⟨⟨?_,?_,?_,?_,?_⟩,fun i => by simp [hf i]⟩
 ·rw [off_ne (by decide),off_ne (by decide),off_ne (by decide),off_ne (by decide),World.cell?_setCell_same _ _ _ h0]
 ·rw [off_ne (by decide),off_ne (by decide),off_ne (by decide),World.cell?_setCell_same _ _ _ (by rw [off_ne (by decide)]; exact h1)]
 ·rw [off_ne (by decide),off_ne (by decide),World.cell?_setCell_same _ _ _ (by rw [off_ne (by decide),off_ne (by decide)]; exact h2)]
 ·rw [off_ne (by decide),World.cell?_setCell_same _ _ _ (by rw [off_ne (by decide),off_ne (by decide),off_ne (by decide)]; exact h3)]
 ·rw [World.cell?_setCell_same _ _ _ (by rw [off_ne (by decide),off_ne (by decide),off_ne (by decide),off_ne (by decide)]; exact h4)]
theorem box_put5_other {w : World} {b n g : Nat} {x : Slt} (h : BoxAt w b n x) (hg : g ≠ b) (k : Nat) (v0 v1 v2 v3 v4 : Value) : BoxAt (put5 w g k v0 v1 v2 v3 v4) b n x := by
 obtain ⟨⟨h0,h1,h2,h3,h4⟩,hf⟩ := h
 exact ⟨⟨(put5_far w hg _ _ _ _ _ _ _).trans h0,(put5_far w hg _ _ _ _ _ _ _).trans h1,(put5_far w hg _ _ _ _ _ _ _).trans h2,(put5_far w hg _ _ _ _ _ _ _).trans h3,(put5_far w hg _ _ _ _ _ _ _).trans h4⟩,fun i => by simp [put5,hf i]⟩
theorem swap_world {wd : World} {B g b n a : Nat} {t : List (Option Slt)} {x y : Slt} (o : Obj) (hot : wd.ownsRow B 263 5 (.slice (some ⟨g,0,none⟩) n n) n (cellsT n t)) (htl : t.length = n) (ha : a < n) (hbx : BoxAt wd b n x) (hgb : g ≠ b) (hb : b < wd.heap.size) :
  ((put5 (put5 wd g (a * 5) (.bool true) (.int .i64 x.num) (.int .i64 x.blk) (.int .i64 x.no) (.int .i64 ((x.num % n : Nat) : Int))) b 0 (.bool true) (.int .i64 y.num) (.int .i64 y.blk) (.int .i64 y.no) (.int .i64 ((y.num % n : Nat) : Int))).alloc o).ownsRow B 263 5 (.slice (some ⟨g,0,none⟩) n n) n (cellsT n (t.set a (some x))) /\
  BoxAt ((put5 (put5 wd g (a * 5) (.bool true) (.int .i64 x.num) (.int .i64 x.blk) (.int .i64 x.no) (.int .i64 ((x.num % n : Nat) : Int))) b 0 (.bool true) (.int .i64 y.num) (.int .i64 y.blk) (.int .i64 y.no) (.int .i64 ((y.num % n : Nat) : Int))).alloc o) b n y :=
 ⟨(own_put5_other (own_store5 x hot htl ha) hgb _ _ _ _ _ _).alloc o,(box_put5 (x := x) (box_put5_other hbx hgb _ _ _ _ _ _) y).below ((Below.refl _ _).alloc (Nat.le_refl _) o) (by rw [put5_size,put5_size]; exact hb)⟩
theorem swap_all {w wd : World} {g b n a xq yq : Nat} {t : List (Option Slt)} {x y : Slt} {c1 c2 : Value} (hyq : y.num % n = yq /\ x.num % n = xq) (hot : wd.ownsRow g 263 5 (.slice (some ⟨g,0,none⟩) n n) n (cellsT n t)) (htl : t.length = n) (ha : a < n) (hbx : BoxAt wd b n x) (hg : w.heap.size + 1 = g) (hgb : g < b) (hb : b < wd.heap.size) (hc : (wd.cell? ⟨w.heap.size,1,none⟩ = some c1 /\ wd.cell? ⟨w.heap.size,2,none⟩ = some c2) /\ Below w.heap.size w wd) (W : World)
  (hW : W = ((((((((((wd.setCell ⟨g,a * 5,none⟩ (.bool true)).setCell ⟨g,a * 5 + 1,none⟩ (.int .i64 x.num)).setCell ⟨g,a * 5 + 2,none⟩ (.int .i64 x.blk)).setCell ⟨g,a * 5 + 3,none⟩ (.int .i64 x.no)).setCell ⟨g,a * 5 + 4,none⟩ (.int .i64 (xq : Int))).setCell ⟨b,0,none⟩ (.bool true)).setCell ⟨b,1,none⟩ (.int .i64 y.num)).setCell ⟨b,2,none⟩ (.int .i64 y.blk)).setCell ⟨b,3,none⟩ (.int .i64 y.no)).setCell ⟨b,4,none⟩ (.int .i64 (yq : Int))).alloc (.cells #[.bool true,.int .i64 y.num,.int .i64 y.blk,.int .i64 y.no,.int .i64 (yq : Int)] 263)) :
  W.ownsRow g 263 5 (.slice (some ⟨g,0,none⟩) n n) n (cellsT n (t.set a (some x))) /\ BoxAt W b n y /\ ((W.cell? ⟨w.heap.size,1,none⟩ = some c1 /\ W.cell? ⟨w.heap.size,2,none⟩ = some c2) /\ Below w.heap.size w W) /\ b < W.heap.size := by
 obtain ⟨hy,hx⟩ := hyq
 have e : W = (put5 (put5 wd g (a * 5) (.bool true) (.int .i64 x.num) (.int .i64 x.blk) (.int .i64 x.no) (.int .i64 (xq : Int))) b 0 (.bool true) (.int .i64 y.num) (.int .i64 y.blk) (.int .i64 y.no) (.int .i64 (yq : Int))).alloc (.cells #[.bool true,.int .i64 y.num,.int .i64 y.blk,.int .i64 y.no,.int .i64 (yq : Int)] 263) := by
  rw [hW]
  simp only [put5,Nat.zero_add]
 have hsw := swap_world (y := y) (.cells #[.bool true,.int .i64 y.num,.int .i64 y.blk,.int .i64 y.no,.int .i64 (yq : Int)] 263) hot htl ha hbx (by omega) hb
 rw [hy,hx,<- e] at hsw
 have hsz : (put5 (put5 wd g (a * 5) (.bool true) (.int .i64 x.num) (.int .i64 x.blk) (.int .i64 x.no) (.int .i64 (xq : Int))) b 0 (.bool true) (.int .i64 y.num) (.int .i64 y.blk) (.int .i64 y.no) (.int .i64 (yq : Int))).heap.size = wd.heap.size := by rw [put5_size,put5_size]
 have hwz := hc.2.size
 refine ⟨hsw.1,hsw.2,⟨⟨?_,?_⟩,?_⟩,?_⟩
 ·rw [e,World.cell?_alloc_lt _ _ _ (by rw [hsz]; show w.heap.size < _; omega),put5_far _ (by omega),put5_far _ (by omega)]
  exact hc.1.1
 ·rw [e,World.cell?_alloc_lt _ _ _ (by rw [hsz]; show w.heap.size < _; omega),put5_far _ (by omega),put5_far _ (by omega)]
  exact hc.1.2
 ·rw [e]
  exact (put5_below (put5_below hc.2 (by omega) _ _ _ _ _ _) (by omega) _ _ _ _ _ _).alloc (by rw [hsz]; omega) _
 ·rw [e]
  have : ((put5 (put5 wd g (a * 5) (.bool true) (.int .i64 x.num) (.int .i64 x.blk) (.int .i64 x.no) (.int .i64 (xq : Int))) b 0 (.bool true) (.int .i64 y.num) (.int .i64 y.blk) (.int .i64 y.no) (.int .i64 (yq : Int))).alloc (.cells #[.bool true,.int .i64 y.num,.int .i64 y.blk,.int .i64 y.no,.int .i64 (yq : Int)] 263)).heap.size = wd.heap.size + 1 := by simp [hsz]
  omega
def Slots2 (W : World) (g k b yq xq : Nat) (y x : Slt) (w' : World) : Prop := ((w'.cell? ⟨g,k,none⟩ = some (.bool true) /\ w'.cell? ⟨g,k + 1,none⟩ = some (.int .i64 y.num) /\ w'.cell? ⟨g,k + 2,none⟩ = some (.int .i64 y.blk) /\ w'.cell? ⟨g,k + 3,none⟩ = some (.int .i64 y.no) /\ w'.cell? ⟨g,k + 4,none⟩ = some (.int .i64 yq)) /\ (w'.cell? ⟨b,0,none⟩ = some (.bool true) /\ w'.cell? ⟨b,1,none⟩ = some (.int .i64 x.num) /\ w'.cell? ⟨b,2,none⟩ = some (.int .i64 x.blk) /\ w'.cell? ⟨b,3,none⟩ = some (.int .i64 x.no) /\ w'.cell? ⟨b,4,none⟩ = some (.int .i64 xq))) /\ Below W.heap.size W w'
theorem slots2_next {W : World} {g k b yq xq : Nat} {y x : Slt} {wx w' : World} (h : Slots2 W g k b yq xq y x wx) (hb : Below wx.heap.size wx w') (hg : g < W.heap.size) (hbb : b < W.heap.size) : Slots2 W g k b yq xq y x w' := by
 obtain ⟨⟨⟨h0,h1,h2,h3,h4⟩,g0,g1,g2,g3,g4⟩,hB⟩ := h
 have hg' : g < wx.heap.size := Nat.lt_of_lt_of_le hg hB.size
 have hb' : b < wx.heap.size := Nat.lt_of_lt_of_le hbb hB.size
 exact ⟨⟨⟨(hb.cell (p := ⟨g,k,none⟩) hg').trans h0,(hb.cell (p := ⟨g,k + 1,none⟩) hg').trans h1,(hb.cell (p := ⟨g,k + 2,none⟩) hg').trans h2,(hb.cell (p := ⟨g,k + 3,none⟩) hg').trans h3,(hb.cell (p := ⟨g,k + 4,none⟩) hg').trans h4⟩,(hb.cell (p := ⟨b,0,none⟩) hb').trans g0,(hb.cell (p := ⟨b,1,none⟩) hb').trans g1,(hb.cell (p := ⟨b,2,none⟩) hb').trans g2,(hb.cell (p := ⟨b,3,none⟩) hb').trans g3,(hb.cell (p := ⟨b,4,none⟩) hb').trans g4⟩,hB.trans (hb.mono hB.size)⟩
theorem kept2 {W : World} {p q : Addr} {a b : Value} (h : W.cell? p = some a /\ W.cell? q = some b) (hp : p.block < W.heap.size) (hq : q.block < W.heap.size) {w' : World} (hb : Below W.heap.size W w') : (w'.cell? p = some a /\ w'.cell? q = some b) /\ Below W.heap.size W w' :=
 ⟨⟨(hb.cell hp).trans h.1,(hb.cell hq).trans h.2⟩,hb⟩
theorem refSlots_any (v : Value) (live : List Sd) (blk seed bits : Int) (w : World) (base : Nat) (hown : w.ownsRow base 302 5 v live.length (cellsS live)) (hlen : live.length <= 2000) (hs0 : 0 <= seed) (hs1 : seed <= 4294967295) (hb0 : 0 <= bits) (hb1 : bits <= 32) (hkeys : ∀ x ∈ live,x.key.length <= 100000) :
  Calls Tryz.prog 165 #[v,.agg #[.int .i64 blk,.int .i64 seed,.int .i64 bits]] w fun e w' => ∃ g,e = .returned (.slice (some ⟨g,0,none⟩) (sizeL live.length) (sizeL live.length)) /\ w'.ownsRow w.heap.size 263 5 (.slice (some ⟨g,0,none⟩) (sizeL live.length) (sizeL live.length)) (sizeL live.length) (cellsT (sizeL live.length) (tableOf seed bits live)) /\ Below w.heap.size w w' := by
 obtain ⟨i0,hi,hz0,hz1,hz2⟩ := info_parts info_slot
 obtain ⟨p,c,rfl⟩ := own_len hown
 have HOWN : Hid (w.ownsRow base 302 5 (.slice p live.length c) live.length (cellsS live)) := hown
 clear hown
 have hn1 := sizeL_bound hlen
 have hn2 : live.length < sizeL live.length := by have := sizeL_big hlen; omega
 have HTB : Hid (tableOf seed bits live = fillL (sizeL live.length) (live.map (sltOf seed bits))) := rfl
 have H12 : Hid (sizeF 12 live.length 4 = sizeL live.length) := rfl
 generalize sizeL live.length = n at *
 go_enter Tryz.func165,Tryz.ntmps165
 go_wp2
 go_loop [5] (fun nn => ∃ (s f : Nat),nn = .int .i64 s /\ (4 <= s /\ s <= 5000) /\ Hid (sizeF f live.length s = n) /\ Hid (5 * live.length / 4 < s * 2 ^ f)) (fun nn => 5000 - (intOf nn).toNat)
 case atStart => exact ⟨4,12,rfl,⟨by omega,by omega⟩,H12,by show 5 * live.length / 4 < 4 * 2 ^ 12; omega⟩
 case round =>
  obtain ⟨s,f,rfl,⟨h4,h5⟩,HS,HP⟩ := hrel
  by_cases hle : s <= 5 * live.length / 4
  ·obtain ⟨f',rfl⟩ : ∃ f',f = f' + 1 := by
    cases f with
    | zero => have := HP.out; simp at this; omega
    | succ f' => exact ⟨f',rfl⟩
   have HS2 : Hid (sizeF f' live.length (2 * s) = n) := by
    show _ = _
    rw [<- HS.out,sizeF,if_pos hle]
   have HP2 : Hid (5 * live.length / 4 < (2 * s) * 2 ^ f') := by
    show _ < _
    have := HP.out
    rw [Nat.pow_succ] at this
    rw [Nat.mul_comm 2 s,Nat.mul_assoc,Nat.mul_comm 2]; exact this
   have h52 : 2 * s <= 5000 := by omega
   clear HS HP
   go_wp2
   go_round
   case rel => exact ⟨2 * s,f',by first | rfl | go_num,⟨by omega,h52⟩,HS2,HP2⟩
   case measure => first | (simp [intOf]; omega) | (simp [intOf])
  ·have hsn : s = n := by rw [<- HS.out,sizeF_stop hle]
   subst hsn
   clear HS HP H12 h4 h5
   go_wp2_with (at_make; refine wpList_make_full _ rfl (.tmp 20) (.tmp 20) 260 rfl (w.heap.size + 1) 263 i0 (.agg #[.bool false,.int .i64 0,.int .i64 0,.int .i64 0,.int .i64 0]) 5 Tryz.underlying260 hi hz0 hz1 .i64 .i64 _ _ s rfl rfl rfl rfl ?_ ?_ ?_ ?_)
   ·first | omega | (rw [hz2]; omega)
   ·unfold maxLen; omega
   ·intro w1 hown1 hgr
    have hown2 : w1.ownsRow (w.heap.size + 1) 263 5 (.slice (some ⟨w.heap.size + 1,0,none⟩) s s) s (cellsT s (fillL s (([] : List Sd).map (sltOf seed bits)))) := by
     rw [made5 s] at hown1
     simpa [fillL] using hown1
    have hB1 : Below (w.heap.size + 1) (w.alloc (.cells #[.int .i64 blk,.int .i64 seed,.int .i64 bits] 29)) w1 := (Below.refl _ _).grown hgr (by simp) (fun _ h => by cases h)
    have hw1 : w.heap.size + 1 < w1.heap.size := by
     obtain ⟨g',cap',he,_,hg',_⟩ := own_cellsN hown2 (by omega)
     simp at he; omega
    have d1 : w1.cell? ⟨w.heap.size,1,none⟩ = some (.int .i64 seed) := by rw [hB1.cell (p := ⟨w.heap.size,1,none⟩) (by simp)]; simp
    have d2 : w1.cell? ⟨w.heap.size,2,none⟩ = some (.int .i64 bits) := by rw [hB1.cell (p := ⟨w.heap.size,2,none⟩) (by simp)]; simp
    have hBw : Below w.heap.size w w1 := ((Below.refl _ _).alloc (Nat.le_refl _) _).trans (hB1.mono (by simp))
    clear hown1 hgr hB1
    go_wp2
    go_loopw [7] (fun i wr => ∃ (k : Nat),k <= live.length /\ i = .int .i64 k /\ wr.ownsRow (w.heap.size + 1) 263 5 (.slice (some ⟨w.heap.size + 1,0,none⟩) s s) s (cellsT s (fillL s ((live.take k).map (sltOf seed bits)))) /\ ((wr.cell? ⟨w.heap.size,1,none⟩ = some (.int .i64 seed) /\ wr.cell? ⟨w.heap.size,2,none⟩ = some (.int .i64 bits)) /\ Below w.heap.size w wr /\ w.heap.size + 1 < wr.heap.size)) (fun i _ => live.length - (intOf i).toNat)
    case atStart => exact ⟨0,Nat.zero_le _,rfl,by rw [List.take_zero]; exact hown2,⟨d1,d2⟩,hBw,hw1⟩
    case round =>
     obtain ⟨k,hk,rfl,hot,⟨⟨e1,e2⟩,hBr,hwr⟩⟩ := hrel
     obtain ⟨W1,rfl⟩ : ∃ W1,W1 = wr := ⟨_,rfl⟩
     clear d1 d2 hBw hw1 hown2
     by_cases hke : k < live.length
     ·obtain ⟨g,cap,he,hgb,hgw,hcell⟩ := own_cellsN HOWN.out (by omega)
      simp only [Value.slice.injEq,true_and] at he
      obtain ⟨rfl,rfl⟩ := he
      obtain ⟨y0,y1,y2,y3,y4⟩ := said_at (w := w) (base := 0) (n := 0) (cap := 0) hcell hke
      replace y1 := (hBr.cell (p := ⟨g,k * 5 + 1,none⟩) hgw).trans y1
      replace y3 := (hBr.cell (p := ⟨g,k * 5 + 3,none⟩) hgw).trans y3
      replace y4 := (hBr.cell (p := ⟨g,k * 5 + 4,none⟩) hgw).trans y4
      clear y0 y2 hcell
      have hkl : (S live[k].key).size <= 100000 := by rw [S_size]; exact hkeys _ (List.getElem_mem hke)
      obtain ⟨r0,r1⟩ := numberI_range seed bits live[k].key hb0 hb1
      have hnum := refnumber_any seed bits (S live[k].key)
      rw [S_data] at hnum
      obtain ⟨N,hN⟩ := Int.eq_ofNat_of_zero_le r0
      rw [hN] at hnum r1
      have HNUM : Hid _ := hnum
      have HSN : Hid ((live.take (k + 1)).map (sltOf seed bits) = (live.take k).map (sltOf seed bits) ++ [⟨N,live[k].blk,live[k].no⟩]) := by
       show _ = _
       rw [List.take_succ_eq_append_getElem hke,List.map_append]
       congr 1
       simp [sltOf,hN]
      clear hN hnum r0
      go_wp2_with fail
      go_region_held3 (fun w' => (w'.cell? ⟨w.heap.size,1,none⟩ = some (.int .i64 seed) /\ w'.cell? ⟨w.heap.size,2,none⟩ = some (.int .i64 bits) /\ w'.cell? ⟨g,k * 5 + 1,none⟩ = some (.string (S live[k].key))) /\ Below W1.heap.size W1 w' /\ W1.heap.size <= w'.heap.size) (first | (exact ⟨⟨e1,e2,y1⟩,(Below.refl _ _).drew,Nat.le_refl _⟩) | (assumption) | (exact keepA (by assumption) (by simp; omega) (by simp; omega) (by simp; omega) (by assumption))) (first | (go_at_call 162; refine (HNUM.out _ hs0 hs1 hb0 hb1 (by omega)).mono ?_; rintro e w' ⟨rfl,hb4⟩))
      obtain ⟨W2,rfl⟩ : ∃ W2,W2 = w' := ⟨_,rfl⟩
      have hbW : Below W1.heap.size W1 W2 := (Below.refl _ _).drew.trans hb4
      have hot2 := own_below hot hbW (Nat.le_refl _)
      have hz3 := (hbW.cell (p := ⟨g,k * 5 + 3,none⟩) (by show g < _; have := hBr.size; omega)).trans y3
      have hz4 := (hbW.cell (p := ⟨g,k * 5 + 4,none⟩) (by show g < _; have := hBr.size; omega)).trans y4
      have hf1 := (hbW.cell (p := ⟨w.heap.size,1,none⟩) (by show w.heap.size < _; omega)).trans e1
      have hf2 := (hbW.cell (p := ⟨w.heap.size,2,none⟩) (by show w.heap.size < _; omega)).trans e2
      have hBw2 : Below w.heap.size w W2 := hBr.trans (hbW.mono hBr.size)
      have hw2 : w.heap.size + 1 < W2.heap.size := Nat.lt_of_lt_of_le hwr hbW.size
      have hgW2 : g < W2.heap.size := by have := hBw2.size; omega
      have HOT2 : Hid (W2.ownsRow (w.heap.size + 1) 263 5 (.slice (some ⟨w.heap.size + 1,0,none⟩) s s) s (cellsT s (fillL s ((live.take k).map (sltOf seed bits))))) := hot2
      have HCF : Hid ((W2.cell? ⟨w.heap.size,1,none⟩ = some (.int .i64 seed) /\ W2.cell? ⟨w.heap.size,2,none⟩ = some (.int .i64 bits)) /\ Below w.heap.size w W2) := ⟨⟨hf1,hf2⟩,hBw2⟩
      have hNs : N % s < s := Nat.mod_lt _ (by omega)
      have hmod : (N : Int) % (s : Int) = ((N % s : Nat) : Int) := by simp
      have hsne : ¬ s = 0 := by omega
      have HFILL : Hid (fillL s ((live.take (k + 1)).map (sltOf seed bits)) = putF s (fillL s ((live.take k).map (sltOf seed bits))) ⟨N,live[k].blk,live[k].no⟩ (N % s)) := by
       show _ = _
       rw [HSN.out,fillL_snoc,putL,fillL_length]
      obtain ⟨ef,hef,hfree⟩ := fillL_free (n := s) (xs := (live.take k).map (sltOf seed bits)) (by simp; omega)
      have HFREE : Hid ((fillL s ((live.take k).map (sltOf seed bits)))[ef]? = some none) := hfree
      have HFL : Hid ((fillL s ((live.take k).map (sltOf seed bits))).length = s) := fillL_length _ _
      clear hot hot2 hb4 hbW y1 y3 y4 e1 e2 hBr hwr hf1 hf2 hBw2 HNUM HSN hfree
      generalize fillL s ((live.take k).map (sltOf seed bits)) = T0 at *
      generalize hT1 : fillL s ((live.take (k + 1)).map (sltOf seed bits)) = T1 at *
      have HT1 : Hid (fillL s ((live.take (k + 1)).map (sltOf seed bits)) = T1) := hT1
      clear hT1
      generalize live[k].blk = vb at *
      generalize live[k].no = vn at *
      obtain ⟨q,hq⟩ : ∃ q,q = N % s := ⟨_,rfl⟩
      rw [<- hq] at hNs hmod
      have HQ : Hid (q = N % s) := hq
      have htm : (N : Int).tmod (s : Int) = (q : Int) := by rw [hq]; rfl
      clear hq
      go_wp2_with fail
      go_cut [9] (fun c wx => c = .pointer (some ⟨W2.heap.size,0,none⟩) /\ ((wx.cell? ⟨W2.heap.size,0,none⟩ = some (.bool true) /\ wx.cell? ⟨W2.heap.size,1,none⟩ = some (.int .i64 N) /\ wx.cell? ⟨W2.heap.size,2,none⟩ = some (.int .i64 vb) /\ wx.cell? ⟨W2.heap.size,3,none⟩ = some (.int .i64 vn) /\ wx.cell? ⟨W2.heap.size,4,none⟩ = some (.int .i64 q)) /\ ∀ i,wx.frozen? ⟨W2.heap.size,i,none⟩ = false) /\ Below W2.heap.size W2 wx /\ W2.heap.size < wx.heap.size)
      case first =>
       go_region_held3 (fun w' => (w'.cell? ⟨g,k * 5 + 3,none⟩ = some (.int .i64 (vb : Int)) /\ w'.cell? ⟨g,k * 5 + 4,none⟩ = some (.int .i64 (vn : Int))) /\ Below W2.heap.size W2 w') (first | (exact kept2 ⟨hz3,hz4⟩ hgW2 hgW2 (Below.refl _ _).drew) | (exact kept2 ⟨hz3,hz4⟩ hgW2 hgW2 (((Below.refl _ _).alloc (Nat.le_refl _) _).drew)) | (exact kept2 ⟨hz3,hz4⟩ hgW2 hgW2 ((((Below.refl _ _).alloc (Nat.le_refl _) _).setCell (by simp) _).drew))) (first | (fail))
       all_goals
        go_wp2_with fail
        go_meet
        refine ⟨rfl,⟨⟨by simp,by simp,by simp,by simp,by simp [htm]⟩,fun i => by simp⟩,?_,by simp⟩
        first | exact ((Below.refl _ _).alloc (Nat.le_refl _) _).drew | exact (((Below.refl _ _).alloc (Nat.le_refl _) _).setCell (by simp) _).drew
      case rest =>
       obtain ⟨rfl,hbox,hbc,hzc⟩ := hcut
       obtain ⟨⟨b0,b1,b2,b3,b4⟩,bf⟩ := hbox
       have HBX : Hid (BoxAt wc W2.heap.size s ⟨N,vb,vn⟩) := by
        refine ⟨⟨b0,b1,b2,b3,?_⟩,bf⟩
        rw [<- HQ.out]; exact b4
       have HOT3 : Hid (wc.ownsRow (w.heap.size + 1) 263 5 (.slice (some ⟨w.heap.size + 1,0,none⟩) s s) s (cellsT s T0)) := own_below HOT2.out hbc (Nat.le_refl _)
       have HCF3 : Hid ((wc.cell? ⟨w.heap.size,1,none⟩ = some (.int .i64 seed) /\ wc.cell? ⟨w.heap.size,2,none⟩ = some (.int .i64 bits)) /\ Below w.heap.size w wc) := ⟨⟨(hbc.cell (p := ⟨w.heap.size,1,none⟩) (by show w.heap.size < _; omega)).trans HCF.out.1.1,(hbc.cell (p := ⟨w.heap.size,2,none⟩) (by show w.heap.size < _; omega)).trans HCF.out.1.2⟩,HCF.out.2.trans (hbc.mono (by omega))⟩
       have HF0 : Hid (T1 = putF s T0 ⟨N,vb,vn⟩ q) := by
        show _ = _
        rw [HFILL.out,HQ.out]
       clear b0 b1 b2 b3 bf hbc HOT2 HCF HFILL hz3 hz4 HQ hmod htm
       go_wp2
       go_loopw [10] (fun ai wx => ∃ (a f : Nat) (t : List (Option Slt)) (x : Slt),ai = .int .i64 a /\ (a < s /\ t.length = s /\ gap s ef a < f) /\ Hid (t[ef]? = some none) /\ Hid (T1 = putF f t x a) /\ wx.ownsRow (w.heap.size + 1) 263 5 (.slice (some ⟨w.heap.size + 1,0,none⟩) s s) s (cellsT s t) /\ BoxAt wx W2.heap.size s x /\ ((wx.cell? ⟨w.heap.size,1,none⟩ = some (.int .i64 seed) /\ wx.cell? ⟨w.heap.size,2,none⟩ = some (.int .i64 bits)) /\ Below w.heap.size w wx) /\ W2.heap.size < wx.heap.size) (fun ai _ => gap s ef (intOf ai).toNat)
       case atStart => exact ⟨q,s,T0,⟨N,vb,vn⟩,rfl,⟨hNs,HFL.out,gap_lt (by omega)⟩,HFREE,HF0,HOT3.out,HBX.out,HCF3.out,hzc⟩
       case round =>
        obtain ⟨a,f,t,x,rfl,⟨ha,htl,hgp⟩,HE,HT,hot,hbx,⟨⟨f1,f2⟩,hBx⟩,hzx⟩ := hrel
        obtain ⟨wx,rfl⟩ : ∃ wx,wx = wr := ⟨_,rfl⟩
        obtain ⟨f',rfl⟩ : ∃ f',f = f' + 1 := ⟨f - 1,by omega⟩
        clear b4 HOT3 HBX HCF3 HF0 hzc HFREE HFL
        have hta : t[a]? = some t[a] := List.getElem?_eq_getElem (by omega)
        obtain ⟨⟨b0,b1,b2,b3,b4⟩,bf⟩ := hbx
        cases hy : t[a] with
        | none =>
         rw [hy] at hta
         have z0 := (hot.cellAt (a * 5) (by omega)).trans (cellsT_at hta 0 (by omega))
         have z1 := (hot.cellAt (a * 5 + 1) (by omega)).trans (cellsT_at hta 1 (by omega))
         have z2 := (hot.cellAt (a * 5 + 2) (by omega)).trans (cellsT_at hta 2 (by omega))
         have z3 := (hot.cellAt (a * 5 + 3) (by omega)).trans (cellsT_at hta 3 (by omega))
         have z4 := (hot.cellAt (a * 5 + 4) (by omega)).trans (cellsT_at hta 4 (by omega))
         simp only [sltC,List.getElem?_cons_zero,List.getElem?_cons_succ] at z0 z1 z2 z3 z4
         have g0 := hot.frozenAt (a * 5)
         have g1 := hot.frozenAt (a * 5 + 1)
         have g2 := hot.frozenAt (a * 5 + 2)
         have g3 := hot.frozenAt (a * 5 + 3)
         have g4 := hot.frozenAt (a * 5 + 4)
         have HT2 : Hid (T1 = t.set a (some x)) := by
          show _ = _
          rw [HT.out,putF,hta]
         have HOT4 : Hid (wx.ownsRow (w.heap.size + 1) 263 5 (.slice (some ⟨w.heap.size + 1,0,none⟩) s s) s (cellsT s t)) := hot
         clear hot HT HE hta hy
         go_wp2
         go_roundw
         case rel => exact ⟨k + 1,by omega,by first | rfl | go_num,by rw [HT1.out,HT2.out]; exact own_store5 x HOT4.out htl ha,⟨(put5_far wx (by omega) (a * 5) _ _ _ _ _ 1).trans f1,(put5_far wx (by omega) (a * 5) _ _ _ _ _ 2).trans f2⟩,put5_below hBx (by omega) (a * 5) _ _ _ _ _,by simp; omega⟩
         case measure => first | (simp [intOf]; omega) | (simp [intOf])
        | some y =>
         rw [hy] at hta
         obtain ⟨z0,z1,z2,z3,z4⟩ := slot_at hot hta ha
         have hne : a ≠ ef := by
          intro h
          subst h
          rw [HE.out] at hta
          cases hta
         have hstep := gap_step ha hef hne
         have hax : (a + 1) % s < s := Nat.mod_lt _ (by omega)
         have HT2 : Hid (T1 = if awayN s y a < awayN s x a then putF f' (t.set a (some x)) y ((a + 1) % s) else putF f' t x ((a + 1) % s)) := by
          show _ = _
          rw [HT.out,putF,hta]
          simp only [htl]
         have HE2 : Hid ((t.set a (some x))[ef]? = some none) := by
          show _ = _
          rw [List.getElem?_set_ne hne]; exact HE.out
         have hmod : ((a : Int) + 1) % (s : Int) = (((a + 1) % s : Nat) : Int) := by simp
         have htm : ((a : Int) + 1).tmod (s : Int) = (((a + 1) % s : Nat) : Int) := rfl
         have HGP : Hid (gap s ef ((a + 1) % s) < f') := by show _ < _; omega
         have HGM : Hid (gap s ef ((a + 1) % s) < gap s ef a) := by show _ < _; omega
         obtain ⟨q2,hq2⟩ : ∃ q2,q2 = (a + 1) % s := ⟨_,rfl⟩
         rw [<- hq2] at hax HT2 hmod htm HGP HGM
         clear hq2 hstep hgp HT hy
         have hA1 := awayN_lt (n := s) (by omega) y a
         have hA2 := awayN_lt (n := s) (by omega) x a
         have HAY := refAway_any s y a
         have HAX := refAway_any s x a
         have hmy : y.num % s < s := Nat.mod_lt _ (by omega)
         have hmx : x.num % s < s := Nat.mod_lt _ (by omega)
         have HCO : Hid ((y.num % s : Nat) = (y.num % s : Nat) /\ (x.num % s : Nat) = x.num % s) := ⟨rfl,rfl⟩
         generalize hyq : y.num % s = yq at *
         generalize hxq : x.num % s = xq at *
         have HYQ : Hid (y.num % s = yq /\ x.num % s = xq) := ⟨hyq,hxq⟩
         clear hyq hxq HCO
         generalize awayN s y a = ay at *
         generalize awayN s x a = ax at *
         have HSB : Hid (BoxAt wx W2.heap.size s x) := ⟨⟨b0,b1,b2,b3,by rw [HYQ.out.2]; exact b4⟩,bf⟩
         have HSS : Hid (SlotAt wx (w.heap.size + 1) (a * 5) s y) := ⟨z0,z1,z2,z3,by rw [HYQ.out.1]; exact z4⟩
         have HOT4 : Hid (wx.ownsRow (w.heap.size + 1) 263 5 (.slice (some ⟨w.heap.size + 1,0,none⟩) s s) s (cellsT s t)) := hot
         clear hot hta
         go_wp2_with fail
         go_cut [72] (fun c wd => c = .bool (decide (ay < ax)) /\ Below wx.heap.size wx wd)
         case first =>
          go_region_held3 (fun w' => ((w'.cell? ⟨w.heap.size + 1,a * 5,none⟩ = some (.bool true) /\ w'.cell? ⟨w.heap.size + 1,a * 5 + 1,none⟩ = some (.int .i64 y.num) /\ w'.cell? ⟨w.heap.size + 1,a * 5 + 2,none⟩ = some (.int .i64 y.blk) /\ w'.cell? ⟨w.heap.size + 1,a * 5 + 3,none⟩ = some (.int .i64 y.no) /\ w'.cell? ⟨w.heap.size + 1,a * 5 + 4,none⟩ = some (.int .i64 yq)) /\ (w'.cell? ⟨W2.heap.size,0,none⟩ = some (.bool true) /\ w'.cell? ⟨W2.heap.size,1,none⟩ = some (.int .i64 x.num) /\ w'.cell? ⟨W2.heap.size,2,none⟩ = some (.int .i64 x.blk) /\ w'.cell? ⟨W2.heap.size,3,none⟩ = some (.int .i64 x.no) /\ w'.cell? ⟨W2.heap.size,4,none⟩ = some (.int .i64 xq))) /\ Below wx.heap.size wx w') (first | (exact ⟨⟨⟨z0,z1,z2,z3,z4⟩,b0,b1,b2,b3,b4⟩,(Below.refl _ _).drew⟩) | (assumption) | (exact slots2_next (by assumption) (by assumption) (by omega) hzx)) (first | (go_at_call_of 166 (Value.agg #[.bool true,.int .i64 y.num,.int .i64 y.blk,.int .i64 y.no,.int .i64 (yq : Int)]); refine (HAY _ ha (by omega)).mono ?_; rintro e w' ⟨rfl,hb4y⟩) | (go_at_call_of 166 (Value.agg #[.bool true,.int .i64 x.num,.int .i64 x.blk,.int .i64 x.no,.int .i64 (xq : Int)]); refine (HAX _ ha (by omega)).mono ?_; rintro e w' ⟨rfl,hb4x⟩))
          all_goals
           go_wp2_with fail
           go_meet
           refine ⟨rfl,?_⟩
           first | exact ((Below.refl _ _).drew.trans hb4y).trans (hb4x.mono hb4y.size) | exact ((Below.refl _ _).drew.trans hb4x).trans (hb4y.mono hb4x.size)
         case rest =>
          obtain ⟨rfl,hbd⟩ := hcut
          obtain ⟨wd,rfl⟩ : ∃ wd,wd = wc := ⟨_,rfl⟩
          clear z0 z1 z2 z3 z4 b0 b1 b2 b3 b4 bf HAY HAX
          have hszd := hbd.size
          have hotd := own_below HOT4.out hbd (Nat.le_refl _)
          have HOTD : Hid (wd.ownsRow (w.heap.size + 1) 263 5 (.slice (some ⟨w.heap.size + 1,0,none⟩) s s) s (cellsT s t)) := hotd
          have HBD : Hid (BoxAt wd W2.heap.size s x) := HSB.out.below hbd hzx
          have HCD : Hid ((wd.cell? ⟨w.heap.size,1,none⟩ = some (.int .i64 seed) /\ wd.cell? ⟨w.heap.size,2,none⟩ = some (.int .i64 bits)) /\ Below w.heap.size w wd) := ⟨⟨(hbd.cell (p := ⟨w.heap.size,1,none⟩) (by show w.heap.size < _; omega)).trans f1,(hbd.cell (p := ⟨w.heap.size,2,none⟩) (by show w.heap.size < _; omega)).trans f2⟩,hBx.trans (hbd.mono hBx.size)⟩
          obtain ⟨z0,z1,z2,z3,z4⟩ := HSS.out.below hbd (by omega)
          obtain ⟨⟨b0,b1,b2,b3,b4⟩,bf⟩ := HBD.out
          rw [HYQ.out.1] at z4
          rw [HYQ.out.2] at b4
          have g0 := hotd.frozenAt (a * 5)
          have g1 := hotd.frozenAt (a * 5 + 1)
          have g2 := hotd.frozenAt (a * 5 + 2)
          have g3 := hotd.frozenAt (a * 5 + 3)
          have g4 := hotd.frozenAt (a * 5 + 4)
          have v0 := bf 0
          have v1 := bf 1
          have v2 := bf 2
          have v3 := bf 3
          have v4 := bf 4
          have hzd : W2.heap.size < wd.heap.size := by omega
          clear hotd bf hBx f1 f2 hbd HSS HSB HOT4
          by_cases hlt : ay < ax
          ·have hd : decide (ay < ax) = true := by simp; omega
           have HT3 : Hid (T1 = putF f' (t.set a (some x)) y q2) := by
            show _ = _
            rw [HT2.out,if_pos hlt]
           rw [hd]
           have hwd : w.heap.size + 1 < wd.heap.size := by omega
           have ha1 : a <= 5000 := by omega
           have n1 : w.heap.size + 1 ≠ W2.heap.size := by omega
           have n2 : W2.heap.size ≠ w.heap.size + 1 := by omega
           have n3 : w.heap.size + 1 ≠ wd.heap.size := by omega
           have n4 : wd.heap.size ≠ w.heap.size + 1 := by omega
           have n5 : W2.heap.size ≠ wd.heap.size := by omega
           have n6 : wd.heap.size ≠ W2.heap.size := by omega
           clear hd HT2 HE hn1 hn2 hlen hs0 hs1 hb0 hb1 hk hgb hgw r1 hkl hgW2 hNs hef hne hA1 hA2 hmy hmx hlt hszd hkeys
           go_wp2
           go_roundw
           case rel =>
            exact ⟨q2,f',t.set a (some x),y,by first | rfl | go_num,⟨hax,by simp [htl],HGP.out⟩,HE2,HT3,swap_all HYQ.out HOTD.out htl ha HBD.out rfl hw2 hzd HCD.out _ rfl⟩
           case measure => simp [intOf]; exact HGM.out
          ·have hd : decide (ay < ax) = false := by simp; omega
           have HT3 : Hid (T1 = putF f' t x q2) := by
            show _ = _
            rw [HT2.out,if_neg hlt]
           rw [hd]
           clear hd HT2 HE2
           go_wp2
           go_roundw
           case rel => exact ⟨q2,f',t,x,by first | rfl | go_num,⟨hax,htl,HGP.out⟩,HE,HT3,HOTD.out,HBD.out,HCD.out,hzd⟩
           case measure => simp [intOf]; exact HGM.out
     ·have hke' : k = live.length := by omega
      subst hke'
      rw [List.take_length,<- HTB.out] at hot
      have HOT : Hid (W1.ownsRow (w.heap.size + 1) 263 5 (.slice (some ⟨w.heap.size + 1,0,none⟩) s s) s (cellsT s (tableOf seed bits live))) := hot
      clear hot
      go_wp2
      go_ret
      exact ⟨_,rfl,own_lower HOT.out (by omega),hBr⟩
theorem own_apart {w : World} {b1 e1 s1 n1 b2 e2 s2 n2 : Nat} {v1 v2 : Value} {x1 x2 : List Value} (h1 : w.ownsRow b1 e1 s1 v1 n1 x1) (h2 : w.ownsRow b2 e2 s2 v2 n2 x2) (he : e1 ≠ e2) : v1.ownBlock = none \/ v1.ownBlock ≠ v2.ownBlock := by
 rcases h1.2 with ⟨rfl,_⟩ | ⟨g,cap,cur,rfl,_,hg,_⟩
 ·exact .inl rfl
 ·rcases h2.2 with ⟨rfl,_⟩ | ⟨g',cap',cur',rfl,_,hg',_⟩
  ·exact .inr (by simp [Value.ownBlock])
  ·right
   intro h
   simp [Value.ownBlock] at h
   subst h
   rw [hg] at hg'
   simp at hg'
   exact he hg'.2
theorem far3r (w2 : World) {n m : Nat} (h : n ≠ m) (a b c : Value) (j : Nat) : (((w2.setCell ⟨n,0,none⟩ a).setCell ⟨n,1,none⟩ b).setCell ⟨n,2,none⟩ c).drew.cell? ⟨m,j,none⟩ = w2.cell? ⟨m,j,none⟩ := by
 show (((w2.setCell ⟨n,0,none⟩ a).setCell ⟨n,1,none⟩ b).setCell ⟨n,2,none⟩ c).cell? ⟨m,j,none⟩ = _
 rw [World.cell?_setCell_far _ _ _ _ h,World.cell?_setCell_far _ _ _ _ h,World.cell?_setCell_far _ _ _ _ h]
def TwoBoxes (W : World) (n m : Nat) (a b c : Value) : Prop := (∃ x y z,W.cell? ⟨n,0,none⟩ = some (.int .i64 x) /\ W.cell? ⟨n,1,none⟩ = some (.int .i64 y) /\ W.cell? ⟨n,2,none⟩ = some (.int .i64 z)) /\ (∀ i,W.frozen? ⟨n,i,none⟩ = false) /\ (W.cell? ⟨m,0,none⟩ = some a /\ W.cell? ⟨m,1,none⟩ = some b /\ W.cell? ⟨m,2,none⟩ = some c) /\ n < m /\ m < W.heap.size
theorem TwoBoxes.below {W W' : World} {n m k : Nat} {a b c : Value} (h : TwoBoxes W n m a b c) (hb : Below k W W') (hk : m < k) : TwoBoxes W' n m a b c := by
 obtain ⟨⟨x,y,z,h0,h1,h2⟩,hf,⟨g0,g1,g2⟩,hn,hm⟩ := h
 have hnk : n < k := by omega
 exact ⟨⟨x,y,z,(hb.cell (p := ⟨n,0,none⟩) hnk).trans h0,(hb.cell (p := ⟨n,1,none⟩) hnk).trans h1,(hb.cell (p := ⟨n,2,none⟩) hnk).trans h2⟩,fun i => (hb.frozen (p := ⟨n,i,none⟩) hnk).trans (hf i),⟨(hb.cell (p := ⟨m,0,none⟩) hk).trans g0,(hb.cell (p := ⟨m,1,none⟩) hk).trans g1,(hb.cell (p := ⟨m,2,none⟩) hk).trans g2⟩,hn,Nat.lt_of_lt_of_le hm hb.size⟩
theorem refhead_any (s : ByteArray) (w : World) (hs' : s.size <= 140737488351232) :
  Calls Tryz.prog 196 #[.string s] w fun e w' => ∃ b sd bt : Int,e = .returned (.tuple #[.agg #[.int .i64 b,.int .i64 sd,.int .i64 bt],.bool (headB s.data.toList)]) /\ (headB s.data.toList = true -> b = hdBlk s.data.toList /\ sd = hdSeed s.data.toList /\ bt = hdBits s.data.toList) /\ Below w.heap.size w w' := by
 by_cases h : 14 <= s.size
 ·refine (refhead_long s w h hs').mono ?_
  rintro e w' ⟨rfl,hb⟩
  exact ⟨_,_,_,rfl,fun _ => ⟨rfl,rfl,rfl⟩,hb⟩
 ·have hf : headB s.data.toList = false := by
   unfold headB
   rw [show decide (14 <= s.data.toList.length) = false by simp; omega]
   rfl
  rw [hf]
  refine (refhead_short s w (by omega)).mono ?_
  rintro e w' ⟨rfl,hb⟩
  exact ⟨_,_,_,rfl,(fun h => by cases h),hb⟩
def ReadIs (w : World) (base : Nat) (v : Value) (rest : Int) (b sd bt : Int) (log : List UInt8) : Prop :=
 (headB log = true -> b = hdBlk log /\ sd = hdSeed log /\ bt = hdBits log /\ rest = (log.length : Int) - ((readL log (hdBlk log) 14).2 : Int) /\ w.ownsRow base 302 5 v (readL log (hdBlk log) 14).1.length (cellsS (readL log (hdBlk log) 14).1) /\ (readL log (hdBlk log) 14).1.length <= 100000000) /\ (headB log = false -> v = .slice none 0 0 /\ rest = 0)
theorem refRead_no (log : ByteArray) (w : World) (hs : log.size <= 100000) (hh : headB log.data.toList = false) :
  Calls Tryz.prog 163 #[.string log] w fun e w' => ∃ v rest b sd bt,e = .returned (.tuple #[v,.int .i64 rest,.agg #[.int .i64 b,.int .i64 sd,.int .i64 bt],.bool (headB log.data.toList)]) /\ ReadIs w' w.heap.size v rest b sd bt log.data.toList /\ Below w.heap.size w w' := by
 obtain ⟨i0,hi,hz0,hz1,hz2⟩ := info_parts info_said
 have hl : log.data.toList.length = log.size := by simp
 go_enter Tryz.func163,Tryz.ntmps163
 go_wp2_with fail
 refine (refhead_any _ _ (by omega)).mono ?_
 rintro e w1 ⟨b,sd,bt,rfl,hcfg,hb1⟩
 have hz1 : w.heap.size < w1.heap.size := by have := hb1.size; simp at this; omega
 have hT : TwoBoxes (w1.alloc (.cells #[.int .i64 b,.int .i64 sd,.int .i64 bt] 29)) w.heap.size w1.heap.size (.int .i64 b) (.int .i64 sd) (.int .i64 bt) := by
  have hA := (Below.refl w1.heap.size w1).alloc (Nat.le_refl _) (.cells #[.int .i64 b,.int .i64 sd,.int .i64 bt] 29)
  refine ⟨⟨0,0,0,?_,?_,?_⟩,fun i => ?_,⟨by simp,by simp,by simp⟩,hz1,by simp⟩
  ·rw [hA.cell (p := ⟨w.heap.size,0,none⟩) hz1,hb1.cell (p := ⟨w.heap.size,0,none⟩) (by simp)]; simp
  ·rw [hA.cell (p := ⟨w.heap.size,1,none⟩) hz1,hb1.cell (p := ⟨w.heap.size,1,none⟩) (by simp)]; simp
  ·rw [hA.cell (p := ⟨w.heap.size,2,none⟩) hz1,hb1.cell (p := ⟨w.heap.size,2,none⟩) (by simp)]; simp
  ·rw [hA.frozen (p := ⟨w.heap.size,i,none⟩) hz1,hb1.frozen (p := ⟨w.heap.size,i,none⟩) (by simp)]; simp
 have hB0 : Below w.heap.size w (w1.alloc (.cells #[.int .i64 b,.int .i64 sd,.int .i64 bt] 29)) := (((Below.refl _ _).alloc (Nat.le_refl _) _).trans (hb1.mono (by simp))).alloc (Nat.le_of_lt hz1) _
 clear hb1
 have hzW : (w1.alloc (.cells #[.int .i64 b,.int .i64 sd,.int .i64 bt] 29)).heap.size = w1.heap.size + 1 := by simp
 rw [hh]
 go_wp2_with fail
 generalize w1.alloc (.cells #[.int .i64 b,.int .i64 sd,.int .i64 bt] 29) = W0 at *
 have HB0 : Hid _ := hB0
 obtain ⟨⟨x,y,z,r0,r1,r2⟩,rf,⟨c0,c1,c2⟩,hn,hm⟩ := hT
 have f0 := rf 0
 have f1 := rf 1
 have f2 := rf 2
 have HH : Hid (headB log.data.toList = false) := hh
 clear rf hcfg hB0 hh
 go_region_held3 (fun w' => w'.cell? ⟨w1.heap.size,0,none⟩ = W0.cell? ⟨w1.heap.size,0,none⟩ /\ w'.cell? ⟨w1.heap.size,1,none⟩ = W0.cell? ⟨w1.heap.size,1,none⟩ /\ w'.cell? ⟨w1.heap.size,2,none⟩ = W0.cell? ⟨w1.heap.size,2,none⟩) (first | (exact ⟨far3r _ (by omega) _ _ _ 0,far3r _ (by omega) _ _ _ 1,far3r _ (by omega) _ _ _ 2⟩) | (exact ⟨rfl,rfl,rfl⟩)) (first | (fail))
 all_goals
  go_wp2
  exact bodyPost_ret (v := .tuple #[.slice none 0 0,.int .i64 0,.agg #[.int .i64 b,.int .i64 sd,.int .i64 bt],.bool false]) (by simp [results,Tryz.results163,go_sem,r0,r1,r2]) rfl ⟨_,_,_,_,_,by rw [HH.out],⟨(fun h => by rw [HH.out] at h; cases h),fun _ => ⟨rfl,rfl⟩⟩,(((HB0.out.setCell (Nat.le_refl _) _).setCell (Nat.le_refl _) _).setCell (Nat.le_refl _) _).drew⟩
theorem cells_five_new (w : World) (t : TypeId) (a b c d e : Value) : ∀ j u,[a,b,c,d,e][j]? = some u -> (w.alloc (.cells #[a,b,c,d,e] t)).cell? ((⟨w.heap.size,0,none⟩ : Addr).add j) = some u := by
 intro j u hj
 match j,hj with
 | 0,hj => simp at hj; subst hj; simp [Addr.add]
 | 1,hj => simp at hj; subst hj; simp [Addr.add]
 | 2,hj => simp at hj; subst hj; simp [Addr.add]
 | 3,hj => simp at hj; subst hj; simp [Addr.add]
 | 4,hj => simp at hj; subst hj; simp [Addr.add]
theorem own_set3 {w : World} {base e size n : Nat} {v : Value} {xs : List Value} (h : w.ownsRow base e size v n xs) {m : Nat} (hm : m < base) (a b c : Value) : (((w.setCell ⟨m,0,none⟩ a).setCell ⟨m,1,none⟩ b).setCell ⟨m,2,none⟩ c).ownsRow base e size v n xs :=
 ownsRow_setCell_below (ownsRow_setCell_below (ownsRow_setCell_below h hm a) hm b) hm c
theorem refRead_yes (log : ByteArray) (w : World) (hs : log.size <= 100000) (hh : headB log.data.toList = true) :
  Calls Tryz.prog 163 #[.string log] w fun e w' => ∃ v rest b sd bt,e = .returned (.tuple #[v,.int .i64 rest,.agg #[.int .i64 b,.int .i64 sd,.int .i64 bt],.bool (headB log.data.toList)]) /\ ReadIs w' w.heap.size v rest b sd bt log.data.toList /\ Below w.heap.size w w' := by
 obtain ⟨i0,hi,hz0,hz1,hz2⟩ := info_parts info_said
 have hl : log.data.toList.length = log.size := by simp
 go_enter Tryz.func163,Tryz.ntmps163
 go_wp2_with fail
 refine (refhead_any _ _ (by omega)).mono ?_
 rintro e w1 ⟨b,sd,bt,rfl,hcfg,hb1⟩
 have hq1 : w.heap.size < w1.heap.size := by have := hb1.size; simp at this; omega
 have hT : TwoBoxes (w1.alloc (.cells #[.int .i64 b,.int .i64 sd,.int .i64 bt] 29)) w.heap.size w1.heap.size (.int .i64 b) (.int .i64 sd) (.int .i64 bt) := by
  have hA := (Below.refl w1.heap.size w1).alloc (Nat.le_refl _) (.cells #[.int .i64 b,.int .i64 sd,.int .i64 bt] 29)
  refine ⟨⟨0,0,0,?_,?_,?_⟩,fun i => ?_,⟨by simp,by simp,by simp⟩,hq1,by simp⟩
  ·rw [hA.cell (p := ⟨w.heap.size,0,none⟩) hq1,hb1.cell (p := ⟨w.heap.size,0,none⟩) (by simp)]; simp
  ·rw [hA.cell (p := ⟨w.heap.size,1,none⟩) hq1,hb1.cell (p := ⟨w.heap.size,1,none⟩) (by simp)]; simp
  ·rw [hA.cell (p := ⟨w.heap.size,2,none⟩) hq1,hb1.cell (p := ⟨w.heap.size,2,none⟩) (by simp)]; simp
  ·rw [hA.frozen (p := ⟨w.heap.size,i,none⟩) hq1,hb1.frozen (p := ⟨w.heap.size,i,none⟩) (by simp)]; simp
 have hB0 : Below w.heap.size w (w1.alloc (.cells #[.int .i64 b,.int .i64 sd,.int .i64 bt] 29)) := (((Below.refl _ _).alloc (Nat.le_refl _) _).trans (hb1.mono (by simp))).alloc (Nat.le_of_lt hq1) _
 clear hb1
 have hzW : (w1.alloc (.cells #[.int .i64 b,.int .i64 sd,.int .i64 bt] 29)).heap.size = w1.heap.size + 1 := by simp
 rw [hh]
 obtain ⟨rfl,rfl,rfl⟩ := hcfg hh
 have HH : Hid (headB log.data.toList = true) := hh
 have h14 : 14 <= log.size := by
  simp only [headB,Bool.and_eq_true,decide_eq_true_eq] at hh
  omega
 clear hcfg hh
 generalize hbk : hdBlk log.data.toList = B at *
 generalize hsd : hdSeed log.data.toList = sdn at *
 generalize hbt : hdBits log.data.toList = btn at *
 have HF : Hid (hdBlk log.data.toList = B /\ hdSeed log.data.toList = sdn /\ hdBits log.data.toList = btn) := ⟨hbk,hsd,hbt⟩
 clear hbk hsd hbt
 go_wp2
 generalize w1.alloc (.cells #[.int .i64 (B : Int),.int .i64 (sdn : Int),.int .i64 (btn : Int)] 29) = W0 at *
 have HT : Hid _ := hT
 have hm0 : w1.heap.size < W0.heap.size := by omega
 clear hT hzW
 go_loopw [8,9] (fun o i wr => ∃ (a : Nat) (acc : List Sd),i = .int .i64 a /\ (14 <= a /\ a <= log.size) /\ wr.ownsRow W0.heap.size 302 5 o acc.length (cellsS acc) /\ acc.length <= 255 * a /\ Below W0.heap.size W0 wr /\ Hid (readL log.data.toList B 14 = (acc ++ (readL log.data.toList B a).1,(readL log.data.toList B a).2))) (fun _ i _ => log.size - (intOf i).toNat)
 case atStart => exact ⟨14,[],rfl,⟨Nat.le_refl _,h14⟩,World.ownsRow_nil _ _ _ _,by simp,Below.refl _ _,by simp [Hid]⟩
 case round =>
  obtain ⟨a,acc,rfl,⟨ha1,ha2⟩,ho,hacc,hbr,HE⟩ := hrel
  obtain ⟨W1,rfl⟩ : ∃ W1,W1 = wr := ⟨_,rfl⟩
  have hT1 := TwoBoxes.below HT.out hbr (by omega)
  obtain ⟨⟨x,y,z,r0,r1,r2⟩,rf,⟨c0,c1,c2⟩,hn,hm⟩ := hT1
  go_wp2_with fail
  refine (refblock_any log a B sdn btn _ (by omega) (by omega)).mono ?_
  rintro e w3 ⟨v,n,rfl,hBI,hb3⟩
  have hb3' : Below W1.heap.size W1 w3 := hb3
  have hq3 : W0.heap.size <= w3.heap.size := Nat.le_trans hbr.size hb3.size
  have hbx : Below W0.heap.size W0 w3 := hbr.trans (hb3.mono hbr.size)
  have how := own_below ho hb3 (Nat.le_refl _)
  have HP : Hid (∀ es k,blockP log.data.toList a B = some (es,k) -> 7 <= k /\ k < 65543 /\ 1 <= es.length /\ es.length <= 255 /\ 14 <= a /\ a + k <= log.data.toList.length) := fun es k h => blockP_some h
  have HN : Hid (blockP log.data.toList a B = none -> readL log.data.toList B a = ([],a)) := readL_none
  have HSM : Hid (∀ es k,blockP log.data.toList a B = some (es,k) -> readL log.data.toList B a = (saids a 0 es ++ (readL log.data.toList B (a + k)).1,(readL log.data.toList B (a + k)).2)) := fun es k h => readL_some h
  clear ho r0 r1 r2 rf c0 c1 c2 hn hm
  obtain ⟨⟨x,y,z,r0,r1,r2⟩,rf,⟨c0,c1,c2⟩,hn,hm⟩ := TwoBoxes.below HT.out hbx (by omega)
  generalize blockP log.data.toList a B = r at *
  rcases r with _ | ⟨es,k⟩
  ·obtain ⟨rfl,rfl⟩ := hBI
   have HR : Hid (readL log.data.toList B 14 = (acc,a)) := by
    show _ = _
    rw [HE.out,HN.out rfl]; simp
   have f0 := rf 0
   have f1 := rf 1
   have f2 := rf 2
   have HB3 : Hid (Below w.heap.size w w3) := hB0.trans (hbx.mono hB0.size)
   have HOW : Hid (w3.ownsRow W0.heap.size 302 5 u8 acc.length (cellsS acc)) := how
   have hwr : IntKind.i64.wrap ((log.size : Int) - (a : Int)) = (log.size : Int) - (a : Int) := by rw [IntKind.wrap_i64]; omega
   clear rf HN HSM HP HE hb3 hb3' hbx how hB0
   go_wp2_with fail
   go_region_held3 (fun w' => w'.cell? ⟨w1.heap.size,0,none⟩ = w3.cell? ⟨w1.heap.size,0,none⟩ /\ w'.cell? ⟨w1.heap.size,1,none⟩ = w3.cell? ⟨w1.heap.size,1,none⟩ /\ w'.cell? ⟨w1.heap.size,2,none⟩ = w3.cell? ⟨w1.heap.size,2,none⟩) (first | (exact ⟨far3r _ (by omega) _ _ _ 0,far3r _ (by omega) _ _ _ 1,far3r _ (by omega) _ _ _ 2⟩) | (exact ⟨rfl,rfl,rfl⟩)) (first | (fail))
   all_goals
    go_wp2
    exact bodyPost_ret (v := .tuple #[u8,.int .i64 ((log.size : Int) - (a : Int)),.agg #[.int .i64 B,.int .i64 sdn,.int .i64 btn],.bool true]) (by simp [results,Tryz.results163,go_sem,r0,r1,r2,hwr]) rfl ⟨_,_,_,_,_,by rw [HH.out],⟨fun _ => ⟨by rw [HF.out.1],by rw [HF.out.2.1],by rw [HF.out.2.2],by rw [HF.out.1,HR.out,hl],by rw [HF.out.1,HR.out]; exact own_lower (own_set3 HOW.out (by omega) _ _ _).drew (by omega),by rw [HF.out.1,HR.out]; exact (by omega : acc.length <= 100000000)⟩,fun h => by rw [HH.out] at h; cases h⟩,(((HB3.out.setCell (Nat.le_refl _) _).setCell (Nat.le_refl _) _).setCell (Nat.le_refl _) _).drew⟩
  ·obtain ⟨rfl,hrow⟩ := hBI
   obtain ⟨k1,k2,k3,k4,_,k5⟩ := HP.out es k rfl
   rw [hl] at k5
   have HR : Hid (readL log.data.toList B 14 = ((acc ++ saids a 0 es) ++ (readL log.data.toList B (a + k)).1,(readL log.data.toList B (a + k)).2)) := by
    show _ = _
    rw [HE.out,HSM.out es k rfl]; simp
   clear HN HSM HP HE rf r0 r1 r2 c0 c1 c2
   have t0 : ((k : Int) == 0) = false := by rw [beq_eq_false_iff_ne]; omega
   obtain ⟨g,cap,rfl,hg0,hg1,_⟩ := own_cellsN hrow (by omega)
   have HROW : Hid (w3.ownsRow W1.heap.size 114 3 (.slice (some ⟨g,0,none⟩) es.length cap) es.length (cellsE es)) := hrow
   have HOW : Hid (w3.ownsRow W0.heap.size 302 5 u8 acc.length (cellsS acc)) := how
   clear hrow how
   go_wp2
   go_loopw [8,12] (fun o i wx => ∃ (j : Nat),j <= es.length /\ i = .int .i64 j /\ (wx.ownsRow W0.heap.size 302 5 o (acc ++ saids a 0 (es.take j)).length (cellsS (acc ++ saids a 0 (es.take j))) /\ wx.ownsRow W1.heap.size 114 3 (.slice (some ⟨g,0,none⟩) es.length cap) es.length (cellsE es)) /\ Below W0.heap.size W0 wx) (fun _ i _ => es.length - (intOf i).toNat)
   case atStart => exact ⟨0,Nat.zero_le _,rfl,⟨by rw [show acc ++ saids a 0 (es.take 0) = acc from by simp [saids]]; exact HOW.out,HROW.out⟩,hbx⟩
   case round =>
    obtain ⟨j,hj,rfl,⟨how,hrow⟩,hbj⟩ := hrel
    obtain ⟨wx,rfl⟩ : ∃ wx,wx = wr := ⟨_,rfl⟩
    by_cases hje : j < es.length
    ·have hll : (acc ++ saids a 0 (es.take j)).length <= 30000000 := by
      rw [List.length_append,saids_length]; simp; omega
     have hce := cellsE_get hje
     have y0 := (hrow.cellAt (j * 3) (by omega)).trans hce.1
     have y1 := (hrow.cellAt (j * 3 + 1) (by omega)).trans hce.2.1
     have y2 := (hrow.cellAt (j * 3 + 2) (by omega)).trans hce.2.2
     have hszj := hbj.size
     have HSX : Hid (acc ++ saids a 0 (es.take (j + 1)) = (acc ++ saids a 0 (es.take j)) ++ [⟨es[j].put,es[j].key,es[j].val,a,j⟩]) := by
      show _ = _
      rw [saids_take hje,List.append_assoc]
     clear hce
     generalize acc ++ saids a 0 (es.take j) = acc2 at *
     go_wp2_with (at_builtin; refine wpList_append_own _ rfl (.tmp 42) (.tmp 50) 256 rfl W0.heap.size 302 i0 (.agg #[.bool false,.string ⟨#[]⟩,.string ⟨#[]⟩,.int .i64 0,.int .i64 0]) 5 56 Tryz.underlying256 hi hz0 hz1 hz2 rfl (by decide) _ _ _ rfl (how.alloc _) ⟨wx.heap.size,0,none⟩ 1 1 [.bool es[j].put,.string (S es[j].key),.string (S es[j].val),.int .i64 (a : Int),.int .i64 (j : Int)] rfl rfl (cells_five_new _ _ _ _ _ _ _) (by simp [Value.oneCell']) (by unfold maxLen; omega) (by omega) (by simp; omega) ?_)
     intro v' w4 hown' hgrow _
     go_wp2
     go_roundw
     case rel => exact ⟨j + 1,by omega,by first | rfl | go_num,⟨by rw [HSX.out,cellsS_snoc,List.length_append]; exact hown',World.ownsRow.kept (hrow.alloc _) hgrow (own_apart hrow how (by decide))⟩,(hbj.alloc hszj _).grown hgrow (by simp; omega) (own_ge how)⟩
     case measure => first | (simp [intOf]; omega) | (simp [intOf])
    ·have hje' : j = es.length := by omega
     subst hje'
     rw [List.take_length] at how
     have hla : (acc ++ saids a 0 es).length <= 255 * (a + k) := by
      rw [List.length_append,saids_length]; omega
     have HOW2 : Hid (wx.ownsRow W0.heap.size 302 5 u8 (acc ++ saids a 0 es).length (cellsS (acc ++ saids a 0 es))) := how
     clear how hrow
     go_wp2
     go_roundw
     case rel => exact ⟨a + k,acc ++ saids a 0 es,by first | rfl | go_num,⟨by omega,by omega⟩,HOW2.out,hla,hbj,HR⟩
     case measure => first | (simp [intOf]; omega) | (simp [intOf])
theorem refRead_any (log : ByteArray) (w : World) (hs : log.size <= 100000) :
  Calls Tryz.prog 163 #[.string log] w fun e w' => ∃ v rest b sd bt,e = .returned (.tuple #[v,.int .i64 rest,.agg #[.int .i64 b,.int .i64 sd,.int .i64 bt],.bool (headB log.data.toList)]) /\ ReadIs w' w.heap.size v rest b sd bt log.data.toList /\ Below w.heap.size w w' := by
 cases hh : headB log.data.toList
 ·have := refRead_no log w hs hh
  rwa [hh] at this
 ·have := refRead_yes log w hs hh
  rwa [hh] at this
end Go.Proofs.YtdhgebdbiehchaaGreatDoor
