/- On the way: RefLive, RefSlots, RefSlotsL, RefSlots2, RefRead, RefRead2, RefIndex, RecEnts, RecBlk, RecFront, TabA, TabB, TabC, RecOpen. -/
import Derived.Test.YtdhgebdbiehchaaGreatDoorB08
import Derived.Deep.DeepCutAuto
import Derived.Laws.AppendOwnNone
import Derived.BigQuiet
import Derived.Test.YtdhgebdbiehchaaGreatDoorB03
import Derived.Test.YtdhgebdbiehchaaGreatDoorB10
import Derived.Test.YtdhgebdbiehchaaGreatDoorB02
namespace Go.Proofs.YtdhgebdbiehchaaGreatDoor
open Go.RowKit
set_option linter.unusedSimpArgs false
set_option linter.unusedVariables false
set_option maxRecDepth 100000
set_option maxHeartbeats 3200000
theorem own_cellsN {w : World} {base e size n : Nat} {v : Value} {xs : List Value} (h : w.ownsRow base e size v n xs) (hn : 0 < n) : ∃ g cap,v = .slice (some ⟨g,0,none⟩) n cap /\ base <= g /\ g < w.heap.size /\ ∀ j,j < n * size -> w.cell? ⟨g,j,none⟩ = xs[j]? := by
 obtain ⟨h1,h2⟩ := h
 rcases h2 with ⟨_,h0⟩ | ⟨g,cap,cur,rfl,hb,hg,hc,hm,hsz,ht⟩
 ·omega
 ·refine ⟨g,cap,rfl,hb,(Array.getElem?_eq_some_iff.1 hg).1,fun j hj => World.ownsRow.cellAt (w := w) ⟨h1,.inr ⟨g,cap,cur,rfl,hb,hg,hc,hm,hsz,ht⟩⟩ j hj⟩
theorem set5 {α : Type} (l r : List α) (x0 x1 x2 x3 x4 y0 y1 y2 y3 y4 : α) (k : Nat) (h : l.length = k) : (((((l ++ x0 :: x1 :: x2 :: x3 :: x4 :: r).set k y0).set (k + 1) y1).set (k + 2) y2).set (k + 3) y3).set (k + 4) y4 = l ++ y0 :: y1 :: y2 :: y3 :: y4 :: r := by
 subst h
 induction l with
 | nil => rfl
 | cons a l ih => simp
theorem sizeF_stop {f n s : Nat} (h : ¬ s <= 5 * n / 4) : sizeF f n s = s := by
 cases f with
 | zero => rfl
 | succ f => rw [sizeF,if_neg h]
def SlotAt (w : World) (g k : Nat) (n : Nat) (x : Slt) : Prop := w.cell? ⟨g,k,none⟩ = some (.bool true) /\ w.cell? ⟨g,k + 1,none⟩ = some (.int .i64 x.num) /\ w.cell? ⟨g,k + 2,none⟩ = some (.int .i64 x.blk) /\ w.cell? ⟨g,k + 3,none⟩ = some (.int .i64 x.no) /\ w.cell? ⟨g,k + 4,none⟩ = some (.int .i64 ((x.num % n : Nat) : Int))
theorem SlotAt.below {w w' : World} {g k n m : Nat} {x : Slt} (h : SlotAt w g k n x) (hb : Below m w w') (hg : g < m) : SlotAt w' g k n x :=
 ⟨(hb.cell (p := ⟨g,k,none⟩) hg).trans h.1,(hb.cell (p := ⟨g,k + 1,none⟩) hg).trans h.2.1,(hb.cell (p := ⟨g,k + 2,none⟩) hg).trans h.2.2.1,(hb.cell (p := ⟨g,k + 3,none⟩) hg).trans h.2.2.2.1,(hb.cell (p := ⟨g,k + 4,none⟩) hg).trans h.2.2.2.2⟩
theorem keepA {p q r : Addr} {w wx w' : World} {a b c : Option Value} {m : Nat} (h : (wx.cell? p = a /\ wx.cell? q = b /\ wx.cell? r = c) /\ Below m w wx /\ m <= wx.heap.size) (hp : p.block < m) (hq : q.block < m) (hr : r.block < m) (hb : Below wx.heap.size wx w') :
  (w'.cell? p = a /\ w'.cell? q = b /\ w'.cell? r = c) /\ Below m w w' /\ m <= w'.heap.size := by
 obtain ⟨⟨h0,h1,h2⟩,h3,h4⟩ := h
 exact ⟨⟨(hb.cell (p := p) (by omega)).trans h0,(hb.cell (p := q) (by omega)).trans h1,(hb.cell (p := r) (by omega)).trans h2⟩,h3.trans (hb.mono h4),Nat.le_trans h4 hb.size⟩
def BoxAt (w : World) (g : Nat) (n : Nat) (x : Slt) : Prop := (w.cell? ⟨g,0,none⟩ = some (.bool true) /\ w.cell? ⟨g,1,none⟩ = some (.int .i64 x.num) /\ w.cell? ⟨g,2,none⟩ = some (.int .i64 x.blk) /\ w.cell? ⟨g,3,none⟩ = some (.int .i64 x.no) /\ w.cell? ⟨g,4,none⟩ = some (.int .i64 ((x.num % n : Nat) : Int))) /\ ∀ i,w.frozen? ⟨g,i,none⟩ = false
theorem BoxAt.below {w w' : World} {g n m : Nat} {x : Slt} (h : BoxAt w g n x) (hb : Below m w w') (hg : g < m) : BoxAt w' g n x :=
 ⟨⟨(hb.cell (p := ⟨g,0,none⟩) hg).trans h.1.1,(hb.cell (p := ⟨g,1,none⟩) hg).trans h.1.2.1,(hb.cell (p := ⟨g,2,none⟩) hg).trans h.1.2.2.1,(hb.cell (p := ⟨g,3,none⟩) hg).trans h.1.2.2.2.1,(hb.cell (p := ⟨g,4,none⟩) hg).trans h.1.2.2.2.2⟩,fun i => (hb.frozen (p := ⟨g,i,none⟩) hg).trans (h.2 i)⟩
theorem grown_set (w : World) (b j : Nat) (u : Value) : w.grownBy (w.setCell ⟨b,j,none⟩ u) (some b) :=
 ⟨rfl,rfl,rfl,by simp,fun k _ hk => heap_setCell_other w ⟨b,j,none⟩ k u (fun e => hk (by simp [e]))⟩
theorem own_set_other {w : World} {base e size g cap n : Nat} {xs : List Value} (h : w.ownsRow base e size (.slice (some ⟨g,0,none⟩) n cap) n xs) {b : Nat} (hb : g ≠ b) (j : Nat) (u : Value) : (w.setCell ⟨b,j,none⟩ u).ownsRow base e size (.slice (some ⟨g,0,none⟩) n cap) n xs :=
 h.kept (grown_set w b j u) (.inr (by simp [Value.ownBlock]; exact hb))
theorem off_ne {w : World} {b i k : Nat} {u : Value} (h : i ≠ k) : (w.setCell ⟨b,i,none⟩ u).cell? ⟨b,k,none⟩ = w.cell? ⟨b,k,none⟩ := World.cell?_setCell_other _ _ _ _ (by simp [h])

theorem own_apart {w : World} {b1 e1 s1 n1 b2 e2 s2 n2 : Nat} {v1 v2 : Value} {x1 x2 : List Value} (h1 : w.ownsRow b1 e1 s1 v1 n1 x1) (h2 : w.ownsRow b2 e2 s2 v2 n2 x2) (he : e1 ≠ e2) : v1.ownBlock = none \/ v1.ownBlock ≠ v2.ownBlock := by
 rcases h1.2 with ⟨rfl,_⟩ | ⟨g,cap,cur,rfl,_,hg,_⟩
 ·exact .inl rfl
 ·rcases h2.2 with ⟨rfl,_⟩ | ⟨g',cap',cur',rfl,_,hg',_⟩
  ·exact .inr (by simp [Value.ownBlock])
  ·right
   intro h
   simp [Value.ownBlock] at h
   subst h
   rw [hg] at hg'
   simp at hg'
   exact he hg'.2
def TwoBoxes (W : World) (n m : Nat) (a b c : Value) : Prop := (∃ x y z,W.cell? ⟨n,0,none⟩ = some (.int .i64 x) /\ W.cell? ⟨n,1,none⟩ = some (.int .i64 y) /\ W.cell? ⟨n,2,none⟩ = some (.int .i64 z)) /\ (∀ i,W.frozen? ⟨n,i,none⟩ = false) /\ (W.cell? ⟨m,0,none⟩ = some a /\ W.cell? ⟨m,1,none⟩ = some b /\ W.cell? ⟨m,2,none⟩ = some c) /\ n < m /\ m < W.heap.size
theorem TwoBoxes.below {W W' : World} {n m k : Nat} {a b c : Value} (h : TwoBoxes W n m a b c) (hb : Below k W W') (hk : m < k) : TwoBoxes W' n m a b c := by
 obtain ⟨⟨x,y,z,h0,h1,h2⟩,hf,⟨g0,g1,g2⟩,hn,hm⟩ := h
 have hnk : n < k := by omega
 exact ⟨⟨x,y,z,(hb.cell (p := ⟨n,0,none⟩) hnk).trans h0,(hb.cell (p := ⟨n,1,none⟩) hnk).trans h1,(hb.cell (p := ⟨n,2,none⟩) hnk).trans h2⟩,fun i => (hb.frozen (p := ⟨n,i,none⟩) hnk).trans (hf i),⟨(hb.cell (p := ⟨m,0,none⟩) hk).trans g0,(hb.cell (p := ⟨m,1,none⟩) hk).trans g1,(hb.cell (p := ⟨m,2,none⟩) hk).trans g2⟩,hn,Nat.lt_of_lt_of_le hm hb.size⟩

theorem ent1_key {l : List UInt8} {e : Ent} {n : Nat} (h : ent1 l = some (e,n)) : e.key.length <= 20 := by
 unfold ent1 at h
 split at h
 ·rename_i kd k v r
  split at h
  ·cases h
  ·rename_i hc
   split at h
   ·simp at h; obtain ⟨rfl,_⟩ := h; simp; omega
   ·split at h
    ·simp at h; obtain ⟨rfl,_⟩ := h; simp; omega
    ·cases h
 ·cases h
theorem entsF_keys (n : Nat) (l : List UInt8) (es : List Ent) (h : entsF n l = some es) : ∀ e ∈ es,e.key.length <= 20 := by
 induction n generalizing l es with
 | zero =>
  rw [entsF] at h
  split at h
  ·cases h; simp
  ·cases h
 | succ n ih =>
  rw [entsF] at h
  split at h
  ·cases h; simp
  ·cases he : ent1 l with
   | none => rw [he] at h; cases h
   | some x =>
    obtain ⟨e,m⟩ := x
    rw [he] at h
    simp only at h
    cases hx : entsF n (l.drop m) with
    | none => rw [hx] at h; cases h
    | some y =>
     rw [hx] at h
     cases h
     intro z hz
     rcases List.mem_cons.1 hz with rfl | hz
     ·exact ent1_key he
     ·exact ih _ _ hx z hz
theorem blockP_keys {log : List UInt8} {a : Nat} {blk : Int} {es : List Ent} {k : Nat} (h : blockP log a blk = some (es,k)) : ∀ e ∈ es,e.key.length <= 20 := by
 unfold blockP at h
 split at h
 ·cases h
 ·split at h
  ·cases h
  ·unfold blkTail at h
   split at h
   ·rename_i es' hes
    split at h
    ·cases h
    ·simp only [Option.some.injEq,Prod.mk.injEq] at h
     obtain ⟨rfl,_⟩ := h
     exact entsF_keys _ _ _ hes
   ·cases h
theorem saids_keys {a i : Nat} {es : List Ent} (h : ∀ e ∈ es,e.key.length <= 20) : ∀ x ∈ saids a i es,x.key.length <= 20 := by
 induction es generalizing i with
 | nil => simp [saids]
 | cons e es ih =>
  intro x hx
  rcases List.mem_cons.1 hx with rfl | hx
  ·exact h e List.mem_cons_self
  ·exact ih (fun e he => h e (List.mem_cons_of_mem _ he)) x hx
theorem readF_keys (log : List UInt8) (blk : Int) (n a : Nat) : ∀ x ∈ (readF n log blk a).1,x.key.length <= 20 := by
 induction n generalizing a with
 | zero => simp [readF]
 | succ n ih =>
  rw [readF]
  cases h : blockP log a blk with
  | none => simp
  | some y =>
   obtain ⟨es,k⟩ := y
   intro x hx
   rcases List.mem_append.1 hx with hx | hx
   ·exact saids_keys (blockP_keys h) x hx
   ·exact ih _ x hx
def indexV (r : Option (List UInt8)) : Value := match r with
 | none => .tuple #[.string ⟨#[]⟩,.int .i64 3]
 | some l => .tuple #[.string (S l),.int .i64 0]
theorem info_rent : (Tryz.prog.info? 106).map (fun i => (i.zero,i.size,i.bytes)) = some (some (.agg #[.bool false,.string ⟨#[]⟩,.string ⟨#[]⟩]),3,40) := by kernel_rfl
def entsN : Nat -> List UInt8 -> Option (List Ent)
 | 0,l => if l.isEmpty then some [] else none
 | n + 1,l => match ent1 l with
  | none => none
  | some (e,m) => (entsN n (l.drop m)).map (e :: ·)
theorem entsN_some {n : Nat} {l : List UInt8} {e : Ent} {m : Nat} (h : ent1 l = some (e,m)) : entsN (n + 1) l = (entsN n (l.drop m)).map (e :: ·) := by rw [entsN,h]
theorem entsN_none {n : Nat} {l : List UInt8} (h : ent1 l = none) : entsN (n + 1) l = none := by rw [entsN,h]
theorem entsN_iff (n : Nat) (l : List UInt8) (es : List Ent) : entsN n l = some es ↔ ents l = some es /\ es.length = n := by
 induction n generalizing l es with
 | zero =>
  unfold entsN
  constructor
  ·intro h
   split at h
   ·rename_i he
    have : l = [] := by simpa using he
    subst this
    cases h
    exact ⟨rfl,rfl⟩
   ·cases h
  ·rintro ⟨h1,h2⟩
   have : es = [] := List.eq_nil_of_length_eq_zero h2
   subst this
   by_cases hl : l = []
   ·subst hl; rfl
   ·cases he : ent1 l with
    | none => rw [ents_none hl he] at h1; cases h1
    | some x =>
     obtain ⟨e,m⟩ := x
     rw [ents_some he] at h1
     cases hx : ents (l.drop m) with
     | none => rw [hx] at h1; cases h1
     | some y => rw [hx] at h1; cases h1
 | succ n ih =>
  cases he : ent1 l with
  | none =>
   rw [entsN_none he]
   constructor
   ·intro h; cases h
   ·rintro ⟨h1,h2⟩
    by_cases hl : l = []
    ·subst hl
     rw [ents_nil] at h1
     cases h1
     cases h2
    ·rw [ents_none hl he] at h1; cases h1
  | some x =>
   obtain ⟨e,m⟩ := x
   rw [entsN_some he,ents_some he]
   constructor
   ·intro h
    cases hx : entsN n (l.drop m) with
    | none => rw [hx] at h; cases h
    | some y =>
     rw [hx] at h
     cases h
     obtain ⟨h1,h2⟩ := (ih (l.drop m) y).1 hx
     rw [h1]
     exact ⟨rfl,by simp [h2]⟩
   ·rintro ⟨h1,h2⟩
    cases hx : ents (l.drop m) with
    | none => rw [hx] at h1; cases h1
    | some y =>
     rw [hx] at h1
     cases h1
     rw [(ih (l.drop m) y).2 ⟨hx,by simpa using h2⟩]
     rfl
def EntsNIs (w : World) (base : Nat) (v : Value) (ok : Bool) (r : Option (List Ent)) : Prop :=
 match r with
 | none => ok = false /\ ∃ p n c,v = .slice p n c
 | some es => ok = true /\ w.ownsRow base 106 3 v es.length (cellsE es)
theorem entR_at {l : List UInt8} : (ent1 l = none /\ entR l = .tuple #[.agg #[.bool false,.string ⟨#[]⟩,.string ⟨#[]⟩],.string ⟨#[]⟩,.bool false]) \/ (∃ e n,ent1 l = some (e,n) /\ entR l = .tuple #[.agg #[.bool e.put,.string (S e.key),.string (S e.val)],.string (S (l.drop n)),.bool true]) := by
 cases h : ent1 l with
 | none => exact .inl ⟨rfl,entR_none h⟩
 | some x =>
  obtain ⟨e,n⟩ := x
  exact .inr ⟨e,n,rfl,entR_some h⟩
theorem readEntries_any (s : ByteArray) (count : Nat) (w : World) (hs : s.size <= 100000000) (hc : count <= 255) :
  Calls Tryz.prog 187 #[.string s,.int .i64 count] w fun e w' => ∃ v ok,e = .returned (.tuple #[v,.bool ok]) /\ EntsNIs w' w.heap.size v ok (entsN count s.data.toList) /\ Below w.heap.size w w' := by
 obtain ⟨i0,hi,hz0,hz1,hz2⟩ := info_parts info_rent
 go_enter Tryz.func187,Tryz.ntmps187
 go_wp2_with (at_make; refine wpList_make_own _ rfl _ (.tmp 10) 160 rfl w.heap.size 106 i0 (.agg #[.bool false,.string ⟨#[]⟩,.string ⟨#[]⟩]) 3 Tryz.underlying160 hi hz0 hz1 .i64 .i64 _ count rfl rfl rfl ?_ ?_ ?_ ?_)
 ·rw [hz2]; omega
 ·unfold maxLen; omega
 ·omega
 ·intro w1 hown hgr
  have hb1 : Below w.heap.size w w1 := (Below.refl _ _).grown hgr (Nat.le_refl _) (fun _ h => by cases h)
  clear hgr
  go_wp2
  go_loopw [0,6,13] (fun s' o i wr => ∃ (k : Nat) (t : ByteArray) (acc : List Ent),k <= count /\ s' = .string t /\ t.size <= s.size /\ i = .int .i64 k /\ wr.ownsRow w.heap.size 106 3 o acc.length (cellsE acc) /\ acc.length = k /\ Below w.heap.size w wr /\ Hid (entsN count s.data.toList = (entsN (count - k) t.data.toList).map (acc ++ ·))) (fun _ _ i _ => count - (intOf i).toNat)
  case atStart => exact ⟨0,s,[],Nat.zero_le _,rfl,Nat.le_refl _,rfl,hown,rfl,hb1,by simp [Hid]⟩
  case round =>
   obtain ⟨k,t,acc,hk,rfl,hts,rfl,ho,hacc,hb,HE⟩ := hrel
   have hsz := hb.size
   have HACC : Hid (acc.length = k) := hacc
   have hal : acc.length <= 255 := by omega
   clear hacc
   by_cases hlt : k < count
   ·have hck : count - k = (count - (k + 1)) + 1 := by omega
    go_wp2_with fail
    refine (readEntry_any t _ (by omega)).mono ?_
    rintro e w2 ⟨rfl,hb2⟩
    have how := own_below ho hb2 (Nat.le_refl _)
    have hbw : Below w.heap.size w w2 := hb.trans (hb2.mono hb.size)
    have hsz2 := hbw.size
    rcases entR_at (l := t.data.toList) with ⟨h1,h2⟩ | ⟨en,n,h1,h2⟩
    ·have HN : Hid (entsN count s.data.toList = none) := by
      show _ = _
      rw [HE.out,hck,entsN_none h1]; rfl
     rw [h2]
     clear h1 h2 HE hck
     go_wp2
     go_ret2
     exact ⟨_,_,rfl,by rw [HN.out]; exact ⟨rfl,_,_,_,rfl⟩,hbw.alloc hsz2 _⟩
    ·have hn := ent1_pos h1
     have HN : Hid (entsN count s.data.toList = (entsN (count - (k + 1)) (S (t.data.toList.drop n)).data.toList).map ((acc ++ [en]) ++ ·)) := by
      show _ = _
      rw [HE.out,hck,entsN_some h1,S_data,Option.map_map]
      congr 1
      funext x
      simp
     have hts2 : (S (t.data.toList.drop n)).size <= s.size := by rw [S_size]; simp; omega
     rw [h2]
     clear h1 h2 HE hck hn
     generalize S (t.data.toList.drop n) = t2 at *
     have HO : Hid (w2.ownsRow w.heap.size 106 3 u6 acc.length (cellsE acc)) := how
     have HW : Hid (Below w.heap.size w w2) := hbw
     clear ho how hb hb2 hbw
     go_wp2_with (at_builtin; refine wpList_append_own _ rfl (.tmp 23) (.tmp 25) 160 rfl w.heap.size 106 i0 (.agg #[.bool false,.string ⟨#[]⟩,.string ⟨#[]⟩]) 3 40 Tryz.underlying160 hi hz0 hz1 hz2 rfl (by decide) _ _ _ rfl ((HO.out.alloc _).alloc _) ⟨w2.heap.size + 1,0,none⟩ 1 1 [.bool en.put,.string (S en.key),.string (S en.val)] rfl rfl ?_ (by simp [Value.oneCell']) (by unfold maxLen; omega) (by omega) (by simp; omega) ?_)
     ·have h5 := cells_three_new (w2.alloc (.cells #[.bool en.put,.string (S en.key),.string (S en.val)] 106)) 106 (.bool en.put) (.string (S en.key)) (.string (S en.val))
      rwa [show (w2.alloc (.cells #[.bool en.put,.string (S en.key),.string (S en.val)] 106)).heap.size = w2.heap.size + 1 by simp] at h5
     ·intro v' w4 hown' hgrow _
      go_wp2
      go_roundw
      case rel => exact ⟨k + 1,t2,acc ++ [en],by omega,rfl,hts2,by first | rfl | go_num,by rw [cellsE_snoc,List.length_append]; exact hown',by rw [List.length_append,HACC.out]; rfl,((HW.out.alloc hsz2 _).alloc (by simp; omega) _).grown hgrow (by simp; omega) (own_ge HO.out),HN⟩
      case measure => first | (simp [intOf]; omega) | (simp [intOf])
   ·have hke : k = count := by omega
    subst hke
    rw [Nat.sub_self] at HE
    obtain ⟨p,c,rfl⟩ := own_len ho
    by_cases ht : t.size = 0
    ·have ht0 : t.data.toList = [] := List.eq_nil_of_length_eq_zero (by simp [ht])
     have HN : Hid (entsN k s.data.toList = some acc) := by
      show _ = _
      rw [HE.out,ht0]; simp [entsN]
     have t1 : (t.toList == []) = true := by rw [ByteArray.toList_eq,ht0]; rfl
     clear HE ht0 ht
     have HO : Hid (wr.ownsRow w.heap.size 106 3 (.slice p acc.length c) acc.length (cellsE acc)) := ho
     clear ho
     go_wp2
     go_ret2
     exact ⟨_,_,rfl,by rw [HN.out]; exact ⟨by simp,HO.out⟩,hb⟩
    ·have ht0 : t.data.toList ≠ [] := by
      intro h
      apply ht
      have := congrArg List.length h
      simpa using this
     have HN : Hid (entsN k s.data.toList = none) := by
      show _ = _
      rw [HE.out,entsN,if_neg (by simpa using ht0)]; rfl
     have t1 : (t.toList == []) = false := by
      rw [ByteArray.toList_eq,beq_eq_false_iff_ne]; exact ht0
     clear HE ht0 ht ho
     go_wp2
     go_ret2
     exact ⟨_,_,rfl,by rw [HN.out]; exact ⟨by simp,_,_,_,rfl⟩,hb⟩
def recTail (ok : Bool) (r : Option (List Ent)) (size : Nat) : Option (List Ent × Nat) := match r with
 | none => none
 | some es => if ok = true then some (es,7 + size) else none
theorem blockP_rec (log : List UInt8) (a : Nat) (blk : Int) (h14 : 14 <= a) (h3 : a + 3 <= log.length) : blockP log a blk = if (log.getD a 0).toNat = 0 \/ (1 < (log.getD a 0).toNat /\ blk < blkSize log a) \/ log.length < a + 7 + blkSize log a then none else recTail (sealedB ((log.drop a).take (7 + blkSize log a))) (entsN (log.getD a 0).toNat ((log.drop (a + 3)).take (blkSize log a))) (blkSize log a) := by
 unfold blockP
 by_cases h1 : log.length < a + 7
 ·rw [if_pos (.inr h1),if_pos (.inr (.inr (by omega)))]
 ·rw [if_neg (by omega)]
  by_cases h2 : log.length < a + 7 + blkSize log a
  ·rw [if_pos h2,if_pos (.inr (.inr h2))]
  ·rw [if_neg h2]
   generalize (log.getD a 0).toNat = c
   generalize blkSize log a = z at *
   generalize sealedB ((log.drop a).take (7 + z)) = ok
   generalize (log.drop (a + 3)).take z = l
   by_cases hc : c = 0 \/ (1 < c /\ blk < z)
   ·rw [if_pos (by rcases hc with h | h; exact .inl h; exact .inr (.inl h))]
    unfold blkTail
    split
    ·rename_i es _
     rw [if_pos]
     by_cases he : es.length = c
     ·rcases hc with h | h
      ·exact .inl (by omega)
      ·exact .inr (.inr (by omega))
     ·exact .inr (.inl he)
    ·rfl
   ·rw [if_neg (by rintro (h | h | h); exact hc (.inl h); exact hc (.inr h); exact h2 h)]
    cases hN : entsN c l with
    | none =>
     unfold blkTail recTail
     split
     ·rename_i es hes
      rw [if_pos]
      by_cases he : es.length = c
      ·rw [(entsN_iff c l es).2 ⟨hes,he⟩] at hN; cases hN
      ·exact .inr (.inl he)
     ·rfl
    | some es =>
     obtain ⟨h4,h5⟩ := (entsN_iff c l es).1 hN
     rw [h4]
     unfold blkTail recTail
     cases ok
     ·rfl
     ·simp only [if_true]
      rw [if_neg (by omega)]
def RBlockIs (w : World) (base : Nat) (v : Value) (n : Int) (r : Option (List Ent × Nat)) : Prop :=
 match r with
 | none => v = .slice none 0 0 /\ n = 0
 | some (es,k) => n = k /\ w.ownsRow base 106 3 v es.length (cellsE es)
def BlkBoxes (w : World) (blk : Int) (W : World) : Prop := (W.cell? ⟨w.heap.size,0,none⟩ = some (.int .i64 blk) /\ W.cell? ⟨w.heap.size + 1,0,none⟩ = some (.slice none 0 0) /\ W.cell? ⟨w.heap.size + 1,1,none⟩ = some (.int .i64 0)) /\ (∀ i,W.frozen? ⟨w.heap.size + 1,i,none⟩ = false) /\ Below w.heap.size w W /\ w.heap.size + 1 < W.heap.size
theorem BlkBoxes.below {w W W' : World} {blk : Int} (h : BlkBoxes w blk W) (hb : Below W.heap.size W W') : BlkBoxes w blk W' := by
 obtain ⟨⟨h0,h1,h2⟩,hf,hB,hz⟩ := h
 have hz0 : w.heap.size < W.heap.size := by omega
 exact ⟨⟨(hb.cell (p := ⟨w.heap.size,0,none⟩) hz0).trans h0,(hb.cell (p := ⟨w.heap.size + 1,0,none⟩) hz).trans h1,(hb.cell (p := ⟨w.heap.size + 1,1,none⟩) hz).trans h2⟩,fun i => (hb.frozen (p := ⟨w.heap.size + 1,i,none⟩) hz).trans (hf i),hB.trans (hb.mono hB.size),Nat.lt_of_lt_of_le hz hb.size⟩
theorem blkBoxes_new (w : World) (blk seed bits : Int) : BlkBoxes w blk ((w.alloc (.cells #[.int .i64 blk,.int .i64 seed,.int .i64 bits] 29)).alloc (.cells #[.slice none 0 0,.int .i64 0] 162)) := by
 have hA := (Below.refl (w.heap.size + 1) (w.alloc (.cells #[.int .i64 blk,.int .i64 seed,.int .i64 bits] 29))).alloc (by simp) (.cells #[.slice none 0 0,.int .i64 0] 162)
 have hz : (w.alloc (.cells #[.int .i64 blk,.int .i64 seed,.int .i64 bits] 29)).heap.size = w.heap.size + 1 := by simp
 refine ⟨⟨?_,?_,?_⟩,fun i => ?_,((Below.refl _ _).alloc (Nat.le_refl _) _).alloc (by simp) _,by simp⟩
 ·rw [hA.cell (p := ⟨w.heap.size,0,none⟩) (by simp)]; simp
 ·rw [<- hz]; simp
 ·rw [<- hz]; simp
 ·rw [<- hz]; simp
theorem readBlock_any (log : ByteArray) (a : Nat) (blk seed bits : Int) (w : World) (hlog : log.size <= 140737488351232) (ha : a <= 4294967296) (hH : HalvesAt w) :
  Calls Tryz.prog 147 #[.string log,.agg #[.int .i64 blk,.int .i64 seed,.int .i64 bits],.int .i64 a] w fun e w' => ∃ v n,e = .returned (.tuple #[.agg #[v,.int .i64 n],.bool (blockP log.data.toList a blk).isSome]) /\ RBlockIs w' w.heap.size v n (blockP log.data.toList a blk) /\ Below w.heap.size w w' := by
 have hl : log.data.toList.length = log.size := by simp
 have HH : Hid (HalvesAt w) := hH
 clear hH
 by_cases h1 : a < 14 \/ log.size < a + 3
 ·have HN : Hid (blockP log.data.toList a blk = none) := by
   show _ = _
   rw [blockP,if_pos (by rw [hl]; omega)]
  rcases (show a < 14 \/ (14 <= a /\ log.size < a + 3) from by omega) with h2 | ⟨h2,h3⟩
  all_goals
   clear h1
   go_enter Tryz.func147,Tryz.ntmps147
   go_wp2
   exact bodyPost_ret (v := .tuple #[.agg #[.slice none 0 0,.int .i64 0],.bool false]) (by simp [results,Tryz.results147,go_sem]) rfl ⟨_,_,by rw [HN.out]; rfl,by rw [HN.out]; exact ⟨rfl,rfl⟩,((Below.refl _ _).alloc (Nat.le_refl _) _).alloc (by simp) _⟩
 ·have h2 : 14 <= a /\ a + 3 <= log.size := by omega
  obtain ⟨h2,h3⟩ := h2
  have HP : Hid (blockP log.data.toList a blk = _) := blockP_rec log.data.toList a blk h2 (by omega)
  have hgd : (log.data.toList.getD a 0).toNat = log[a].toNat := by
   rw [List.getD,List.getElem?_eq_getElem (by omega)]; rfl
  have HB : Hid (blkSize log.data.toList a = highL ((log.data.toList.drop (a + 1)).take 2)) := rfl
  have hbs : blkSize log.data.toList a < 65536 := by
   have := highL_lt ((log.data.toList.drop (a + 1)).take 2)
   have h4 := pow256_le (show ((log.data.toList.drop (a + 1)).take 2).length <= 2 by simp; omega)
   rw [<- HB.out] at this
   omega
  rw [hgd,hl] at HP
  have c0 := idx_run log a (by omega) (a : Int) rfl
  have c1 := cut_run log (a + 1) 2 (by omega) ((a : Int) + 1) ((a : Int) + 3) (by omega) (by omega)
  have hw0 := w64b log[a]
  have hwl := log[a].toNat_lt
  have m1 : IntKind.i64.wrap ((a : Int) + 1) = (a : Int) + 1 := by rw [IntKind.wrap_i64]; omega
  have m3 : IntKind.i64.wrap ((a : Int) + 3) = (a : Int) + 3 := by rw [IntKind.wrap_i64]; omega
  have hwx : IntKind.i64.wrap (log[a].toNat : Int) = (log[a].toNat : Int) := by rw [IntKind.wrap_i64]; omega
  obtain ⟨sl,hsl⟩ : ∃ s,s = S ((log.data.toList.drop (a + 1)).take 2) := ⟨_,rfl⟩
  rw [<- hsl] at c1
  have hsz : sl.size <= 7 := by rw [hsl,S_size]; simp; omega
  have HLO : Hid (∀ wx : World,Calls Tryz.prog 145 #[.string sl] wx fun e w' => e = .returned (.int .i64 (blkSize log.data.toList a : Nat)) /\ w' = wx) := fun wx => by
   have := lowRead_any sl wx hsz
   rw [hsl,S_data,<- HB.out] at this
   rw [hsl]; exact this
  clear hsl HB hgd hsz
  generalize blkSize log.data.toList a = z at *
  go_enter Tryz.func147,Tryz.ntmps147
  go_wp2_with fail
  have hBX := blkBoxes_new w blk seed bits
  generalize (w.alloc (.cells #[.int .i64 blk,.int .i64 seed,.int .i64 bits] 29)).alloc (.cells #[.slice none 0 0,.int .i64 0] 162) = W0 at *
  have HBX : Hid (BlkBoxes w blk W0) := hBX
  clear hBX
  go_cut [8,9] (fun c8 c9 wx => c8 = .int .i64 (log[a].toNat : Int) /\ c9 = .int .i64 (z : Int) /\ Below W0.heap.size W0 wx)
  case first =>
   go_region_held3 (fun w' => W0.heap.size <= w'.heap.size) (first | (simp; omega) | (simp)) (first | (go_at_call 145; refine (HLO.out _).mono ?_; rintro e w' ⟨rfl,rfl⟩))
   all_goals
    go_wp2_with fail
    go_meet
    refine ⟨by first | rfl | rw [hwx],rfl,?_⟩
    first | exact (Below.refl _ _).drew | exact Below.refl _ _ | exact below_drewN (Below.refl _ _) _
  case rest =>
   obtain ⟨rfl,rfl,hbc⟩ := hcut
   have HBC : Hid (BlkBoxes w blk wc) := HBX.out.below hbc
   have HHC : Hid (HalvesAt wc) := HH.out.below HBC.out.2.2.1 HH.out.1
   have HBCz : w.heap.size + 1 < wc.heap.size := HBC.out.2.2.2
   clear c0 c1 HLO HBX hbc HH
   by_cases hbad : log[a].toNat = 0 \/ (1 < log[a].toNat /\ blk < z) \/ log.size < a + 7 + z
   ·have HN : Hid (blockP log.data.toList a blk = none) := by
     show _ = _
     rw [HP.out,if_pos hbad]
    clear HP
    obtain ⟨⟨d0,r0,r1⟩,rf,hB,hzz⟩ := HBC.out
    have f0 := rf 0
    have f1 := rf 1
    have HB : Hid (Below w.heap.size w wc) := hB
    clear rf hB HHC HBC
    rcases (show log[a].toNat = 0 \/ (log[a].toNat ≠ 0 /\ 1 < log[a].toNat /\ blk < z) \/ (log[a].toNat ≠ 0 /\ 1 < log[a].toNat /\ ¬ blk < z /\ log.size < a + 7 + z) \/ (log[a].toNat ≠ 0 /\ ¬ 1 < log[a].toNat /\ log.size < a + 7 + z) from by omega) with k1 | ⟨k1,k2,k3⟩ | ⟨k1,k2,k3,k4⟩ | ⟨k1,k2,k4⟩
    all_goals
     clear hbad
     go_wp2
     exact bodyPost_ret (v := .tuple #[.agg #[.slice none 0 0,.int .i64 0],.bool false]) (by simp [results,Tryz.results147,go_sem,r0,r1]) rfl ⟨_,_,by rw [HN.out]; rfl,by rw [HN.out]; exact ⟨rfl,rfl⟩,(HB.out.setCell (Nat.le_succ _) _).setCell (Nat.le_succ _) _⟩
   ·have k0 : log[a].toNat ≠ 0 := by omega
    have k1 : ¬ (1 < log[a].toNat /\ blk < z) := by omega
    have k2 : a + 7 + z <= log.size := by omega
    have HQ : Hid (blockP log.data.toList a blk = recTail (sealedB ((log.data.toList.drop a).take (7 + z))) (entsN log[a].toNat ((log.data.toList.drop (a + 3)).take z)) z) := by
     show _ = _
     rw [HP.out,if_neg hbad]
    clear HP hbad
    have c2 := cut_run log (a + 3) z (by omega) ((a : Int) + 3) ((a : Int) + 3 + (z : Int)) (by omega) (by omega)
    have c3 := cut_run log a (7 + z) (by omega) (a : Int) ((a : Int) + 3 + (z : Int) + 4) rfl (by omega)
    have hl2 : ((log.data.toList.drop (a + 3)).take z).length <= 100000000 := by simp; omega
    have hl3 : ((log.data.toList.drop a).take (7 + z)).length <= 100000000 := by simp; omega
    generalize (log.data.toList.drop (a + 3)).take z = L1 at *
    generalize (log.data.toList.drop a).take (7 + z) = L2 at *
    have hs1 : (S L1).size <= 100000000 := by rw [S_size]; exact hl2
    have hs2 : (S L2).size <= 9223372036854775807 := by rw [S_size]; omega
    have HRE : Hid (∀ wx : World,Calls Tryz.prog 187 #[.string (S L1),.int .i64 (log[a].toNat : Int)] wx fun e w' => ∃ v ok,e = .returned (.tuple #[v,.bool ok]) /\ EntsNIs w' wx.heap.size v ok (entsN log[a].toNat L1) /\ Below wx.heap.size wx w') := fun wx => by
     have := readEntries_any (S L1) log[a].toNat wx hs1 (by omega)
     rwa [S_data] at this
    have HHO : Hid (∀ wx : World,HalvesAt wx -> Calls Tryz.prog 144 #[.string (S L2)] wx fun e w' => e = .returned (.bool (sealedB L2)) /\ Below wx.heap.size wx w') := fun wx hx => by
     have := holds_any (S L2) wx hs2 hx
     rwa [S_data] at this
    clear hs1 hs2 hl2 hl3
    obtain ⟨⟨d0,r0,r1⟩,rf,hB,hzz⟩ := HBC.out
    have t0 : ((log[a].toNat : Int) == 0) = false := by rw [beq_eq_false_iff_ne]; omega
    have t9 : ¬ (log.size : Int) - 4 < (a : Int) + 3 + (z : Int) := by omega
    have t8 : (a : Int) + 3 + (z : Int) <= (log.size : Int) - 4 := by omega
    rcases (show (1 < log[a].toNat /\ ¬ blk < (z : Int)) \/ ¬ 1 < log[a].toNat from by omega) with ⟨k3,k4⟩ | k3
    all_goals
     clear k1
     go_wp2_with fail
     refine (HRE.out _).mono ?_
     rintro e w2 ⟨v,ok,rfl,hEI,hb2⟩
     have HB2 : Hid (BlkBoxes w blk w2) := HBC.out.below hb2
     have HH2 : Hid (HalvesAt w2) := HHC.out.below hb2 HHC.out.1
     obtain ⟨⟨d0',r0',r1'⟩,rf',hB',hzz'⟩ := HB2.out
     clear d0 r0 r1 rf hB hzz HRE HBC HHC c2
     have f0 := rf' 0
     have f1 := rf' 1
     clear rf'
     generalize entsN log[a].toNat L1 = r at *
     rcases r with _ | es
     ·obtain ⟨rfl,pv,nv,cv,rfl⟩ := hEI
      have HN : Hid (blockP log.data.toList a blk = none) := HQ.out
      clear HQ HHO
      go_wp2
      exact bodyPost_ret (v := .tuple #[.agg #[.slice none 0 0,.int .i64 0],.bool false]) (by simp [results,Tryz.results147,go_sem,r0',r1']) rfl ⟨_,_,by rw [HN.out]; rfl,by rw [HN.out]; exact ⟨rfl,rfl⟩,(HB2.out.2.2.1.setCell (Nat.le_succ _) _).setCell (Nat.le_succ _) _⟩
     ·obtain ⟨rfl,hrow⟩ := hEI
      obtain ⟨pv,cv,rfl⟩ := own_len hrow
      have HROW : Hid (w2.ownsRow wc.heap.size 106 3 (.slice pv es.length cv) es.length (cellsE es)) := hrow
      clear hrow
      go_wp2_with fail
      refine (HHO.out _ HH2.out).mono ?_
      rintro e w3 ⟨rfl,hb3⟩
      have HB3 : Hid (BlkBoxes w blk w3) := HB2.out.below hb3
      have HROW3 : Hid (w3.ownsRow wc.heap.size 106 3 (.slice pv es.length cv) es.length (cellsE es)) := own_below HROW.out hb3 (Nat.le_refl _)
      clear d0' r0' r1' hB' hzz' HH2 HHO c3 HROW f0 f1
      obtain ⟨⟨d0,r0,r1⟩,rf,hB,hzz⟩ := HB3.out
      have f0 := rf 0
      have f1 := rf 1
      clear rf
      generalize sealedB L2 = ok at *
      cases ok
      ·have HN : Hid (blockP log.data.toList a blk = none) := HQ.out
       clear HQ
       go_wp2
       exact bodyPost_ret (v := .tuple #[.agg #[.slice none 0 0,.int .i64 0],.bool false]) (by simp [results,Tryz.results147,go_sem,r0,r1]) rfl ⟨_,_,by rw [HN.out]; rfl,by rw [HN.out]; exact ⟨rfl,rfl⟩,(HB3.out.2.2.1.setCell (Nat.le_succ _) _).setCell (Nat.le_succ _) _⟩
      ·have HN : Hid (blockP log.data.toList a blk = some (es,7 + z)) := HQ.out
       have hwr : IntKind.i64.wrap ((a : Int) + 3 + (z : Int) + 4 - (a : Int)) = 7 + (z : Int) := by rw [IntKind.wrap_i64]; omega
       have hbw : w.heap.size + 1 < wc.heap.size := HBCz
       clear HQ
       go_wp2
       exact bodyPost_ret (v := .tuple #[.agg #[.slice pv es.length cv,.int .i64 (7 + (z : Int))],.bool true]) (by simp [results,Tryz.results147,go_sem,r0,r1]; try omega) rfl ⟨_,_,by rw [HN.out]; rfl,by rw [HN.out]; exact ⟨by simp,own_lower (ownsRow_setCell_below (ownsRow_setCell_below HROW3.out (by exact hbw) _) (by exact hbw) _) (by omega)⟩,(HB3.out.2.2.1.setCell (Nat.le_succ _) _).setCell (Nat.le_succ _) _⟩
theorem sumOf_any (s : ByteArray) (w : World) (hs : s.size <= 9223372036854775807) :
  Calls Tryz.prog 96 #[.string s] w fun e w' => e = .returned (.int .i64 (sumI s.data.toList)) /\ Below w.heap.size w w' := by
 have h0 : (w.alloc (.cells #[.string s] 9)).cell? ⟨w.heap.size,0,none⟩ = some (.string s) := by simp
 have HS := hash1_any w.heap.size 1 s _ h0 hs
 go_enter Tryz.func96,Tryz.ntmps96
 go_wp2_with fail
 refine HS.mono ?_
 rintro e w1 ⟨H,rfl,g0,g1,HF,rfl⟩
 have hr : 0 <= H % 4294967296 /\ H % 4294967296 < 4294967296 := by omega
 go_wp2
 go_ret
 refine ⟨ret_int ?_,(Below.refl _ _).alloc (Nat.le_refl _) _⟩
 rw [sumI,<- HF.out]
def ixOK (l : List UInt8) : Bool := decide (20 <= l.length) && (l.take 2 == [73,88]) && sealedB (l.take 20) && (decide (ixN l ≠ 0) && decide (l.length = 20 + 10 * ixN l + 4))
def ixLive (l : List UInt8) : Nat := highL ((l.drop 2).take 2)
def frontV (l : List UInt8) : Value := if ixOK l = true then .tuple #[.agg #[.int .i64 (ixLive l),.int .i64 (ixN l),.int .i64 (ixFar l),.int .i64 (ixSize l),.int .i64 (ixSum l)],.string (S ((l.drop 20).take (10 * ixN l))),.bool true] else .tuple #[.agg #[.int .i64 0,.int .i64 0,.int .i64 0,.int .i64 0,.int .i64 0],.string ⟨#[]⟩,.bool false]
theorem readFront_no (s : ByteArray) (w : World) (hs : s.size <= 140737488351232) (hH : HalvesAt w) (h : s.size < 20 \/ (20 <= s.size /\ (s.data.toList.take 2 == [73,88]) = false) \/ (20 <= s.size /\ (s.data.toList.take 2 == [73,88]) = true /\ sealedB (s.data.toList.take 20) = false)) :
  Calls Tryz.prog 139 #[.string s] w fun e w' => e = .returned (.tuple #[.agg #[.int .i64 0,.int .i64 0,.int .i64 0,.int .i64 0,.int .i64 0],.string ⟨#[]⟩,.bool false]) /\ Below w.heap.size w w' := by
 have E2 : Hid ((s.extract 0 2).toList = s.data.toList.take 2) := by show _ = _; rw [ByteArray.toList_eq,cut_list,List.drop_zero]
 have E20 : Hid ((s.extract 0 20).data.toList = s.data.toList.take 20) := by show _ = _; rw [cut_list,List.drop_zero]
 have HH : Hid (HalvesAt w) := hH
 clear hH
 rcases h with h1 | ⟨h1,h2⟩ | ⟨h1,h2,h3⟩
 ·go_enter Tryz.func139,Tryz.ntmps139
  go_wp2
  exact bodyPost_ret (v := .tuple #[.agg #[.int .i64 0,.int .i64 0,.int .i64 0,.int .i64 0,.int .i64 0],.string ⟨#[]⟩,.bool false]) (by simp [results,Tryz.results139,go_sem]) rfl ⟨rfl,(Below.refl _ _).alloc (Nat.le_refl _) _⟩
 ·have t1 : ((s.extract 0 2).toList == [73,88]) = false := by rw [E2.out]; exact h2
  have t2 : ((s.extract 0 2).toList != [73,88]) = true := by rw [bne,t1]; rfl
  clear h2
  go_enter Tryz.func139,Tryz.ntmps139
  go_wp2
  exact bodyPost_ret (v := .tuple #[.agg #[.int .i64 0,.int .i64 0,.int .i64 0,.int .i64 0,.int .i64 0],.string ⟨#[]⟩,.bool false]) (by simp [results,Tryz.results139,go_sem]) rfl ⟨rfl,(Below.refl _ _).alloc (Nat.le_refl _) _⟩
 ·have t1 : ((s.extract 0 2).toList == [73,88]) = true := by rw [E2.out]; exact h2
  have t2 : ((s.extract 0 2).toList != [73,88]) = false := by rw [bne,t1]; rfl
  have H3 : Hid (sealedB (s.data.toList.take 20) = false) := h3
  clear h2 h3
  go_enter Tryz.func139,Tryz.ntmps139
  go_wp2_with fail
  refine (holds_any _ _ ?_ ?_).mono ?_
  ·simp; omega
  ·exact HH.out.below ((Below.refl w.heap.size w).alloc (Nat.le_refl _) _) HH.out.1
  rintro e w1 ⟨rfl,hb1⟩
  rw [E20.out,H3.out]
  have hz1 : w.heap.size < w1.heap.size := by have := hb1.size; simp at this; omega
  have r0 : w1.cell? ⟨w.heap.size,0,none⟩ = some (.int .i64 0) := by rw [hb1.cell (p := ⟨w.heap.size,0,none⟩) (by simp)]; simp
  have r1 : w1.cell? ⟨w.heap.size,1,none⟩ = some (.int .i64 0) := by rw [hb1.cell (p := ⟨w.heap.size,1,none⟩) (by simp)]; simp
  have r2 : w1.cell? ⟨w.heap.size,2,none⟩ = some (.int .i64 0) := by rw [hb1.cell (p := ⟨w.heap.size,2,none⟩) (by simp)]; simp
  have r3 : w1.cell? ⟨w.heap.size,3,none⟩ = some (.int .i64 0) := by rw [hb1.cell (p := ⟨w.heap.size,3,none⟩) (by simp)]; simp
  have r4 : w1.cell? ⟨w.heap.size,4,none⟩ = some (.int .i64 0) := by rw [hb1.cell (p := ⟨w.heap.size,4,none⟩) (by simp)]; simp
  have f0 : w1.frozen? ⟨w.heap.size,0,none⟩ = false := by rw [hb1.frozen (p := ⟨w.heap.size,0,none⟩) (by simp)]; simp
  have f1 : w1.frozen? ⟨w.heap.size,1,none⟩ = false := by rw [hb1.frozen (p := ⟨w.heap.size,1,none⟩) (by simp)]; simp
  have f2 : w1.frozen? ⟨w.heap.size,2,none⟩ = false := by rw [hb1.frozen (p := ⟨w.heap.size,2,none⟩) (by simp)]; simp
  have f3 : w1.frozen? ⟨w.heap.size,3,none⟩ = false := by rw [hb1.frozen (p := ⟨w.heap.size,3,none⟩) (by simp)]; simp
  have f4 : w1.frozen? ⟨w.heap.size,4,none⟩ = false := by rw [hb1.frozen (p := ⟨w.heap.size,4,none⟩) (by simp)]; simp
  have hB : Below w.heap.size w w1 := ((Below.refl _ _).alloc (Nat.le_refl _) _).trans (hb1.mono (by simp))
  go_wp2
  exact bodyPost_ret (v := .tuple #[.agg #[.int .i64 0,.int .i64 0,.int .i64 0,.int .i64 0,.int .i64 0],.string ⟨#[]⟩,.bool false]) (by simp [results,Tryz.results139,go_sem,r0,r1,r2,r3,r4]) rfl ⟨rfl,((((hB.setCell (Nat.le_refl _) _).setCell (Nat.le_refl _) _).setCell (Nat.le_refl _) _).setCell (Nat.le_refl _) _).setCell (Nat.le_refl _) _⟩
theorem isOf_any (a1 a2 a3 a4 a5 : Nat) (s : ByteArray) (w : World) (hs : s.size <= 9223372036854775807) :
  Calls Tryz.prog 140 #[.agg #[.int .i64 a1,.int .i64 a2,.int .i64 a3,.int .i64 a4,.int .i64 a5],.string s] w fun e w' => e = .returned (.bool (decide (a4 = s.size) && decide ((a5 : Int) = sumI s.data.toList))) /\ Below w.heap.size w w' := by
 have HS : Hid _ := sumOf_any s
 by_cases h : s.size = a4
 ·have hd : ((s.size : Int) == (a4 : Int)) = true := by rw [beq_iff_eq]; omega
  have HD : Hid (decide (a4 = s.size) = true) := by show _ = _; simp [h]
  clear h
  go_enter Tryz.func140,Tryz.ntmps140
  go_wp2_with fail
  go_region_held3 (fun w' => (w'.cell? ⟨w.heap.size,3,none⟩ = some (.int .i64 a4) /\ w'.cell? ⟨w.heap.size,4,none⟩ = some (.int .i64 a5)) /\ Below w.heap.size w w' /\ w.heap.size < w'.heap.size) (first | (exact ⟨⟨by simp,by simp⟩,((Below.refl _ _).alloc (Nat.le_refl _) _).drew,by simp⟩) | (exact keep2 (by assumption) (by assumption))) (first | (go_at_call 96; refine (HS.out _ hs).mono ?_; rintro e w' ⟨rfl,hb1⟩))
  all_goals
   have hx := ‹(_ /\ _) /\ Below _ _ _ /\ _›
   go_wp2
   go_ret
   refine ⟨ret_bool ?_,hx.2.1⟩
   rw [HD.out,Bool.true_and,Bool.eq_iff_iff]
   simp only [beq_iff_eq,decide_eq_true_eq]
   exact eq_comm
 ·have hd : ((s.size : Int) == (a4 : Int)) = false := by rw [beq_eq_false_iff_ne]; omega
  have HD : Hid (decide (a4 = s.size) = false) := by show _ = _; simp; omega
  clear h
  go_enter Tryz.func140,Tryz.ntmps140
  go_wp2_with fail
  go_quiet (fail)
  go_wp2
  go_ret
  exact ⟨ret_bool (by rw [HD.out]; rfl),below_drewN ((Below.refl _ _).alloc (Nat.le_refl _) _) _⟩
def Box5 (w W : World) : Prop := (W.cell? ⟨w.heap.size,0,none⟩ = some (.int .i64 0) /\ W.cell? ⟨w.heap.size,1,none⟩ = some (.int .i64 0) /\ W.cell? ⟨w.heap.size,2,none⟩ = some (.int .i64 0) /\ W.cell? ⟨w.heap.size,3,none⟩ = some (.int .i64 0) /\ W.cell? ⟨w.heap.size,4,none⟩ = some (.int .i64 0)) /\ (∀ i,W.frozen? ⟨w.heap.size,i,none⟩ = false) /\ Below w.heap.size w W /\ w.heap.size < W.heap.size
theorem Box5.below {w W W' : World} (h : Box5 w W) (hb : Below W.heap.size W W') : Box5 w W' := by
 obtain ⟨⟨h0,h1,h2,h3,h4⟩,hf,hB,hz⟩ := h
 exact ⟨⟨(hb.cell (p := ⟨w.heap.size,0,none⟩) hz).trans h0,(hb.cell (p := ⟨w.heap.size,1,none⟩) hz).trans h1,(hb.cell (p := ⟨w.heap.size,2,none⟩) hz).trans h2,(hb.cell (p := ⟨w.heap.size,3,none⟩) hz).trans h3,(hb.cell (p := ⟨w.heap.size,4,none⟩) hz).trans h4⟩,fun i => (hb.frozen (p := ⟨w.heap.size,i,none⟩) hz).trans (hf i),hB.trans (hb.mono (Nat.le_of_lt hz)),Nat.lt_of_lt_of_le hz hb.size⟩
theorem box5_new (w : World) (t : TypeId) : Box5 w (w.alloc (.cells #[.int .i64 0,.int .i64 0,.int .i64 0,.int .i64 0,.int .i64 0] t)) :=
 ⟨⟨by simp,by simp,by simp,by simp,by simp⟩,fun i => by simp,(Below.refl _ _).alloc (Nat.le_refl _) _,by simp⟩
theorem readFront_go (s : ByteArray) (w : World) (hs : s.size <= 140737488351232) (hH : HalvesAt w) (h1 : 20 <= s.size) (h2 : (s.data.toList.take 2 == [73,88]) = true) (h3 : sealedB (s.data.toList.take 20) = true) :
  Calls Tryz.prog 139 #[.string s] w fun e w' => e = .returned (frontV s.data.toList) /\ Below w.heap.size w w' := by
 have hl : s.data.toList.length = s.size := by simp
 have E2 : Hid ((s.extract 0 2).toList = s.data.toList.take 2) := by show _ = _; rw [ByteArray.toList_eq,cut_list,List.drop_zero]
 have E20 : Hid ((s.extract 0 20).data.toList = s.data.toList.take 20) := by show _ = _; rw [cut_list,List.drop_zero]
 have HH : Hid (HalvesAt w) := hH
 have t1 : ((s.extract 0 2).toList == [73,88]) = true := by rw [E2.out]; exact h2
 have t2 : ((s.extract 0 2).toList != [73,88]) = false := by rw [bne,t1]; rfl
 have H3 : Hid (sealedB (s.data.toList.take 20) = true) := h3
 have HOK : Hid (ixOK s.data.toList = (decide (ixN s.data.toList ≠ 0) && decide (s.size = 20 + 10 * ixN s.data.toList + 4))) := by
  show _ = _
  rw [ixOK,hl,h2,h3]; simp [h1]
 have hN : ixN s.data.toList < 65536 := by
  have := highL_lt ((s.data.toList.drop 4).take 2)
  have h4 := pow256_le (show ((s.data.toList.drop 4).take 2).length <= 2 by simp; omega)
  unfold ixN; omega
 clear hH h2 h3 hl
 go_enter Tryz.func139,Tryz.ntmps139
 go_wp2_with fail
 refine (holds_any _ _ ?_ ?_).mono ?_
 ·simp; omega
 ·exact HH.out.below ((Below.refl w.heap.size w).alloc (Nat.le_refl _) _) HH.out.1
 rintro e w1 ⟨rfl,hb1⟩
 rw [E20.out,H3.out]
 have HB1 : Hid (Box5 w w1) := (box5_new w _).below hb1
 have hz1 : w.heap.size < w1.heap.size := HB1.out.2.2.2
 have C1 : Hid ((s.extract 2 4).data.toList = (s.data.toList.drop 2).take 2) := cut_list s 2 4
 have C2 : Hid ((s.extract 4 6).data.toList = (s.data.toList.drop 4).take 2) := cut_list s 4 6
 have C3 : Hid ((s.extract 6 8).data.toList = (s.data.toList.drop 6).take 2) := cut_list s 6 8
 have C4 : Hid ((s.extract 8 12).data.toList = (s.data.toList.drop 8).take 4) := cut_list s 8 12
 have C5 : Hid ((s.extract 12 16).data.toList = (s.data.toList.drop 12).take 4) := cut_list s 12 16
 have z1 : (s.extract 2 4).size = 2 := by simp; omega
 have z2 : (s.extract 4 6).size = 2 := by simp; omega
 have z3 : (s.extract 6 8).size = 2 := by simp; omega
 have z4 : (s.extract 8 12).size = 4 := by simp; omega
 have z5 : (s.extract 12 16).size = 4 := by simp; omega
 have i1 : (4 : Int) <= (s.size : Int) := by omega
 have i2 : (6 : Int) <= (s.size : Int) := by omega
 have i3 : (8 : Int) <= (s.size : Int) := by omega
 have i4 : (12 : Int) <= (s.size : Int) := by omega
 have i5 : (16 : Int) <= (s.size : Int) := by omega
 clear hb1 t1 t2 E2 E20 H3 HH
 go_wp2_with fail
 go_cut [5] (fun c wx => c = .pointer (some ⟨w1.heap.size,0,none⟩) /\ (wx.cell? ⟨w1.heap.size,0,none⟩ = some (.int .i64 (ixLive s.data.toList)) /\ wx.cell? ⟨w1.heap.size,1,none⟩ = some (.int .i64 (ixN s.data.toList)) /\ wx.cell? ⟨w1.heap.size,2,none⟩ = some (.int .i64 (ixFar s.data.toList)) /\ wx.cell? ⟨w1.heap.size,3,none⟩ = some (.int .i64 (ixSize s.data.toList)) /\ wx.cell? ⟨w1.heap.size,4,none⟩ = some (.int .i64 (ixSum s.data.toList))) /\ Below w1.heap.size w1 wx /\ w1.heap.size < wx.heap.size)
 case first =>
  go_region_held3 (fun w' => w1.heap.size <= w'.heap.size) (first | (simp) | (simp; omega)) (first | (go_at_call_of 145 (Value.string (s.extract 2 4)); refine (lowRead_any _ _ (by omega)).mono ?_; rintro e w' ⟨rfl,rfl⟩) | (go_at_call_of 145 (Value.string (s.extract 4 6)); refine (lowRead_any _ _ (by omega)).mono ?_; rintro e w' ⟨rfl,rfl⟩) | (go_at_call_of 145 (Value.string (s.extract 6 8)); refine (lowRead_any _ _ (by omega)).mono ?_; rintro e w' ⟨rfl,rfl⟩) | (go_at_call_of 145 (Value.string (s.extract 8 12)); refine (lowRead_any _ _ (by omega)).mono ?_; rintro e w' ⟨rfl,rfl⟩) | (go_at_call_of 145 (Value.string (s.extract 12 16)); refine (lowRead_any _ _ (by omega)).mono ?_; rintro e w' ⟨rfl,rfl⟩))
  all_goals
   go_wp2_with fail
   go_meet
   refine ⟨rfl,⟨?_,?_,?_,?_,?_⟩,?_,?_⟩
   ·rw [ixLive,<- C1.out]; simp
   ·rw [ixN,<- C2.out]; simp
   ·rw [ixFar,<- C3.out]; simp
   ·rw [ixSize,<- C4.out]; simp
   ·rw [ixSum,<- C5.out]; simp
   ·first | exact ((Below.refl _ _).alloc (Nat.le_refl _) _).drew | exact (((Below.refl _ _).alloc (Nat.le_refl _) _).setCell (by simp) _).drew
   ·simp
 case rest =>
  obtain ⟨rfl,⟨c0,c1,c2,c3,c4⟩,hb2,hz2⟩ := hcut
  clear z1 z2 z3 z4 z5 i1 i2 i3 i4 i5 C1 C2 C3 C4 C5
  obtain ⟨⟨r0,r1,r2,r3,r4⟩,rf,hB,hzr⟩ := HB1.out.below hb2
  have f0 := rf 0
  have f1 := rf 1
  have f2 := rf 2
  have f3 := rf 3
  have f4 := rf 4
  have HB : Hid (Below w.heap.size w wc) := hB
  have HFV : Hid (frontV s.data.toList = if ixOK s.data.toList = true then _ else _) := frontV.eq_1 s.data.toList
  have c20 : ixN s.data.toList ≠ 0 -> s.size = 20 + 10 * ixN s.data.toList + 4 -> ∀ wx : World,(Instr.slice 9 (.string s) (some (.int .i64 20)) (some (.int .i64 (20 + (ixN s.data.toList : Int) * 10))) none).run Tryz.prog wx = .ok (.string (S ((s.data.toList.drop 20).take (10 * ixN s.data.toList)))) wx := fun _ hz => cut_run s 20 (10 * ixN s.data.toList) (by omega) 20 (20 + (ixN s.data.toList : Int) * 10) rfl (by omega)
  clear rf hB hb2 HB1
  generalize ixLive s.data.toList = xl at *
  generalize ixFar s.data.toList = xf at *
  generalize ixSize s.data.toList = xs at *
  generalize ixSum s.data.toList = xm at *
  generalize ixN s.data.toList = n at *
  have hn10 : n <= 65536 := by omega
  rcases (show n = 0 \/ (n ≠ 0 /\ s.size ≠ 20 + 10 * n + 4) \/ (n ≠ 0 /\ s.size = 20 + 10 * n + 4) from by omega) with k1 | ⟨k1,k2⟩ | ⟨k1,k2⟩
  ·have HV : Hid (frontV s.data.toList = .tuple #[.agg #[.int .i64 0,.int .i64 0,.int .i64 0,.int .i64 0,.int .i64 0],.string ⟨#[]⟩,.bool false]) := by
    show _ = _
    rw [HFV.out,if_neg (by rw [HOK.out]; simp [k1])]
   have tA : ((n : Int) == 0) = true := by rw [beq_iff_eq]; omega
   clear HFV HOK c20 k1
   go_wp2
   exact bodyPost_ret (v := .tuple #[.agg #[.int .i64 0,.int .i64 0,.int .i64 0,.int .i64 0,.int .i64 0],.string ⟨#[]⟩,.bool false]) (by simp [results,Tryz.results139,go_sem,r0,r1,r2,r3,r4]) rfl ⟨by rw [HV.out],((((HB.out.setCell (Nat.le_refl _) _).setCell (Nat.le_refl _) _).setCell (Nat.le_refl _) _).setCell (Nat.le_refl _) _).setCell (Nat.le_refl _) _⟩
  ·have HV : Hid (frontV s.data.toList = .tuple #[.agg #[.int .i64 0,.int .i64 0,.int .i64 0,.int .i64 0,.int .i64 0],.string ⟨#[]⟩,.bool false]) := by
    show _ = _
    rw [HFV.out,if_neg (by rw [HOK.out]; simp [k2])]
   have tA : ((n : Int) == 0) = false := by rw [beq_eq_false_iff_ne]; omega
   have tB : ((s.size : Int) != 20 + (n : Int) * 10 + 4) = true := by rw [bne_iff_ne]; omega
   clear HFV HOK c20 k1 k2
   go_wp2
   exact bodyPost_ret (v := .tuple #[.agg #[.int .i64 0,.int .i64 0,.int .i64 0,.int .i64 0,.int .i64 0],.string ⟨#[]⟩,.bool false]) (by simp [results,Tryz.results139,go_sem,r0,r1,r2,r3,r4]) rfl ⟨by rw [HV.out],((((HB.out.setCell (Nat.le_refl _) _).setCell (Nat.le_refl _) _).setCell (Nat.le_refl _) _).setCell (Nat.le_refl _) _).setCell (Nat.le_refl _) _⟩
  ·have HV : Hid (frontV s.data.toList = .tuple #[.agg #[.int .i64 xl,.int .i64 n,.int .i64 xf,.int .i64 xs,.int .i64 xm],.string (S ((s.data.toList.drop 20).take (10 * n))),.bool true]) := by
    show _ = _
    rw [HFV.out,if_pos (by rw [HOK.out]; simp [k1,k2])]
   have tA : ((n : Int) == 0) = false := by rw [beq_eq_false_iff_ne]; omega
   have tB : ((s.size : Int) != 20 + (n : Int) * 10 + 4) = false := by rw [bne_eq_false_iff_eq]; omega
   have c20' := c20 k1 k2
   generalize S ((s.data.toList.drop 20).take (10 * n)) = body at *
   have hwne : w.heap.size ≠ w1.heap.size := by omega
   have hwne2 : w1.heap.size ≠ w.heap.size := by omega
   clear HFV HOK c20 k1 k2 hN hz2 hzr
   go_wp2_with fail
   go_region_held3 (fun w' => w'.cell? ⟨w1.heap.size,0,none⟩ = some (.int .i64 (xl : Int)) /\ w'.cell? ⟨w1.heap.size,1,none⟩ = some (.int .i64 (n : Int)) /\ w'.cell? ⟨w1.heap.size,2,none⟩ = some (.int .i64 (xf : Int)) /\ w'.cell? ⟨w1.heap.size,3,none⟩ = some (.int .i64 (xs : Int)) /\ w'.cell? ⟨w1.heap.size,4,none⟩ = some (.int .i64 (xm : Int))) (first | (simp [go_sem,hwne,hwne2,c0,c1,c2,c3,c4]; done)) (first | (fail))
   all_goals
    go_wp2
    exact bodyPost_ret (v := .tuple #[.agg #[.int .i64 xl,.int .i64 n,.int .i64 xf,.int .i64 xs,.int .i64 xm],.string body,.bool true]) (by simp [results,Tryz.results139,go_sem,r0,r1,r2,r3,r4]) rfl ⟨by rw [HV.out],(((((HB.out.setCell (Nat.le_refl _) _).setCell (Nat.le_refl _) _).setCell (Nat.le_refl _) _).setCell (Nat.le_refl _) _).setCell (Nat.le_refl _) _).drew⟩
theorem readFront_any (s : ByteArray) (w : World) (hs : s.size <= 140737488351232) (hH : HalvesAt w) :
  Calls Tryz.prog 139 #[.string s] w fun e w' => e = .returned (frontV s.data.toList) /\ Below w.heap.size w w' := by
 have hl : s.data.toList.length = s.size := by simp
 by_cases h1 : 20 <= s.size
 ·cases h2 : (s.data.toList.take 2 == [73,88])
  ·have hf : ixOK s.data.toList = false := by rw [ixOK,h2]; simp
   rw [frontV,hf]
   exact readFront_no s w hs hH (.inr (.inl ⟨h1,h2⟩))
  ·cases h3 : sealedB (s.data.toList.take 20)
   ·have hf : ixOK s.data.toList = false := by rw [ixOK,h3]; simp
    rw [frontV,hf]
    exact readFront_no s w hs hH (.inr (.inr ⟨h1,h2,h3⟩))
   ·exact readFront_go s w hs hH h1 h2 h3
 ·have hf : ixOK s.data.toList = false := by rw [ixOK]; simp; omega
  rw [frontV,hf]
  exact readFront_no s w hs hH (.inl (by omega))
theorem sizeFor_any (len : Nat) (w : World) (hlen : len <= 2000) :
  Calls Tryz.prog 91 #[.int .i64 len] w fun e w' => e = .returned (.int .i64 (sizeL len : Nat)) /\ w' = w := by
 have H12 : Hid (sizeF 12 len 4 = sizeL len) := rfl
 have hbd := sizeL_bound hlen
 generalize sizeL len = n at *
 go_enter Tryz.func91,Tryz.ntmps91
 go_wp2
 go_loop [3] (fun nn => ∃ (s f : Nat),nn = .int .i64 s /\ (4 <= s /\ s <= 5000) /\ Hid (sizeF f len s = n) /\ Hid (5 * len / 4 < s * 2 ^ f)) (fun nn => 5000 - (intOf nn).toNat)
 case atStart => exact ⟨4,12,rfl,⟨by omega,by omega⟩,H12,by show 5 * len / 4 < 4 * 2 ^ 12; omega⟩
 case round =>
  obtain ⟨s,f,rfl,⟨h4,h5⟩,HS,HP⟩ := hrel
  by_cases hle : s <= 5 * len / 4
  ·obtain ⟨f',rfl⟩ : ∃ f',f = f' + 1 := by
    cases f with
    | zero => have := HP.out; simp at this; omega
    | succ f' => exact ⟨f',rfl⟩
   have HS2 : Hid (sizeF f' len (2 * s) = n) := by
    show _ = _
    rw [<- HS.out,sizeF,if_pos hle]
   have HP2 : Hid (5 * len / 4 < (2 * s) * 2 ^ f') := by
    show _ < _
    have := HP.out
    rw [Nat.pow_succ] at this
    rw [Nat.mul_comm 2 s,Nat.mul_assoc,Nat.mul_comm 2]; exact this
   have h52 : 2 * s <= 5000 := by omega
   clear HS HP
   go_wp2
   go_round
   case rel => exact ⟨2 * s,f',by congr 1; omega,⟨by omega,h52⟩,HS2,HP2⟩
   case measure => first | (simp [intOf]; omega) | (simp [intOf])
  ·have hsn : s = n := by rw [<- HS.out,sizeF_stop hle]
   clear HS HP
   go_wp2
   go_ret
   exact ⟨ret_int (by first | rfl | rw [hsn]),rfl⟩
theorem awayP_any (p : Option Addr) (n cap : Nat) (kind : Int) (x : Slt) (a : Nat) (w : World) (ha : a < n) (hn : n <= 5000) (hx : x.num < 4294967296) :
  Calls Tryz.prog 151 #[.slice p n cap,.agg #[.int .u8 kind,.int .i64 x.num,.int .i64 x.blk,.int .i64 x.no],.int .i64 a] w fun e w' => e = .returned (.int .i64 (awayN n x a : Nat)) /\ Below w.heap.size w w' := by
 have HA : Hid (((a : Int) - (x.num : Int) % (n : Int) + (n : Int)) % (n : Int) = (awayN n x a : Nat)) := awayN_prog x ha
 have hne : ¬ n = 0 := by omega
 have hh : x.num % n < n := Nat.mod_lt _ (by omega)
 have hm : (x.num : Int) % (n : Int) = ((x.num % n : Nat) : Int) := by simp
 have htm : (x.num : Int).tmod (n : Int) = ((x.num % n : Nat) : Int) := rfl
 rw [hm] at HA
 generalize x.num % n = h at *
 go_enter Tryz.func151,Tryz.ntmps151
 go_wp2
 go_ret
 refine ⟨ret_int ?_,(Below.refl _ _).alloc (Nat.le_refl _) _⟩
 rw [<- HA.out]
theorem checkB_any (v : Value) (l : List UInt8) (base : Nat) (w : World) (hown : w.ownsRow base 5 1 v l.length (cellsB l)) (hl : l.length <= 1000000000) (hH : HalvesAt w) :
  Calls Tryz.prog 181 #[v] w fun e w' => e = .returned (.int .u32 (crcN l : Nat)) /\ w' = w := by
 have HH : Hid (HalvesAt w) := hH
 obtain ⟨p,c,rfl⟩ := own_len hown
 have HOWN : Hid (w.ownsRow base 5 1 (.slice p l.length c) l.length (cellsB l)) := hown
 clear hH hown
 go_enter Tryz.func181,Tryz.ntmps181
 go_wp2
 go_loop [3,7] (fun c i => ∃ (k : Nat),k <= l.length /\ i = .int .i64 k /\ c = .int .u32 (crcRun (l.take k) : Nat)) (fun _ i => l.length - (intOf i).toNat)
 case atStart => exact ⟨0,Nat.zero_le _,rfl,rfl⟩
 case round =>
  obtain ⟨k,hk,rfl,rfl⟩ := hrel
  have hr := crcRun_lt (l.take k)
  by_cases hlt : k < l.length
  ·have hcell : ∃ g,p = some ⟨g,0,none⟩ /\ w.cell? ⟨g,k,none⟩ = some (.int .u8 (l[k].toNat : Int)) := by
    obtain ⟨g,cap,he,_,_,hc⟩ := own_cellsN HOWN.out (by omega)
    simp at he
    refine ⟨g,he.1,?_⟩
    rw [hc k (by omega)]
    simp [cellsB,hlt]
   obtain ⟨g,rfl,hcl⟩ := hcell
   have HS : Hid (crcRun (l.take (k + 1)) = nibStep (nibStep (crcRun (l.take k) ^^^ l[k].toNat))) := by
    show _ = _
    rw [List.take_succ_eq_append_getElem hlt,crcRun_snoc,nib_byte]
   have hc := l[k].toNat_lt
   have hx := u32_xor_nat (crcRun (l.take k)) l[k].toNat (by omega) (by omega)
   generalize crcRun (l.take k) = x at *
   have hy : x ^^^ l[k].toNat < 4294967296 := Nat.xor_lt_two_pow (n := 32) (by omega) (by omega)
   generalize l[k].toNat = lk at *
   generalize x ^^^ lk = y at *
   have hz := nibStep_lt hy
   have a1 := and_15 hy
   have a2 := and_15 hz
   have b1 : (((y % 16 : Nat) : Int)) < 16 := by omega
   have b2 : (((nibStep y % 16 : Nat) : Int)) < 16 := by omega
   have c1 := HH.out.2 (y % 16) (by omega)
   have c2 := HH.out.2 (nibStep y % 16) (by omega)
   have x1 := nib_xor hy
   have x2 := nib_xor hz
   generalize halvesL.getD (y % 16) 0 = t1 at *
   generalize halvesL.getD (nibStep y % 16) 0 = t2 at *
   generalize nibStep (nibStep y) = u at *
   generalize nibStep y = z at *
   generalize hq1 : y % 16 = q1 at *
   generalize hq2 : z % 16 = q2 at *
   clear hq1 hq2
   go_wp2
   go_round
   case rel => exact ⟨k + 1,by omega,by go_num,by rw [HS.out]⟩
   case measure => simp [intOf]; omega
  ·have HS : Hid (crcRun (l.take k) = crcRun l) := by
    show _ = _
    rw [List.take_of_length_le (by omega)]
   generalize crcRun (l.take k) = x at *
   have HX : Hid (bits BinOp.xor IntKind.u32 IntKind.u32.max (x : Int) = ((x ^^^ 4294967295 : Nat) : Int)) := by
    show _ = _
    rw [show IntKind.u32.max = ((4294967295 : Nat) : Int) from rfl,u32_xor_nat _ _ (by omega) (by omega),Nat.xor_comm]
   go_wp2
   go_ret
   exact ⟨ret_int (by rw [HX.out,crcN,<- HS.out]),rfl⟩
theorem seal_any (v : Value) (l : List UInt8) (base : Nat) (w : World) (hown : w.ownsRow base 5 1 v l.length (cellsB l)) (hbase : base <= w.heap.size) (hl : l.length <= 1000000) (hH : HalvesAt w) :
  Calls Tryz.prog 130 #[v] w fun e w' => ∃ v',e = .returned v' /\ w'.ownsRow base 5 1 v' (sealL l).length (cellsB (sealL l)) /\ Below base w w' := by
 have hc := crcN_lt l
 go_enter Tryz.func130,Tryz.ntmps130
 go_wp2_with fail
 refine (checkB_any v l base w hown (by omega) hH).mono ?_
 rintro e w1 ⟨rfl,rfl⟩
 have hw : IntKind.i64.wrap ((crcN l : Nat) : Int) = ((crcN l : Nat) : Int) := by rw [IntKind.wrap_i64]; omega
 have HAL : Hid _ := appendLow_any v l ((crcN l : Nat) : Int) 4 w1 base (by omega) (by omega) (by omega) hown hbase (by omega)
 have HSE : Hid (sealL l = l ++ lowL (crcN l) 4) := rfl
 clear hown
 go_wp2_with fail
 refine Calls.mono HAL.out ?_
 rintro e w2 ⟨v',rfl,hrow,hb⟩
 rw [Int.toNat_natCast] at hrow
 have HROW : Hid (w2.ownsRow base 5 1 v' (sealL l).length (cellsB (sealL l))) := by
  show World.ownsRow _ _ _ _ _ _ _
  rw [sealL_length,HSE.out]; exact hrow
 clear hrow
 go_wp2
 go_ret
 exact ⟨_,rfl,HROW.out,hb⟩
theorem Below.halves {base : Nat} {w w' : World} (h : HalvesAt w) (hb : Below base w w') (hg : 6 < base) : HalvesAt w' := h.below hb hg
def FrontAt (w W : World) (a1 a2 a3 a4 a5 : Nat) : Prop := (W.cell? ⟨w.heap.size,0,none⟩ = some (.int .i64 a1) /\ W.cell? ⟨w.heap.size,1,none⟩ = some (.int .i64 a2) /\ W.cell? ⟨w.heap.size,2,none⟩ = some (.int .i64 a3) /\ W.cell? ⟨w.heap.size,3,none⟩ = some (.int .i64 a4) /\ W.cell? ⟨w.heap.size,4,none⟩ = some (.int .i64 a5)) /\ Below w.heap.size w W /\ w.heap.size + 1 <= W.heap.size
theorem FrontAt.below {w W W' : World} {a1 a2 a3 a4 a5 : Nat} (h : FrontAt w W a1 a2 a3 a4 a5) (hb : Below (w.heap.size + 1) W W') : FrontAt w W' a1 a2 a3 a4 a5 := by
 obtain ⟨⟨h0,h1,h2,h3,h4⟩,hB,hz⟩ := h
 have hs : w.heap.size < w.heap.size + 1 := Nat.lt_succ_self _
 exact ⟨⟨(hb.cell (p := ⟨w.heap.size,0,none⟩) hs).trans h0,(hb.cell (p := ⟨w.heap.size,1,none⟩) hs).trans h1,(hb.cell (p := ⟨w.heap.size,2,none⟩) hs).trans h2,(hb.cell (p := ⟨w.heap.size,3,none⟩) hs).trans h3,(hb.cell (p := ⟨w.heap.size,4,none⟩) hs).trans h4⟩,hB.trans (hb.mono (Nat.le_succ _)),Nat.le_trans hz hb.size⟩
def sltP : Option Slt -> List Value
 | none => [.int .u8 0,.int .i64 0,.int .i64 0,.int .i64 0]
 | some x => [.int .u8 1,.int .i64 x.num,.int .i64 x.blk,.int .i64 x.no]
theorem sltP_length (x : Option Slt) : (sltP x).length = 4 := by cases x <;> rfl
def cellsP (t : List (Option Slt)) : List Value := t.flatMap sltP
theorem cellsP_length (t : List (Option Slt)) : (cellsP t).length = t.length * 4 := by
 induction t with
 | nil => rfl
 | cons x t ih =>
  show (sltP x ++ cellsP t).length = _
  rw [List.length_append,ih,sltP_length,List.length_cons]; omega
theorem cellsP_at {t : List (Option Slt)} {i : Nat} {x : Option Slt} (h : t[i]? = some x) (j : Nat) (hj : j < 4) : (cellsP t)[i * 4 + j]? = (sltP x)[j]? := by
 induction t generalizing i with
 | nil => simp at h
 | cons y t ih =>
  cases i with
  | zero =>
   simp at h; subst h
   show (sltP y ++ cellsP t)[0 * 4 + j]? = _
   rw [List.getElem?_append_left (by rw [sltP_length]; omega)]
   congr 1; omega
  | succ i =>
   show (sltP y ++ cellsP t)[(i + 1) * 4 + j]? = _
   rw [List.getElem?_append_right (by rw [sltP_length]; omega),sltP_length,show (i + 1) * 4 + j - 4 = i * 4 + j by omega]
   exact ih (by simpa using h)
theorem set4 {α : Type} (l r : List α) (x0 x1 x2 x3 y0 y1 y2 y3 : α) (k : Nat) (h : l.length = k) : ((((l ++ x0 :: x1 :: x2 :: x3 :: r).set k y0).set (k + 1) y1).set (k + 2) y2).set (k + 3) y3 = l ++ y0 :: y1 :: y2 :: y3 :: r := by
 subst h
 induction l with
 | nil => rfl
 | cons a l ih => simp
theorem cellsP_set {t : List (Option Slt)} {i : Nat} (h : i < t.length) (x : Slt) : (((((cellsP t).set (i * 4) (.int .u8 1)).set (i * 4 + 1) (.int .i64 x.num)).set (i * 4 + 2) (.int .i64 x.blk)).set (i * 4 + 3) (.int .i64 x.no)) = cellsP (t.set i (some x)) := by
 have e : t = t.take i ++ t[i] :: t.drop (i + 1) := by rw [List.getElem_cons_drop,List.take_append_drop]
 have hl : (t.take i).length = i := by simp; omega
 have e2 : t.set i (some x) = t.take i ++ some x :: t.drop (i + 1) := by
  conv => lhs; rw [e]
  rw [List.set_append_right _ _ (by omega),hl,Nat.sub_self]; rfl
 have c1 : ∀ (l r : List (Option Slt)) (y : Option Slt),cellsP (l ++ y :: r) = cellsP l ++ (sltP y ++ cellsP r) := fun l r y => by simp [cellsP]
 rw [e2,c1]
 conv => lhs; rw [e,c1]
 cases t[i] with
 | none => exact set4 _ _ _ _ _ _ _ _ _ _ _ (by rw [cellsP_length,hl])
 | some y => exact set4 _ _ _ _ _ _ _ _ _ _ _ (by rw [cellsP_length,hl])
theorem made4 (n : Nat) : (madeCells #[.int .u8 0,.int .i64 0,.int .i64 0,.int .i64 0] (n * 4)).toList = cellsP (List.replicate n none) := by
 apply List.ext_getElem?
 intro j
 by_cases hj : j < n * 4
 ·have h4 : j % 4 < 4 := Nat.mod_lt _ (by omega)
  have hd : j / 4 < n := by omega
  have hr : (cellsP (List.replicate n none))[j]? = (sltP none)[j % 4]? := by
   have := cellsP_at (t := List.replicate n none) (i := j / 4) (x := none) (by rw [List.getElem?_replicate,if_pos hd]) (j % 4) h4
   rwa [show j / 4 * 4 + j % 4 = j by omega] at this
  rw [hr]
  simp [madeCells,hj]
  generalize j % 4 = q at *
  match q,h4 with
  | 0,_ => rfl
  | 1,_ => rfl
  | 2,_ => rfl
  | 3,_ => rfl
 ·have h1 : (cellsP (List.replicate n none))[j]? = none := List.getElem?_eq_none (by rw [cellsP_length]; simp; omega)
  rw [h1]
  simp [madeCells,hj]
theorem pslot_at {w : World} {base g cap n : Nat} {t : List (Option Slt)} {a : Nat} {x : Option Slt} (h : w.ownsRow base 175 4 (.slice (some ⟨g,0,none⟩) n cap) n (cellsP t)) (hx : t[a]? = some x) (ha : a < n) : w.cell? ⟨g,a * 4,none⟩ = (sltP x)[0]? /\ w.cell? ⟨g,a * 4 + 1,none⟩ = (sltP x)[1]? /\ w.cell? ⟨g,a * 4 + 2,none⟩ = (sltP x)[2]? /\ w.cell? ⟨g,a * 4 + 3,none⟩ = (sltP x)[3]? :=
 ⟨(h.cellAt (a * 4) (by omega)).trans (cellsP_at hx 0 (by omega)),(h.cellAt (a * 4 + 1) (by omega)).trans (cellsP_at hx 1 (by omega)),(h.cellAt (a * 4 + 2) (by omega)).trans (cellsP_at hx 2 (by omega)),(h.cellAt (a * 4 + 3) (by omega)).trans (cellsP_at hx 3 (by omega))⟩
theorem farthest_any (g n cap base : Nat) (t : List (Option Slt)) (w : World) (hown : w.ownsRow base 175 4 (.slice (some ⟨g,0,none⟩) n cap) n (cellsP t)) (htl : t.length = n) (hn0 : 0 < n) (hn : n <= 5000) (hnum : ∀ y : Slt,some y ∈ t -> y.num < 4294967296) :
  Calls Tryz.prog 95 #[.slice (some ⟨g,0,none⟩) n cap] w fun e w' => e = .returned (.int .i64 (farP n t n : Nat)) /\ Below w.heap.size w w' := by
 go_enter Tryz.func95,Tryz.ntmps95
 go_wp2
 go_loopw [3,8] (fun fr i wr => ∃ (k : Nat),k <= n /\ i = .int .i64 k /\ fr = .int .i64 (farP n t k : Nat) /\ wr.ownsRow base 175 4 (.slice (some ⟨g,0,none⟩) n cap) n (cellsP t) /\ Below w.heap.size w wr) (fun _ i _ => n - (intOf i).toNat)
 case atStart => exact ⟨0,Nat.zero_le _,rfl,rfl,hown,Below.refl _ _⟩
 case round =>
  obtain ⟨k,hk,rfl,rfl,hrow,hb⟩ := hrel
  clear hown
  have hfar := farP_lt (n := n) hn0 t k
  by_cases hkn : k < n
  ·have hta : t[k]? = some t[k] := List.getElem?_eq_getElem (by omega)
   obtain ⟨z0,z1,z2,z3⟩ := pslot_at hrow hta hkn
   have HROW : Hid (wr.ownsRow base 175 4 (.slice (some ⟨g,0,none⟩) n cap) n (cellsP t)) := hrow
   have HB : Hid (Below w.heap.size w wr) := hb
   have hbs := hb.size
   clear hrow hb
   cases hy : t[k] with
   | none =>
    rw [hy] at hta z0 z1 z2 z3
    simp only [sltP,List.getElem?_cons_zero,List.getElem?_cons_succ] at z0 z1 z2 z3
    have HFP : Hid (farP n t (k + 1) = farP n t k) := farP_none hta
    clear hy hta hnum
    generalize farP n t k = fk at *
    go_wp2
    go_roundw
    case rel => exact ⟨k + 1,by omega,by first | rfl | go_num,by rw [HFP.out],HROW.out.alloc _,HB.out.alloc hbs _⟩
    case measure => first | (simp [intOf]; omega) | (simp [intOf])
   | some y =>
    have hym : some y ∈ t := List.mem_of_getElem? (by rw [hta,hy])
    rw [hy] at hta z0 z1 z2 z3
    simp only [sltP,List.getElem?_cons_zero,List.getElem?_cons_succ] at z0 z1 z2 z3
    have hyn := hnum y hym
    have HFP : Hid (farP n t (k + 1) = max (farP n t k) (awayN n y k)) := farP_some hta
    have hawl := awayN_lt hn0 y k
    have HAY := awayP_any (some ⟨g,0,none⟩) n cap 1 y k
    clear hy hta hnum hym
    generalize awayN n y k = d at *
    generalize farP n t k = fk at *
    go_wp2_with fail
    refine (HAY _ hkn hn hyn).mono ?_
    rintro e w4 ⟨rfl,hb4⟩
    have HR4 : Hid (w4.ownsRow base 175 4 (.slice (some ⟨g,0,none⟩) n cap) n (cellsP t)) := own_below (HROW.out.alloc _) hb4 (Nat.le_refl _)
    have HB4 : Hid (Below w.heap.size w w4) := (HB.out.alloc hbs _).trans (hb4.mono (by simp; omega))
    clear HAY hb4 z0 z1 z2 z3
    by_cases hdf : fk < d
    ·have HFX : Hid (farP n t (k + 1) = d) := by show _ = _; rw [HFP.out]; omega
     go_wp2
     go_roundw
     case rel => exact ⟨k + 1,by omega,by first | rfl | go_num,by rw [HFX.out],HR4.out,HB4.out⟩
     case measure => first | (simp [intOf]; omega) | (simp [intOf])
    ·have HFX : Hid (farP n t (k + 1) = fk) := by show _ = _; rw [HFP.out]; omega
     go_wp2
     go_roundw
     case rel => exact ⟨k + 1,by omega,by first | rfl | go_num,by rw [HFX.out],HR4.out,HB4.out⟩
     case measure => first | (simp [intOf]; omega) | (simp [intOf])
  ·have hke : k = n := by omega
   subst hke
   obtain ⟨fk,hfk⟩ : ∃ fk,fk = farP k t k := ⟨_,rfl⟩
   have HFK : Hid (fk = farP k t k) := hfk
   rw [<- hfk]
   clear hfk
   go_wp2
   go_ret
   exact ⟨ret_int (by rw [HFK.out]),hb⟩
theorem own_not {w : World} {base e size n b f : Nat} {v : Value} {xs : List Value} {cur : Array Value} (h : w.ownsRow base e size v n xs) (hb : w.heap[b]? = some (.cells cur f (0,0))) (hne : e ≠ f) : some b ≠ v.ownBlock := by
 rcases h.2 with ⟨rfl,_⟩ | ⟨g,cap,cur',rfl,_,hg,_⟩
 ·simp [Value.ownBlock]
 ·intro h
  simp [Value.ownBlock] at h
  subst h
  rw [hg] at hb
  simp at hb
  exact hne hb.2
theorem box_alloc {w : World} {b f : Nat} {cur : Array Value} (hb : w.heap[b]? = some (.cells cur f (0,0))) (o : Obj) : (w.alloc o).heap[b]? = some (.cells cur f (0,0)) :=
 (Below.heap_alloc w o b (Array.getElem?_eq_some_iff.1 hb).1).trans hb
theorem box_grown {w w' : World} {base e size n b f : Nat} {v : Value} {xs : List Value} {cur : Array Value} (hb : w.heap[b]? = some (.cells cur f (0,0))) (h : w.ownsRow base e size v n xs) (hne : e ≠ f) (hg : w.grownBy w' v.ownBlock) : w'.heap[b]? = some (.cells cur f (0,0)) :=
 (hg.block b (Array.getElem?_eq_some_iff.1 hb).1 (own_not h hb hne)).trans hb
theorem appendLow_box (v : Value) (l : List UInt8) (n : Int) (k : Nat) (w : World) (base : Nat) (hn : 0 <= n) (hn' : n <= 9223372036854775807) (hk : k <= 8)
  (hown : w.ownsRow base 5 1 v l.length (cellsB l)) (hbase : base <= w.heap.size) (hl : l.length <= 1000000000) (b f : Nat) (cur : Array Value) (hbx : w.heap[b]? = some (.cells cur f (0,0))) (hf : 5 ≠ f) :
  Calls Tryz.prog 129 #[v,.int .i64 n,.int .i64 k] w fun e w' => ∃ v',e = .returned v' /\ w'.ownsRow base 5 1 v' (l.length + k) (cellsB (l ++ lowL n.toNat k)) /\ Below base w w' /\ w'.heap[b]? = some (.cells cur f (0,0)) := by
 obtain ⟨i0,hi,hz0,hz1,hz2⟩ := info_parts info_u8
 have HBX : Hid (w.heap[b]? = some (.cells cur f (0,0))) := hbx
 clear hbx
 go_enter Tryz.func129,Tryz.ntmps129
 go_wp2
 go_loopw [0,9] (fun m i wr => ∃ (j : Nat),j <= k /\ i = .int .i64 j /\ wr.ownsRow base 5 1 m (l.length + j) (cellsB (l ++ lowL n.toNat j)) /\ Below base w wr /\ Hid (wr.heap[b]? = some (.cells cur f (0,0)))) (fun _ i _ => k - (intOf i).toNat)
 case atStart => exact ⟨0,Nat.zero_le _,rfl,by simpa [lowL] using hown,Below.refl _ _,HBX⟩
 case round =>
  obtain ⟨j,hj,rfl,ho,hb,HB⟩ := hrel
  by_cases hlt : j < k
  ·have h8 : (0 : Int) <= 8 * (j : Int) := by omega
   have h9 : 8 * (j : Int) <= 64 := by omega
   go_wp2_with (at_builtin; refine wpList_append_own _ rfl (.tmp 12) (.tmp 18) 43 rfl base 5 i0 (.int .u8 0) 1 1 Tryz.underlying43 hi hz0 hz1 hz2 rfl (by decide) _ _ _ rfl (ho.alloc _) ⟨wr.heap.size,0,none⟩ 1 1 [.int .u8 (IntKind.u8.wrap (n / 2 ^ (8 * (j : Int)).toNat))] rfl rfl ?c1 ?c2 ?c3 ?c4 ?c5 ?_)
   case c1 => exact cell_one_new _ _ _
   case c2 => intro u hu; simp at hu; subst hu; rfl
   case c3 => unfold maxLen; omega
   case c4 => omega
   case c5 => have := hb.size; simp; omega
   intro v' w1 hown' hgrow _
   have HB1 : Hid (w1.heap[b]? = some (.cells cur f (0,0))) := box_grown (box_alloc HB.out _) (ho.alloc _) hf hgrow
   clear h8 h9
   go_wp2
   go_roundw
   case rel =>
    refine ⟨j + 1,by omega,by go_num,?_,?_,HB1⟩
    ·rw [<- cells_snoc hn]; exact hown'
    ·exact (hb.alloc (by have := hb.size; omega) _).grown hgrow (by have := hb.size; simp; omega) (own_ge ho)
   case measure => simp [intOf]; omega
  ·have hjk : j = k := by omega
   subst hjk
   go_wp2
   go_ret
   exact ⟨_,rfl,ho,hb,HB.out⟩
theorem slot_parts (x : Option Slt) (hx : ∀ y,x = some y -> y.num < 4294967296 /\ y.blk <= 100000 /\ y.no <= 255) : ∃ kd nm bl no : Nat,(sltP x = [.int .u8 (kd : Int),.int .i64 (nm : Int),.int .i64 (bl : Int),.int .i64 (no : Int)] /\ sltB x = (([UInt8.ofNat kd] ++ lowL nm 4) ++ lowL bl 4) ++ lowL no 1) /\ kd <= 1 /\ nm < 4294967296 /\ bl <= 100000 /\ no <= 255 := by
 cases x with
 | none => exact ⟨0,0,0,0,⟨rfl,rfl⟩,by omega,by omega,by omega,by omega⟩
 | some y =>
  have := hx y rfl
  exact ⟨1,y.num,y.blk,y.no,⟨rfl,rfl⟩,by omega,by omega,by omega,by omega⟩
theorem cellsB_one (l : List UInt8) {kd : Nat} (h : kd <= 1) : cellsB l ++ [.int .u8 (kd : Int)] = cellsB (l ++ [UInt8.ofNat kd]) := by
 rw [cellsB_append]
 congr 1
 simp [cellsB]
 omega
theorem box_cells {w : World} {b f : Nat} {x0 x1 x2 x3 : Value} (h : w.heap[b]? = some (.cells #[x0,x1,x2,x3] f (0,0))) : w.cell? ⟨b,0,none⟩ = some x0 /\ w.cell? ⟨b,1,none⟩ = some x1 /\ w.cell? ⟨b,2,none⟩ = some x2 /\ w.cell? ⟨b,3,none⟩ = some x3 :=
 ⟨cell_of_row w b 0 _ f _ h,cell_of_row w b 1 _ f _ h,cell_of_row w b 2 _ f _ h,cell_of_row w b 3 _ f _ h⟩
theorem tableBytes_any (g n cap base : Nat) (t : List (Option Slt)) (w : World) (hown : w.ownsRow base 175 4 (.slice (some ⟨g,0,none⟩) n cap) n (cellsP t)) (htl : t.length = n) (hn0 : 0 < n) (hn : n <= 5000) (hslt : ∀ y : Slt,some y ∈ t -> y.num < 4294967296 /\ y.blk <= 100000 /\ y.no <= 255) (hH : HalvesAt w) :
  Calls Tryz.prog 98 #[.slice (some ⟨g,0,none⟩) n cap] w fun e w' => ∃ v',e = .returned v' /\ w'.ownsRow w.heap.size 5 1 v' (sealL (tabB t)).length (cellsB (sealL (tabB t))) /\ Below w.heap.size w w' := by
 obtain ⟨i0,hi,hz0,hz1,hz2⟩ := info_parts info_u8
 have HH : Hid (HalvesAt w) := hH
 have HOWN : Hid (w.ownsRow base 175 4 (.slice (some ⟨g,0,none⟩) n cap) n (cellsP t)) := hown
 have hgw : g < w.heap.size := by
  obtain ⟨g',c',he,_,hgw',_⟩ := own_cellsN hown hn0
  simp at he; omega
 clear hH hown
 go_enter Tryz.func98,Tryz.ntmps98
 go_wp2
 go_loopw [3,8] (fun bv i wr => ∃ (k : Nat),k <= n /\ i = .int .i64 k /\ wr.ownsRow w.heap.size 5 1 bv (tabB (t.take k)).length (cellsB (tabB (t.take k))) /\ Below w.heap.size w wr) (fun _ i _ => n - (intOf i).toNat)
 case atStart => exact ⟨0,Nat.zero_le _,rfl,World.ownsRow_nil _ _ _ _,Below.refl _ _⟩
 case round =>
  obtain ⟨k,hk,rfl,hrow,hb⟩ := hrel
  obtain ⟨W1,rfl⟩ : ∃ W1,W1 = wr := ⟨_,rfl⟩
  have hbs := hb.size
  have hll : (tabB (t.take k)).length <= 60000 := by rw [tabB_length]; simp; omega
  by_cases hkn : k < n
  ·have hta : t[k]? = some t[k] := List.getElem?_eq_getElem (by omega)
   obtain ⟨kd,nm,bl,no,⟨hP,hS⟩,l1,l2,l3,l4⟩ := slot_parts t[k] (fun y hy => hslt y (List.mem_of_getElem? (by rw [hta,hy])))
   obtain ⟨z0,z1,z2,z3⟩ := pslot_at HOWN.out hta hkn
   rw [hP] at z0 z1 z2 z3
   simp only [List.getElem?_cons_zero,List.getElem?_cons_succ] at z0 z1 z2 z3
   replace z0 := (hb.cell (p := ⟨g,k * 4,none⟩) hgw).trans z0
   replace z1 := (hb.cell (p := ⟨g,k * 4 + 1,none⟩) hgw).trans z1
   replace z2 := (hb.cell (p := ⟨g,k * 4 + 2,none⟩) hgw).trans z2
   replace z3 := (hb.cell (p := ⟨g,k * 4 + 3,none⟩) hgw).trans z3
   have HTK : Hid (tabB (t.take (k + 1)) = tabB (t.take k) ++ ((([UInt8.ofNat kd] ++ lowL nm 4) ++ lowL bl 4) ++ lowL no 1)) := by
    show _ = _
    rw [List.take_succ_eq_append_getElem (by omega),tabB_snoc,hS]
   have hbox : (W1.alloc (.cells #[.int .u8 (kd : Int),.int .i64 (nm : Int),.int .i64 (bl : Int),.int .i64 (no : Int)] 175)).heap[W1.heap.size]? = some (.cells #[.int .u8 (kd : Int),.int .i64 (nm : Int),.int .i64 (bl : Int),.int .i64 (no : Int)] 175 (0,0)) := heap_alloc_new W1 _
   have HBOX : Hid _ := hbox
   have HROW : Hid (W1.ownsRow w.heap.size 5 1 u3 (tabB (t.take k)).length (cellsB (tabB (t.take k)))) := hrow
   have HB : Hid (Below w.heap.size w W1) := hb
   clear hta hP hS hrow hb hbox hslt
   generalize tabB (t.take k) = l at *
   go_wp2_with (at_builtin; refine wpList_append_own _ rfl (.tmp 12) (.tmp 15) 43 rfl w.heap.size 5 i0 (.int .u8 0) 1 1 Tryz.underlying43 hi hz0 hz1 hz2 rfl (by decide) _ _ _ rfl ((HROW.out.alloc _).alloc _) ⟨W1.heap.size + 1,0,none⟩ 1 1 [.int .u8 (kd : Int)] rfl rfl ?c1 ?c2 ?c3 ?c4 ?c5 ?_)
   case c1 =>
    have h5 := cell_one_new (W1.alloc (.cells #[.int .u8 (kd : Int),.int .i64 (nm : Int),.int .i64 (bl : Int),.int .i64 (no : Int)] 175)) (.int .u8 (kd : Int)) 5
    rwa [show (W1.alloc (.cells #[.int .u8 (kd : Int),.int .i64 (nm : Int),.int .i64 (bl : Int),.int .i64 (no : Int)] 175)).heap.size = W1.heap.size + 1 by simp] at h5
   case c2 => intro u hu; simp at hu; subst hu; rfl
   case c3 => unfold maxLen; omega
   case c4 => omega
   case c5 => simp; omega
   intro v1 w1 hown1 hg1 _
   have hrow1 : w1.ownsRow w.heap.size 5 1 v1 (l ++ [UInt8.ofNat kd]).length (cellsB (l ++ [UInt8.ofNat kd])) := by
    rw [<- cellsB_one l l1,List.length_append]; exact hown1
   have hbx1 := box_grown (box_alloc HBOX.out (.cells #[.int .u8 (kd : Int)] 5)) ((HROW.out.alloc _).alloc _) (by decide) hg1
   have hB1 : Below w.heap.size w w1 := ((HB.out.alloc hbs _).alloc (by simp; omega) _).grown hg1 (by simp; omega) (own_ge HROW.out)
   have HBX1 : Hid _ := hbx1
   have HB1 : Hid (Below w.heap.size w w1) := hB1
   have HROW1 : Hid (w1.ownsRow w.heap.size 5 1 v1 (l ++ [UInt8.ofNat kd]).length (cellsB (l ++ [UInt8.ofNat kd]))) := hrow1
   obtain ⟨_,x1,_,_⟩ := box_cells hbx1
   have hs1 := hB1.size
   have HA1 : Hid _ := appendLow_box v1 (l ++ [UInt8.ofNat kd]) (nm : Int) 4 w1 w.heap.size (by omega) (by omega) (by omega) hrow1 hs1 (by simp; omega) W1.heap.size 175 _ hbx1 (by decide)
   clear hown1 hg1 hrow1 hbx1 hB1 z0 z1 z2 z3 HROW HBOX HB
   go_wp2_with fail
   refine Calls.mono HA1.out ?_
   rintro e w2 ⟨v2,rfl,hrow2,hb2,hbx2⟩
   have hB2 : Below w.heap.size w w2 := HB1.out.trans hb2
   have hl2 : (l ++ [UInt8.ofNat kd]).length + 4 = ((l ++ [UInt8.ofNat kd]) ++ lowL nm 4).length := by simp [lowL_length]
   rw [Int.toNat_natCast,hl2] at hrow2
   obtain ⟨_,_,x2,_⟩ := box_cells hbx2
   have HA2 : Hid _ := appendLow_box v2 ((l ++ [UInt8.ofNat kd]) ++ lowL nm 4) (bl : Int) 4 w2 w.heap.size (by omega) (by omega) (by omega) hrow2 hB2.size (by simp [lowL_length]; omega) W1.heap.size 175 _ hbx2 (by decide)
   have HB2 : Hid (Below w.heap.size w w2) := hB2
   clear x1 HA1 HB1 hrow2 hb2 hbx2 hB2 hl2 HBX1 HROW1
   go_wp2_with fail
   refine Calls.mono HA2.out ?_
   rintro e w3 ⟨v3,rfl,hrow3,hb3,hbx3⟩
   have hB3 : Below w.heap.size w w3 := HB2.out.trans hb3
   have hl3 : ((l ++ [UInt8.ofNat kd]) ++ lowL nm 4).length + 4 = (((l ++ [UInt8.ofNat kd]) ++ lowL nm 4) ++ lowL bl 4).length := by simp [lowL_length]
   rw [Int.toNat_natCast,hl3] at hrow3
   obtain ⟨_,_,_,x3⟩ := box_cells hbx3
   have HA3 : Hid _ := appendLow_box v3 (((l ++ [UInt8.ofNat kd]) ++ lowL nm 4) ++ lowL bl 4) (no : Int) 1 w3 w.heap.size (by omega) (by omega) (by omega) hrow3 hB3.size (by simp [lowL_length]; omega) W1.heap.size 175 _ hbx3 (by decide)
   have HB3 : Hid (Below w.heap.size w w3) := hB3
   clear x2 HA2 HB2 hrow3 hb3 hbx3 hB3 hl3
   go_wp2_with fail
   refine Calls.mono HA3.out ?_
   rintro e w4 ⟨v4,rfl,hrow4,hb4,_⟩
   have HB4 : Hid (Below w.heap.size w w4) := HB3.out.trans hb4
   have hl4 : (((l ++ [UInt8.ofNat kd]) ++ lowL nm 4) ++ lowL bl 4).length + 1 = ((((l ++ [UInt8.ofNat kd]) ++ lowL nm 4) ++ lowL bl 4) ++ lowL no 1).length := by simp [lowL_length]
   have he4 : (((l ++ [UInt8.ofNat kd]) ++ lowL nm 4) ++ lowL bl 4) ++ lowL no 1 = tabB (t.take (k + 1)) := by rw [HTK.out]; simp [List.append_assoc]
   rw [Int.toNat_natCast,hl4,he4] at hrow4
   have HROW4 : Hid (w4.ownsRow w.heap.size 5 1 v4 (tabB (t.take (k + 1))).length (cellsB (tabB (t.take (k + 1))))) := hrow4
   clear x3 HA3 HB3 hrow4 hb4 hl4 he4
   go_wp2
   go_roundw
   case rel => exact ⟨k + 1,by omega,by first | rfl | go_num,HROW4.out,HB4.out⟩
   case measure => first | (simp [intOf]; omega) | (simp [intOf])
  ·have hke : k = n := by omega
   subst hke
   rw [show t.take k = t from List.take_of_length_le (by omega)] at hrow hll
   have HSE : Hid _ := seal_any _ (tabB t) w.heap.size W1 hrow hbs (by omega) (HH.out.below hb HH.out.1)
   clear hrow
   go_wp2_with fail
   refine Calls.mono HSE.out ?_
   rintro e w2 ⟨v2,rfl,hrow2,hb2⟩
   have HROW2 : Hid (w2.ownsRow w.heap.size 5 1 v2 (sealL (tabB t)).length (cellsB (sealL (tabB t)))) := hrow2
   clear hrow2
   go_wp2
   go_ret
   exact ⟨_,rfl,HROW2.out,hb.trans hb2⟩
theorem beginsE_ix (log ix : List UInt8) : beginsE log ix = if ixOK ix = false then 3 else if (decide (ixSize ix = log.length) && decide ((ixSum ix : Int) = sumI log)) = false then 4 else if headB log = false then 3 else 0 := by
 unfold beginsE
 have e1 : (ix.length < 20 \/ sealedB (ix.take 20) = false \/ (ix.take 2 == [73,88]) = false \/ ixN ix = 0 \/ ix.length ≠ 20 + 10 * ixN ix + 4) ↔ ixOK ix = false := by
  unfold ixOK
  cases hA : sealedB (ix.take 20) <;> cases hB : (ix.take 2 == [73,88]) <;> simp <;> omega
 have e2 : (ixSize ix ≠ log.length \/ (ixSum ix : Int) ≠ sumI log) ↔ (decide (ixSize ix = log.length) && decide ((ixSum ix : Int) = sumI log)) = false := by
  simp only [Bool.and_eq_false_iff,decide_eq_false_iff_not]
 by_cases h1 : ixOK ix = false
 ·rw [if_pos (e1.2 h1),if_pos h1]
 ·rw [if_neg (fun h => h1 (e1.1 h)),if_neg h1]
  by_cases h2 : (decide (ixSize ix = log.length) && decide ((ixSum ix : Int) = sumI log)) = false
  ·rw [if_pos (e2.2 h2),if_pos h2]
  ·rw [if_neg (fun h => h2 (e2.1 h)),if_neg h2]
def viewV (log : ByteArray) (bk sd bt xl xn xf xs xm : Nat) (body : ByteArray) : Value := .agg #[.string log,.int .i64 bk,.int .i64 sd,.int .i64 bt,.int .i64 xl,.int .i64 xn,.int .i64 xf,.int .i64 xs,.int .i64 xm,.string body]
def openV (log ix : ByteArray) : Value := if beginsE log.data.toList ix.data.toList = 0 then .tuple #[viewV log (hdBlk log.data.toList) (hdSeed log.data.toList) (hdBits log.data.toList) (ixLive ix.data.toList) (ixN ix.data.toList) (ixFar ix.data.toList) (ixSize ix.data.toList) (ixSum ix.data.toList) (S ((ix.data.toList.drop 20).take (10 * ixN ix.data.toList))),.int .i64 0] else .tuple #[.agg #[.string ⟨#[]⟩,.int .i64 0,.int .i64 0,.int .i64 0,.int .i64 0,.int .i64 0,.int .i64 0,.int .i64 0,.int .i64 0,.string ⟨#[]⟩],.int .i64 (beginsE log.data.toList ix.data.toList)]
theorem openV_err {log ix : ByteArray} {n : Int} (h : beginsE log.data.toList ix.data.toList = n) (hn : n ≠ 0) : openV log ix = .tuple #[.agg #[.string ⟨#[]⟩,.int .i64 0,.int .i64 0,.int .i64 0,.int .i64 0,.int .i64 0,.int .i64 0,.int .i64 0,.int .i64 0,.string ⟨#[]⟩],.int .i64 n] := by
 unfold openV
 rw [h,if_neg hn]
def Box10 (w W : World) : Prop := (W.cell? ⟨w.heap.size,0,none⟩ = some (.string ⟨#[]⟩) /\ W.cell? ⟨w.heap.size,1,none⟩ = some (.int .i64 0) /\ W.cell? ⟨w.heap.size,2,none⟩ = some (.int .i64 0) /\ W.cell? ⟨w.heap.size,3,none⟩ = some (.int .i64 0) /\ W.cell? ⟨w.heap.size,4,none⟩ = some (.int .i64 0) /\ W.cell? ⟨w.heap.size,5,none⟩ = some (.int .i64 0) /\ W.cell? ⟨w.heap.size,6,none⟩ = some (.int .i64 0) /\ W.cell? ⟨w.heap.size,7,none⟩ = some (.int .i64 0) /\ W.cell? ⟨w.heap.size,8,none⟩ = some (.int .i64 0) /\ W.cell? ⟨w.heap.size,9,none⟩ = some (.string ⟨#[]⟩)) /\ (∀ i,W.frozen? ⟨w.heap.size,i,none⟩ = false) /\ Below w.heap.size w W /\ w.heap.size < W.heap.size
theorem Box10.below {w W W' : World} (h : Box10 w W) (hb : Below W.heap.size W W') : Box10 w W' := by
 obtain ⟨⟨h0,h1,h2,h3,h4,h5,h6,h7,h8,h9⟩,hf,hB,hz⟩ := h
 exact ⟨⟨(hb.cell (p := ⟨w.heap.size,0,none⟩) hz).trans h0,(hb.cell (p := ⟨w.heap.size,1,none⟩) hz).trans h1,(hb.cell (p := ⟨w.heap.size,2,none⟩) hz).trans h2,(hb.cell (p := ⟨w.heap.size,3,none⟩) hz).trans h3,(hb.cell (p := ⟨w.heap.size,4,none⟩) hz).trans h4,(hb.cell (p := ⟨w.heap.size,5,none⟩) hz).trans h5,(hb.cell (p := ⟨w.heap.size,6,none⟩) hz).trans h6,(hb.cell (p := ⟨w.heap.size,7,none⟩) hz).trans h7,(hb.cell (p := ⟨w.heap.size,8,none⟩) hz).trans h8,(hb.cell (p := ⟨w.heap.size,9,none⟩) hz).trans h9⟩,fun i => (hb.frozen (p := ⟨w.heap.size,i,none⟩) hz).trans (hf i),hB.trans (hb.mono (Nat.le_of_lt hz)),Nat.lt_of_lt_of_le hz hb.size⟩
theorem box10_new (w : World) (t : TypeId) : Box10 w (w.alloc (.cells #[.string ⟨#[]⟩,.int .i64 0,.int .i64 0,.int .i64 0,.int .i64 0,.int .i64 0,.int .i64 0,.int .i64 0,.int .i64 0,.string ⟨#[]⟩] t)) :=
 ⟨⟨by simp,by simp,by simp,by simp,by simp,by simp,by simp,by simp,by simp,by simp⟩,fun i => by simp,(Below.refl _ _).alloc (Nat.le_refl _) _,by simp⟩
theorem open_any (log ix : ByteArray) (w : World) (hlog : log.size <= 140737488351232) (hix : ix.size <= 140737488351232) (hH : HalvesAt w) :
  Calls Tryz.prog 81 #[.string log,.string ix] w fun e w' => e = .returned (openV log ix) /\ Below w.heap.size w w' := by
 have hl : log.data.toList.length = log.size := by simp
 have HBE : Hid (beginsE log.data.toList ix.data.toList = _) := beginsE_ix log.data.toList ix.data.toList
 have hB0 := box10_new w 141
 have hH0 := hH.below hB0.2.2.1 hH.1
 have HRF : Hid _ := readFront_any ix _ hix hH0
 have HHW : Hid (HalvesAt w) := hH
 clear hH0 hH
 go_enter Tryz.func81,Tryz.ntmps81
 go_wp2_with fail
 refine Calls.mono HRF.out ?_
 rintro e w1 ⟨rfl,hb1⟩
 have hB1 := hB0.below hb1
 clear hB0 hb1 HRF
 rw [frontV]
 cases hok : ixOK ix.data.toList
 ·rw [if_neg (by decide)]
  have HV : Hid (openV log ix = _) := openV_err (by rw [HBE.out,if_pos hok]) (by decide)
  obtain ⟨⟨r0,r1,r2,r3,r4,r5,r6,r7,r8,r9⟩,rf,hB,hz⟩ := hB1
  have HB : Hid (Below w.heap.size w w1) := hB
  have f0 := rf 0
  have f1 := rf 1
  have f2 := rf 2
  have f3 := rf 3
  have f4 := rf 4
  have f5 := rf 5
  have f6 := rf 6
  have f7 := rf 7
  have f8 := rf 8
  have f9 := rf 9
  have hne : w.heap.size ≠ w1.heap.size := by omega
  have hne2 : w1.heap.size ≠ w.heap.size := by omega
  clear rf hB HBE hok
  go_wp2
  exact bodyPost_ret (v := .tuple #[.agg #[.string ⟨#[]⟩,.int .i64 0,.int .i64 0,.int .i64 0,.int .i64 0,.int .i64 0,.int .i64 0,.int .i64 0,.int .i64 0,.string ⟨#[]⟩],.int .i64 3]) (by simp [results,Tryz.results81,go_sem,r0,r1,r2,r3,r4,r5,r6,r7,r8,r9,hz]) rfl ⟨by rw [HV.out],((((((((((HB.out.setCell (Nat.le_refl _) _).setCell (Nat.le_refl _) _).setCell (Nat.le_refl _) _).setCell (Nat.le_refl _) _).setCell (Nat.le_refl _) _).setCell (Nat.le_refl _) _).setCell (Nat.le_refl _) _).setCell (Nat.le_refl _) _).setCell (Nat.le_refl _) _).setCell (Nat.le_refl _) _).alloc (by simp; omega) _⟩
 ·rw [if_pos rfl]
  have HBE2 : Hid (beginsE log.data.toList ix.data.toList = if (decide (ixSize ix.data.toList = log.size) && decide ((ixSum ix.data.toList : Int) = sumI log.data.toList)) = false then 4 else if headB log.data.toList = false then 3 else 0) := by
   show _ = _
   rw [HBE.out,if_neg (by rw [hok]; decide),hl]
  have HOV : Hid (beginsE log.data.toList ix.data.toList = 0 -> openV log ix = .tuple #[viewV log (hdBlk log.data.toList) (hdSeed log.data.toList) (hdBits log.data.toList) (ixLive ix.data.toList) (ixN ix.data.toList) (ixFar ix.data.toList) (ixSize ix.data.toList) (ixSum ix.data.toList) (S ((ix.data.toList.drop 20).take (10 * ixN ix.data.toList))),.int .i64 0]) := fun h => by rw [openV,if_pos h]
  clear HBE hok
  generalize ixLive ix.data.toList = xl at *
  generalize ixFar ix.data.toList = xf at *
  generalize ixSize ix.data.toList = xs at *
  generalize ixSum ix.data.toList = xm at *
  generalize S ((ix.data.toList.drop 20).take (10 * ixN ix.data.toList)) = body at *
  generalize ixN ix.data.toList = xn at *
  have HIS : Hid _ := isOf_any xl xn xf xs xm log
  have hA := (Below.refl w1.heap.size w1).alloc (Nat.le_refl _) (.cells #[.int .i64 (xl : Int),.int .i64 (xn : Int),.int .i64 (xf : Int),.int .i64 (xs : Int),.int .i64 (xm : Int)] 139)
  have hBA := hB1.below hA
  have hzA : (w1.alloc (.cells #[.int .i64 (xl : Int),.int .i64 (xn : Int),.int .i64 (xf : Int),.int .i64 (xs : Int),.int .i64 (xm : Int)] 139)).heap.size = w1.heap.size + 1 := by simp
  go_wp2_with fail
  refine (HIS.out _ (by omega)).mono ?_
  rintro e w2 ⟨rfl,hb2⟩
  have hB2 := hBA.below hb2
  have hz12 : w1.heap.size < w2.heap.size := by have := hb2.size; omega
  have d0 : w2.cell? ⟨w1.heap.size,0,none⟩ = some (.int .i64 xl) := by rw [hb2.cell (p := ⟨w1.heap.size,0,none⟩) (by simp)]; simp
  have d1 : w2.cell? ⟨w1.heap.size,1,none⟩ = some (.int .i64 xn) := by rw [hb2.cell (p := ⟨w1.heap.size,1,none⟩) (by simp)]; simp
  have d2 : w2.cell? ⟨w1.heap.size,2,none⟩ = some (.int .i64 xf) := by rw [hb2.cell (p := ⟨w1.heap.size,2,none⟩) (by simp)]; simp
  have d3 : w2.cell? ⟨w1.heap.size,3,none⟩ = some (.int .i64 xs) := by rw [hb2.cell (p := ⟨w1.heap.size,3,none⟩) (by simp)]; simp
  have d4 : w2.cell? ⟨w1.heap.size,4,none⟩ = some (.int .i64 xm) := by rw [hb2.cell (p := ⟨w1.heap.size,4,none⟩) (by simp)]; simp
  have hz01 : w.heap.size < w1.heap.size := hB1.2.2.2
  clear hBA hA hb2 HIS hB1 hzA
  cases hof : (decide (xs = log.size) && decide ((xm : Int) = sumI log.data.toList))
  ·have HV : Hid (openV log ix = _) := openV_err (by rw [HBE2.out,if_pos hof]) (by decide)
   clear HBE2 HOV hof
   obtain ⟨⟨r0,r1,r2,r3,r4,r5,r6,r7,r8,r9⟩,rf,hB,hz⟩ := hB2
   have HB : Hid (Below w.heap.size w w2) := hB
   have f0 := rf 0
   have f1 := rf 1
   have f2 := rf 2
   have f3 := rf 3
   have f4 := rf 4
   have f5 := rf 5
   have f6 := rf 6
   have f7 := rf 7
   have f8 := rf 8
   have f9 := rf 9
   have hne : w.heap.size ≠ w2.heap.size := by omega
   have hne2 : w2.heap.size ≠ w.heap.size := by omega
   clear rf hB
   go_wp2
   exact bodyPost_ret (v := .tuple #[.agg #[.string ⟨#[]⟩,.int .i64 0,.int .i64 0,.int .i64 0,.int .i64 0,.int .i64 0,.int .i64 0,.int .i64 0,.int .i64 0,.string ⟨#[]⟩],.int .i64 4]) (by simp [results,Tryz.results81,go_sem,r0,r1,r2,r3,r4,r5,r6,r7,r8,r9,hz]) rfl ⟨by rw [HV.out],((((((((((HB.out.setCell (Nat.le_refl _) _).setCell (Nat.le_refl _) _).setCell (Nat.le_refl _) _).setCell (Nat.le_refl _) _).setCell (Nat.le_refl _) _).setCell (Nat.le_refl _) _).setCell (Nat.le_refl _) _).setCell (Nat.le_refl _) _).setCell (Nat.le_refl _) _).setCell (Nat.le_refl _) _)⟩
  ·have HBE3 : Hid (beginsE log.data.toList ix.data.toList = if headB log.data.toList = false then 3 else 0) := by
    show _ = _
    rw [HBE2.out,if_neg (by rw [hof]; decide)]
   have hH2 := HHW.out.below hB2.2.2.1 HHW.out.1
   have HRH : Hid _ := readHead_any log w2 hlog hH2
   clear HBE2 hof hH2
   go_wp2_with fail
   refine Calls.mono HRH.out ?_
   rintro e w3 ⟨rfl,hb3⟩
   have hB3 := hB2.below hb3
   have hz13 : w1.heap.size < w3.heap.size := Nat.lt_of_lt_of_le hz12 hb3.size
   replace d0 := (hb3.cell (p := ⟨w1.heap.size,0,none⟩) hz12).trans d0
   replace d1 := (hb3.cell (p := ⟨w1.heap.size,1,none⟩) hz12).trans d1
   replace d2 := (hb3.cell (p := ⟨w1.heap.size,2,none⟩) hz12).trans d2
   replace d3 := (hb3.cell (p := ⟨w1.heap.size,3,none⟩) hz12).trans d3
   replace d4 := (hb3.cell (p := ⟨w1.heap.size,4,none⟩) hz12).trans d4
   clear HRH hb3 hB2 hz12
   unfold headV
   cases hh : headB log.data.toList
   ·have HV : Hid (openV log ix = _) := openV_err (by rw [HBE3.out,if_pos hh]) (by decide)
    rw [if_neg (by decide)]
    clear HBE3 HOV hh
    obtain ⟨⟨r0,r1,r2,r3,r4,r5,r6,r7,r8,r9⟩,rf,hB,hz⟩ := hB3
    have HB : Hid (Below w.heap.size w w3) := hB
    have f0 := rf 0
    have f1 := rf 1
    have f2 := rf 2
    have f3 := rf 3
    have f4 := rf 4
    have f5 := rf 5
    have f6 := rf 6
    have f7 := rf 7
    have f8 := rf 8
    have f9 := rf 9
    have hne : w.heap.size ≠ w3.heap.size := by omega
    have hne2 : w3.heap.size ≠ w.heap.size := by omega
    clear rf hB
    go_wp2
    exact bodyPost_ret (v := .tuple #[.agg #[.string ⟨#[]⟩,.int .i64 0,.int .i64 0,.int .i64 0,.int .i64 0,.int .i64 0,.int .i64 0,.int .i64 0,.int .i64 0,.string ⟨#[]⟩],.int .i64 3]) (by simp [results,Tryz.results81,go_sem,r0,r1,r2,r3,r4,r5,r6,r7,r8,r9,hz]) rfl ⟨by rw [HV.out],((((((((((HB.out.setCell (Nat.le_refl _) _).setCell (Nat.le_refl _) _).setCell (Nat.le_refl _) _).setCell (Nat.le_refl _) _).setCell (Nat.le_refl _) _).setCell (Nat.le_refl _) _).setCell (Nat.le_refl _) _).setCell (Nat.le_refl _) _).setCell (Nat.le_refl _) _).setCell (Nat.le_refl _) _).alloc (by simp; omega) _⟩
   ·have HV : Hid (openV log ix = _) := HOV.out (by rw [HBE3.out,if_neg (by rw [hh]; decide)])
    rw [if_pos rfl]
    clear HBE3 HOV hh
    generalize hdBlk log.data.toList = bk at *
    generalize hdSeed log.data.toList = sdn at *
    generalize hdBits log.data.toList = btn at *
    obtain ⟨⟨r0,r1,r2,r3,r4,r5,r6,r7,r8,r9⟩,rf,hB,hz⟩ := hB3
    have HB : Hid (Below w.heap.size w w3) := hB
    have f0 := rf 0
    have f1 := rf 1
    have f2 := rf 2
    have f3 := rf 3
    have f4 := rf 4
    have f5 := rf 5
    have f6 := rf 6
    have f7 := rf 7
    have f8 := rf 8
    have f9 := rf 9
    have n1 : w.heap.size ≠ w3.heap.size := by omega
    have n2 : w3.heap.size ≠ w.heap.size := by omega
    have n3 : w1.heap.size ≠ w3.heap.size := by omega
    have n4 : w3.heap.size ≠ w1.heap.size := by omega
    have n5 : w.heap.size ≠ w1.heap.size := by omega
    have n6 : w1.heap.size ≠ w.heap.size := by omega
    clear rf hB
    go_wp2
    exact bodyPost_ret (v := .tuple #[viewV log bk sdn btn xl xn xf xs xm body,.int .i64 0]) (by simp [results,Tryz.results81,go_sem,r0,r1,r2,r3,r4,r5,r6,r7,r8,r9,hz,viewV]) rfl ⟨by rw [HV.out],((((((((((HB.out.setCell (Nat.le_refl _) _).setCell (Nat.le_refl _) _).setCell (Nat.le_refl _) _).setCell (Nat.le_refl _) _).setCell (Nat.le_refl _) _).setCell (Nat.le_refl _) _).setCell (Nat.le_refl _) _).setCell (Nat.le_refl _) _).setCell (Nat.le_refl _) _).setCell (Nat.le_refl _) _).alloc (by simp; omega) _⟩
end Go.Proofs.YtdhgebdbiehchaaGreatDoor
