/- On the way: KpTells, KpKept, KpKept2, SpInts, SpInts2, SpSeg, SpBytes, SpTurn, SpWalk. -/
import Derived.Test.YtdhgebdbiehchaaGreatDoorB44
import Derived.Test.YtdhgebdbiehchaaGreatDoorB45
import Derived.Test.YtdhgebdbiehchaaGreatDoorB42
import Derived.Test.YtdhgebdbiehchaaGreatDoorB40
import Derived.Test.YtdhgebdbiehchaaGreatDoorB37
import Derived.Test.YtdhgebdbiehchaaGreatDoorB30
import Derived.Test.YtdhgebdbiehchaaGreatDoorB10
import Derived.Test.YtdhgebdbiehchaaGreatDoorB15
namespace Go.Proofs.YtdhgebdbiehchaaGreatDoor
open Go.RowKit Go.Maps
set_option linter.unusedSimpArgs false
set_option linter.unusedVariables false
set_option maxRecDepth 100000
set_option maxHeartbeats 1600000
theorem kdk_ok {blk seed bits : Nat} {bs : List (List Ent)} {sy : Nat} {f2 : Option Fl} {ws : List Ent} {c : Nat} (h : KOk blk seed bits bs f2 ws c) (hc : c <= 600) (hsy : sy <= (headL blk seed bits ++ blocksB bs).length) (hs2 : ∀ f,f2 = some f -> f.sync <= f.text.length) : DkOk (kdk blk seed bits bs sy f2 ws) := by
 have h1 := h.text
 have h2 := h.idx
 refine ⟨Nat.le_refl _,?_,?_,?_,(fun e => by cases e),h.hws,h.most,?_⟩
 ·rw [kdk_used]
  show _ <= 100000
  omega
 ·intro i f hf
  unfold Dk.file at hf
  split at hf
  ·cases hf; exact hsy
  ·split at hf
   ·cases hf
   ·split at hf
    ·exact hs2 f hf
    ·cases hf
 ·intro b e
  cases e
  exact ⟨rfl,h.hblk.1,h.hblk.2,rfl⟩
 ·intro b e
  cases e
  exact h.size
structure KSt (E : Sent) (n bx bh blk seed bits c : Nat) (es : List Ent) (G : Nat -> Prop) (bs : List (List Ent)) (sy : Nat) (f2 : Option Fl) (ws : List Ent) (L : List Sd) (w : World) : Prop where
 at' : KAt E n G bx bh (kdk blk seed bits bs sy f2 ws) L w
 ok : KOk blk seed bits bs f2 ws c
 sync : sy <= (headL blk seed bits ++ blocksB bs).length
 sync2 : ∀ f,f2 = some f -> f.sync <= f.text.length
 said : bs.flatten ++ ws = es
 alike : L.map kv = (heldS es).map kv
 few : L.length <= c
def KS (E : Sent) (n bx bh blk seed bits c : Nat) (es : List Ent) (w : World) : Prop := ∃ G bs sy f2 ws L,KSt E n bx bh blk seed bits c es G bs sy f2 ws L w
def KF (E : Sent) (n bx bh blk seed bits c : Nat) (es : List Ent) (w : World) : Prop := ∃ G bs sy f2 L,KSt E n bx bh blk seed bits c es G bs sy f2 [] L w
theorem but_alike {k : List UInt8} {L M : List Sd} (h : L.map kv = M.map kv) : (butK k L).map kv = (M.filter (fun y => decide (y.key ≠ k))).map kv := by
 have e : ∀ l : List Sd,(l.filter (fun y => decide (y.key ≠ k))).map kv = (l.map kv).filter (fun q => decide (q.1 ≠ k)) := fun l => by
  rw [List.filter_map]; rfl
 unfold butK
 rw [e,e,h]
theorem next_alike {es : List Ent} {e : Ent} {L : List Sd} (h : L.map kv = (heldS es).map kv) : (butK e.key L ++ (if e.put = true then [entS e] else [])).map kv = (heldS (es ++ [e])).map kv := by
 rw [heldS_snoc,List.map_append,List.map_append,but_alike h]
theorem kentry_any (E : Sent) (n bx bh blk seed bits c : Nat) (es : List Ent) (a b : Int) (w : World) (h : KS E n bx bh blk seed bits c es w) (hc : c <= 500) (ha : IntR a) (hb : IntR b) :
  Calls Tryz.prog 15 #[.pointer (some ⟨bx,0,none⟩),.pointer (some ⟨bh,0,none⟩),.int .i64 a,.int .i64 b] w fun e w' => e = .returned (.bool true) /\ KS E n bx bh blk seed bits (c + 1) (es ++ [entK a b]) w' /\ Below n w w' := by
 obtain ⟨G,bs,sy,f2,ws,L,h⟩ := h
 have hok : DkOk (kdk blk seed bits bs sy f2 ws) := kdk_ok h.ok (by omega) h.sync h.sync2
 obtain ⟨bs',ws',e1,e2,e3,e4⟩ := k_add (sy := sy) h.ok (by omega) (entK_ok a b)
 have hL := h.few
 have hb1 : ∀ k,(butK k L).length <= L.length := fun k => List.length_filter_le _ _
 have hsy : sy <= (headL blk seed bits ++ blocksB bs').length := by
  have := h.sync
  rw [List.length_append] at this ⊢
  omega
 have hfin : ∀ (G' : Nat -> Prop) (w' : World),KAt E n G' bx bh (kdk blk seed bits bs' sy f2 ws') (butK (entK a b).key L ++ (if (entK a b).put = true then [entS (entK a b)] else [])) w' -> KS E n bx bh blk seed bits (c + 1) (es ++ [entK a b]) w' := fun G' w' hk => by
  refine ⟨G',bs',sy,f2,ws',_,hk,e2,hsy,h.sync2,by rw [e4,h.said],next_alike h.alike,?_⟩
  rw [List.length_append]
  have := hb1 (entK a b).key
  split <;> simp <;> omega
 by_cases hp : pickK b 4 = 0
 ·have he : entK a b = ⟨false,keyR a,[]⟩ := by unfold entK; rw [if_pos hp]
  rw [he] at e1 hfin ⊢
  refine (kentry_del E n G bx bh _ L a b w h.at' hok (by omega) ha hb hp (by rw [e1])).mono ?_
  rw [e1]
  rintro e w' ⟨rfl,G',hk,hbw⟩
  exact ⟨rfl,hfin G' w' (by rw [if_neg (by simp),List.append_nil]; exact hk),hbw⟩
 ·have he : entK a b = ⟨true,keyR a,valueK (b.tdiv 4)⟩ := by unfold entK; rw [if_neg hp]
  rw [he] at e1 hfin ⊢
  refine (kentry_put E n G bx bh _ L a b w h.at' hok (by omega) ha hb hp (by rw [e1])).mono ?_
  rw [e1]
  rintro e w' ⟨rfl,G',hk,hbw⟩
  exact ⟨rfl,hfin G' w' (by rw [if_pos rfl]; exact hk),hbw⟩
theorem kflush_any (E : Sent) (n bx bh blk seed bits c : Nat) (es : List Ent) (w : World) (h : KS E n bx bh blk seed bits c es w) (hc : c <= 600) :
  Calls Tryz.prog 17 #[.pointer (some ⟨bx,0,none⟩)] w fun e w' => e = .returned (.int .i64 0) /\ KF E n bx bh blk seed bits c es w' /\ Below n w w' := by
 obtain ⟨G,bs,sy,f2,ws,L,h⟩ := h
 have hok : DkOk (kdk blk seed bits bs sy f2 ws) := kdk_ok h.ok (by omega) h.sync h.sync2
 obtain ⟨bs',sy',e1,e2,e3,e4⟩ := k_flush (sy := sy) h.ok (by omega)
 obtain ⟨q,hq⟩ := h.at'.st
 refine (flush_any E n G bx _ q w h.at'.env h.at'.gs hq hok).mono ?_
 rw [e1]
 rintro e w' ⟨rfl,hd⟩
 obtain ⟨k1,k2⟩ := h.at'.store hd
 exact ⟨rfl,⟨_,bs',sy',f2,L,k1,e2,e3,h.sync2,by rw [List.append_nil,e4,h.said],h.alike,h.few⟩,k2⟩
theorem KS.drew {E : Sent} {n bx bh blk seed bits c : Nat} {es : List Ent} {w : World} (h : KS E n bx bh blk seed bits c es w) : KS E n bx bh blk seed bits c es w.drew := by
 obtain ⟨G,bs,sy,f2,ws,L,h⟩ := h
 exact ⟨G,bs,sy,f2,ws,L,h.at'.below (Below.refl _ _).drew,h.ok,h.sync,h.sync2,h.said,h.alike,h.few⟩
theorem KSt.below {E : Sent} {n bx bh blk seed bits c : Nat} {es : List Ent} {G : Nat -> Prop} {bs : List (List Ent)} {sy : Nat} {f2 : Option Fl} {ws : List Ent} {L : List Sd} {w w' : World} (h : KSt E n bx bh blk seed bits c es G bs sy f2 ws L w) (hb : Below w.heap.size w w') : KSt E n bx bh blk seed bits c es G bs sy f2 ws L w' := ⟨h.at'.below hb,h.ok,h.sync,h.sync2,h.said,h.alike,h.few⟩
def KE (E : Sent) (n bx : Nat) (T ix : List UInt8) (w : World) : Prop := (∃ (G : Nat -> Prop) (q : StP) (d : Dk),Env0 n w E /\ StoreAt w G bx d q /\ d.fileR [108,111,103] = (T,0) /\ d.fileR [105,110,100,101,120] = (ix,0)) /\ indexS T = some ix /\ T.length <= 100000
theorem KE.below {E : Sent} {n bx : Nat} {T ix : List UInt8} {w w' : World} (h : KE E n bx T ix w) (hb : Below w.heap.size w w') : KE E n bx T ix w' := by
 obtain ⟨⟨G,q,d,h1,h2,h3,h4⟩,h5,h6⟩ := h
 exact ⟨⟨G,q,d,h1.below (hb.mono h1.le),h2.below hb,h3,h4⟩,h5,h6⟩
theorem KE.log {E : Sent} {n bx : Nat} {T ix : List UInt8} {w : World} (h : KE E n bx T ix w) : Calls Tryz.prog 19 #[.pointer (some ⟨bx,0,none⟩),.string ⟨#[108,111,103]⟩] w fun e w' => e = .returned (.tuple #[.string (S T),.int .i64 0]) /\ KE E n bx T ix w' /\ Below w.heap.size w w' := by
 have h0 := h
 obtain ⟨⟨G,q,d,h1,h2,h3,h4⟩,h5,h6⟩ := h
 refine (fileS_any E n G bx d q ⟨#[108,111,103]⟩ w h1 h2 (by decide)).mono ?_
 rw [show (⟨#[108,111,103]⟩ : ByteArray).data.toList = [108,111,103] from rfl,h3]
 rintro e w' ⟨rfl,hb⟩
 exact ⟨rfl,h0.below hb,hb⟩
theorem KE.idx {E : Sent} {n bx : Nat} {T ix : List UInt8} {w : World} (h : KE E n bx T ix w) : Calls Tryz.prog 19 #[.pointer (some ⟨bx,0,none⟩),.string ⟨#[105,110,100,101,120]⟩] w fun e w' => e = .returned (.tuple #[.string (S ix),.int .i64 0]) /\ KE E n bx T ix w' /\ Below w.heap.size w w' := by
 have h0 := h
 obtain ⟨⟨G,q,d,h1,h2,h3,h4⟩,h5,h6⟩ := h
 refine (fileS_any E n G bx d q ⟨#[105,110,100,101,120]⟩ w h1 h2 (by decide)).mono ?_
 rw [show (⟨#[105,110,100,101,120]⟩ : ByteArray).data.toList = [105,110,100,101,120] from rfl,h4]
 rintro e w' ⟨rfl,hb⟩
 exact ⟨rfl,h0.below hb,hb⟩
theorem KE.again {E : Sent} {n bx : Nat} {T ix : List UInt8} {w : World} (h : KE E n bx T ix w) : Calls Tryz.prog 20 #[.string (S T)] w fun e w' => e = .returned (.tuple #[.string (S ix),.int .i64 0]) /\ Below w.heap.size w w' := by
 obtain ⟨⟨G,q,d,h1,h2,h3,h4⟩,h5,h6⟩ := h
 refine (progIndex_any (S T) w (by rw [S_size]; omega) h1.env.halves).mono ?_
 rw [show (S T).data.toList = T from rfl,h5]
 exact fun e w' h => h
theorem ks_new {E : Sent} {n bs blk seed bits : Nat} {q : StP} {w1 w2 : World} (hE : Env0 n w2 E) (hn : n <= w1.heap.size) (hS : StoreAt w2 (Gnew w1 w2) bs (kdk blk seed bits [] 14 none []) q) (hK : KOk blk seed bits [] none [] 0) :
  KS E n bs w2.heap.size blk seed bits 0 [] (w2.alloc (.cells #[.slice none 0 0] 34)) := by
 have hb : Below w2.heap.size w2 (w2.alloc (.cells #[.slice none 0 0] 34)) := (Below.refl _ _).alloc (Nat.le_refl _) _
 refine ⟨Gnew w1 w2,[],14,none,[],[],⟨hE.below (hb.mono hE.le),fun k hk => ⟨Nat.le_trans hn hk.1,?_⟩,⟨q,hS.below hb⟩,⟨.slice none 0 0,⟨bx_new w2 _ _ rfl,World.ownsRow_nil _ _ _ _⟩,(fun e => by cases e),(fun g e => by cases e)⟩,hE.le,fun hk => absurd hk.2 (by omega)⟩,hK,?_,(fun f e => by cases e),rfl,rfl,by simp⟩
 ·have := hk.2
  simp
  omega
 ·rw [List.length_append,headL_length]
  omega
theorem info_int : (Tryz.prog.info? 3).map (fun i => (i.zero,i.size,i.bytes)) = some (some (.int .i64 0),1,8) := by kernel_rfl
def cellsN (l : List Int) : List Value := l.map fun x => .int .i64 x
theorem app_int {W : World} {base : Nat} {v : Value} {l : List Int} {x : Int} {g0 : Nat} (h1 : W.ownsRow base 3 1 v l.length (cellsN l)) (hg : W.cell? ⟨g0,0,none⟩ = some (.int .i64 x)) (hl : l.length <= 1000000) (hbase : base <= W.heap.size) :
  ∃ g cap w',(Builtin.append_ #[25,25] 25 #[v,.slice (some ⟨g0,0,none⟩) 1 1]).run Tryz.prog W = .ok (.slice (some ⟨g,0,none⟩) (l.length + 1) cap) w' /\
   w'.ownsRow base 3 1 (.slice (some ⟨g,0,none⟩) (l.length + 1) cap) (l.length + 1) (cellsN (l ++ [x])) /\ W.grownBy w' v.ownBlock /\ (v.ownBlock = some g \/ W.heap.size <= g) := by
 obtain ⟨i0,hi,hz0,hz1,hz2⟩ := info_parts info_int
 obtain ⟨g,cap,w',a1,a2,a3,a4,a5⟩ := run_append_lies (P := Tryz.prog) W 25 25 base 3 i0 (.int .i64 0) 1 8 Tryz.underlying25 hi hz0 hz1 hz2 rfl (by decide) v l.length (cellsN l) h1 ⟨g0,0,none⟩ 1 1 [.int .i64 x] rfl (fun j u hu => by
  match j,hu with
  | 0,hu => cases hu; exact hg) (by simp [Value.oneCell']) (by omega) (by unfold maxLen; omega) (by omega) hbase _ rfl
 have e : cellsN (l ++ [x]) = cellsN l ++ [.int .i64 x] := by simp [cellsN]
 rw [<- e] at a2
 exact ⟨g,cap,w',a1,a2,a3,a4.imp id (fun h => by omega)⟩
def begL : Nat -> List (List Ent) -> List Int
 | _,[] => []
 | a,es :: bs => ((a + 3 : Nat) : Int) :: begL (a + (blockB es).length) bs
def endL : Nat -> List (List Ent) -> List Int
 | _,[] => []
 | a,es :: bs => ((a + (blockB es).length : Nat) : Int) :: endL (a + (blockB es).length) bs
theorem begL_snoc (a : Nat) (bs : List (List Ent)) (es : List Ent) : begL a (bs ++ [es]) = begL a bs ++ [((a + (blocksB bs).length + 3 : Nat) : Int)] := by
 induction bs generalizing a with
 | nil => simp [begL,blocksB]
 | cons e bs ih =>
  rw [List.cons_append,begL,begL,ih,blocksB_cons,List.length_append,List.cons_append]
  congr 4
  omega
theorem endL_snoc (a : Nat) (bs : List (List Ent)) (es : List Ent) : endL a (bs ++ [es]) = endL a bs ++ [((a + (blocksB bs).length + (blockB es).length : Nat) : Int)] := by
 induction bs generalizing a with
 | nil => simp [endL,blocksB]
 | cons e bs ih =>
  rw [List.cons_append,endL,endL,ih,blocksB_cons,List.length_append,List.cons_append]
  congr 4
  omega
theorem begL_length (a : Nat) (bs : List (List Ent)) : (begL a bs).length = bs.length := by
 induction bs generalizing a with
 | nil => rfl
 | cons e bs ih => simp [begL,ih]
theorem endL_length (a : Nat) (bs : List (List Ent)) : (endL a bs).length = bs.length := by
 induction bs generalizing a with
 | nil => rfl
 | cons e bs ih => simp [endL,ih]
theorem begL_get (a : Nat) (bs : List (List Ent)) (j : Nat) (h : j < bs.length) : (begL a bs)[j]? = some ((a + (blocksB (bs.take j)).length + 3 : Nat) : Int) := by
 induction bs generalizing a j with
 | nil => simp at h
 | cons e bs ih =>
  cases j with
  | zero => simp [begL,blocksB]
  | succ j =>
   rw [begL,List.getElem?_cons_succ,ih _ j (by simpa using h),List.take_succ_cons,blocksB_cons,List.length_append]
   congr 3
   omega
theorem endL_get (a : Nat) (bs : List (List Ent)) (j : Nat) (h : j < bs.length) : (endL a bs)[j]? = some ((a + (blocksB (bs.take j)).length + (blockB bs[j]).length : Nat) : Int) := by
 induction bs generalizing a j with
 | nil => simp at h
 | cons e bs ih =>
  cases j with
  | zero => simp [endL,blocksB]
  | succ j =>
   rw [endL,List.getElem?_cons_succ,ih _ j (by simpa using h),List.take_succ_cons,blocksB_cons,List.length_append,List.getElem_cons_succ]
   congr 3
   omega
structure TwoR (w0 X : World) (vb ve : Value) (Bl El : List Int) : Prop where
 r1 : X.ownsRow w0.heap.size 3 1 vb Bl.length (cellsN Bl)
 r2 : X.ownsRow w0.heap.size 3 1 ve El.length (cellsN El)
 ne : ∀ g,vb.ownBlock = some g -> ve.ownBlock ≠ some g
 bl : Below w0.heap.size w0 X
theorem TwoR.nil (w0 : World) : TwoR w0 w0 (.slice none 0 0) (.slice none 0 0) [] [] := ⟨World.ownsRow_nil _ _ _ _,World.ownsRow_nil _ _ _ _,(fun g e => by cases e),Below.refl _ _⟩
theorem TwoR.drew {w0 X : World} {vb ve : Value} {Bl El : List Int} (h : TwoR w0 X vb ve Bl El) : TwoR w0 X.drew vb ve Bl El := ⟨h.r1,h.r2,h.ne,h.bl.drew⟩
theorem TwoR.swap {w0 X : World} {vb ve : Value} {Bl El : List Int} (h : TwoR w0 X vb ve Bl El) : TwoR w0 X ve vb El Bl := ⟨h.r2,h.r1,fun g e e2 => h.ne g e2 e,h.bl⟩
theorem TwoR.push {w0 X : World} {vb ve : Value} {Bl El : List Int} (h : TwoR w0 X vb ve Bl El) (x : Int) (hl : Bl.length <= 1000000) :
  ∃ g cap X',(Builtin.append_ #[25,25] 25 #[vb,.slice (some ⟨X.heap.size,0,none⟩) 1 1]).run Tryz.prog (X.alloc (.cells #[.int .i64 x] 3)) = .ok (.slice (some ⟨g,0,none⟩) (Bl.length + 1) cap) X' /\ TwoR w0 X' (.slice (some ⟨g,0,none⟩) (Bl.length + 1) cap) ve (Bl ++ [x]) El := by
 have hz := h.bl.size
 obtain ⟨g,cap,X',a1,a2,a3,a4⟩ := app_int (x := x) (g0 := X.heap.size) (h.r1.alloc (.cells #[.int .i64 x] 3)) (World.cell?_alloc_new X #[.int .i64 x] 3 0) hl (by simp; omega)
 have hc : Chg (fun j => vb.ownBlock = some j) (X.alloc (.cells #[.int .i64 x] 3)) X' := (Chg.refl _ _).grown a3 (fun k e => .inl e)
 refine ⟨g,cap,X',a1,⟨by rw [List.length_append]; exact a2,own_chg (h.r2.alloc _) hc (fun g' e e2 => h.ne g' e2 e),?_,(h.bl.alloc hz _).grown a3 (by simp; omega) (own_ge h.r1)⟩⟩
 intro g' e
 have e' : g = g' := by simpa [Value.ownBlock] using e
 subst e'
 rcases a4 with a4 | a4
 ·exact h.ne g a4
 ·intro e2
  have := own_lt h.r2 g e2
  simp at a4
  omega
theorem segment {blk seed bits : Nat} {bs : List (List Ent)} (h1 : 1 <= blk) (h2 : blk <= 400) (h3 : seed <= 4294967295) (h4 : bits <= 32) (h : ∀ e ∈ bs,BlkOk blk e) {k : Nat} (hk : k < bs.length + 1) :
  ∃ pre mid post : List UInt8,headL blk seed bits ++ blocksB bs = pre ++ (mid ++ post) /\ (0 :: begL 14 bs)[k]? = some ((pre.length : Nat) : Int) /\ (14 :: endL 14 bs)[k]? = some ((pre.length + mid.length : Nat) : Int) /\ 0 < mid.length /\
   ∀ q i B,Sp pre mid post q i B -> i <= 32 -> indexS B = none := by
 have hl := headL_length blk seed bits
 cases k with
 | zero =>
  refine ⟨[],headL blk seed bits,blocksB bs,rfl,rfl,by simp [hl],by omega,fun q i B hB hi => spoilt_head hB hi⟩
 | succ m =>
  have hm : m < bs.length := by omega
  have hb := h bs[m] (List.getElem_mem _)
  have hbl := blockB_length bs[m]
  have e : headL blk seed bits ++ blocksB bs = (headL blk seed bits ++ blocksB (bs.take m)) ++ (blockB bs[m] ++ blocksB (bs.drop (m + 1))) := by
   have h1 : bs = bs.take m ++ (bs[m] :: bs.drop (m + 1)) := by rw [<- List.drop_eq_getElem_cons hm,List.take_append_drop]
   have e0 : blocksB (bs.take m ++ (bs[m] :: bs.drop (m + 1))) = blocksB (bs.take m) ++ (blockB bs[m] ++ blocksB (bs.drop (m + 1))) := by unfold blocksB; rw [List.flatMap_append,List.flatMap_cons]
   rw [<- h1] at e0
   rw [e0,List.append_assoc]
  have e3 : (blockB bs[m]).take 3 ++ (blockB bs[m]).drop 3 = blockB bs[m] := List.take_append_drop 3 _
  have h3l : ((blockB bs[m]).take 3).length = 3 := by rw [List.length_take]; omega
  have hdl : ((blockB bs[m]).drop 3).length = (blockB bs[m]).length - 3 := List.length_drop
  refine ⟨headL blk seed bits ++ blocksB (bs.take m) ++ (blockB bs[m]).take 3,(blockB bs[m]).drop 3,blocksB (bs.drop (m + 1)),?_,?_,?_,by omega,?_⟩
  ·rw [e,List.append_assoc _ ((blockB bs[m]).take 3),<- List.append_assoc ((blockB bs[m]).take 3),e3]
  ·rw [List.getElem?_cons_succ,begL_get 14 bs m hm,List.length_append,List.length_append,hl,h3l]
  ·rw [List.getElem?_cons_succ,endL_get 14 bs m hm,List.length_append,List.length_append,hl,h3l,hdl]
   congr 2
   omega
  ·intro q i B hB hi
   exact spoilt_block h1 h2 h3 h4 (fun x hx => h x (List.mem_of_mem_take hx)) hb hB hi
theorem end_last (bs : List (List Ent)) : (14 :: endL 14 bs)[bs.length]? = some ((14 + (blocksB bs).length : Nat) : Int) := by
 cases hbs : bs.length with
 | zero =>
  have : bs = [] := List.length_eq_zero_iff.1 hbs
  subst this
  rfl
 | succ m =>
  have hm : m < bs.length := by omega
  rw [List.getElem?_cons_succ,endL_get 14 bs m hm]
  have h1 : bs = bs.take m ++ [bs[m]] := by
   have := List.take_succ_eq_append_getElem hm
   rw [<- this,List.take_of_length_le (by omega)]
  have h2 : blocksB bs = blocksB (bs.take m) ++ blockB bs[m] := by
   have e0 := blocksB_snoc bs[m] (bs.take m)
   rw [<- h1] at e0
   exact e0
  rw [h2,List.length_append]
  congr 2
  omega
structure ByAt (w0 w : World) (gx : Nat) (B : List UInt8) : Prop where
 cell : ∀ j,j < B.length -> w.cell? ⟨gx,j,none⟩ = some (.int .u8 ((B.getD j 0).toNat : Int))
 froz : ∀ j,j < B.length -> w.frozen? ⟨gx,j,none⟩ = false
 ge : w0.heap.size <= gx
 lt : gx < w.heap.size
 bl : Below w0.heap.size w0 w
theorem by_new (w : World) (l : List UInt8) : ∃ (cp : Nat) (X : World),(convert 9 43 (.string (S l))).run Tryz.prog w = .ok (.slice (some ⟨w.heap.size,0,none⟩) l.length cp) X /\ ByAt w X w.heap.size l := by
 refine ⟨grownCap w (S l).size 0 5,Go.Lib.bytesWorld w 5 (S l),?_,?_,?_,Nat.le_refl _,?_,?_⟩
 ·have := Go.Lib.run_convert_string_bytes (P := Tryz.prog) w 9 43 5 (S l) Tryz.underlying9 Tryz.underlying43 Tryz.underlying5
  rw [S_size] at this
  rw [S_size]
  exact this
 ·intro j hj
  rw [Go.Lib.bytesWorld_cell w 5 (S l) j (by rw [S_size]; exact hj),S_data]
 ·intro j hj
  have h := Go.Lib.bytesWorld_at_new w 5 (S l)
  have hz : (Go.Lib.bytesCells w 5 (S l)).size ≥ l.length := by unfold Go.Lib.bytesCells; simp [S]
  unfold World.frozen?
  rw [h]
  simp
  omega
 ·rw [Go.Lib.bytesWorld_size]; omega
 ·exact ⟨rfl,rfl,rfl,by rw [Go.Lib.bytesWorld_size]; omega,fun k hk => Go.Lib.bytesWorld_at_old w _ _ k hk⟩
theorem ByAt.drew {w0 w : World} {gx : Nat} {B : List UInt8} (h : ByAt w0 w gx B) : ByAt w0 w.drew gx B := ⟨h.cell,h.froz,h.ge,h.lt,h.bl.drew⟩
theorem ByAt.set {w0 w : World} {gx : Nat} {B : List UInt8} (h : ByAt w0 w gx B) (j : Nat) (b : UInt8) (hj : j < B.length) : ByAt w0 (w.setCell ⟨gx,j,none⟩ (.int .u8 (b.toNat : Int))) gx (B.set j b) := by
 have hc : Below w0.heap.size w0 (w.setCell ⟨gx,j,none⟩ (.int .u8 (b.toNat : Int))) := h.bl.setCell h.ge _
 refine ⟨fun k hk => ?_,fun k hk => ?_,h.ge,by simpa using h.lt,hc⟩
 ·rw [List.length_set] at hk
  by_cases e : k = j
  ·subst e
   rw [World.cell?_setCell_same _ _ _ (h.cell k hk),List.getD_eq_getElem?_getD,List.getElem?_set_self hk]
   rfl
  ·rw [World.cell?_setCell_other _ _ _ _ (fun h => e (by injection h with _ h2; exact h2.symm)),h.cell k hk,List.getD_eq_getElem?_getD,List.getD_eq_getElem?_getD,List.getElem?_set_ne (fun h => e h.symm)]
 ·rw [List.length_set] at hk
  rw [World.frozen?_setCell]
  exact h.froz k hk
theorem by_string {w0 w : World} {gx : Nat} {B : List UInt8} (h : ByAt w0 w gx B) (cp : Nat) : (convert 43 9 (.slice (some ⟨gx,0,none⟩) B.length cp)).run Tryz.prog w = .ok (.string (S B)) w := by
 have hstr : strOfNums (B.map fun b => (b.toNat : Int)) = S B := by unfold strOfNums S; rw [bytes_back]
 rw [<- hstr]
 refine run_convert_bytes_arg (P := Tryz.prog) w 43 5 Tryz.underlying43 Tryz.underlying5 gx 0 B.length cp (B.map fun b => (b.toNat : Int)) (by simp) (fun i hi => ?_) 9 Tryz.underlying9
 rw [Nat.zero_add,h.cell i (by simpa using hi)]
 simp [List.getD_eq_getElem?_getD,show i < B.length by simpa using hi]
theorem ofInt_8 (a : Nat) (h : a < 256) : (BitVec.ofInt 8 (a : Int)).toNat = a := by
 rw [BitVec.toNat_ofInt]; omega
theorem wrap_u8_nat (a : Nat) (h : a < 256) : IntKind.u8.wrap (a : Int) = (a : Int) := by
 simp [IntKind.wrap,IntKind.bits,IntKind.signed]; omega
theorem u8_xor_nat (a b : Nat) (ha : a < 256) (hb : b < 256) : bits .xor .u8 (a : Int) (b : Int) = ((a ^^^ b : Nat) : Int) := by
 have hx : a ^^^ b < 2 ^ 8 := Nat.xor_lt_two_pow (by omega) (by omega)
 show IntKind.u8.wrap ((BitVec.ofInt 8 (a : Int) ^^^ BitVec.ofInt 8 (b : Int)).toNat : Int) = _
 rw [BitVec.toNat_xor,ofInt_8 a ha,ofInt_8 b hb,wrap_u8_nat _ (by omega)]
theorem pow_256 {r : Nat} (h : r < 8) : 2 ^ r < 256 := by
 have : 2 ^ r <= 2 ^ 7 := Nat.pow_le_pow_right (by omega) (by omega)
 omega
theorem u8_shl {r : Nat} (h : r < 8) : IntKind.u8.wrap (2 ^ r) = ((2 ^ r : Nat) : Int) := by
 have h1 : ((2 : Int) ^ r) = ((2 ^ r : Nat) : Int) := by simp
 rw [h1]
 exact wrap_u8_nat _ (pow_256 h)
theorem u8_turn (x : UInt8) {r : Nat} (h : r < 8) : bits .xor .u8 (x.toNat : Int) ((2 ^ r : Nat) : Int) = ((x ^^^ UInt8.ofNat (2 ^ r)).toNat : Int) := by
 have h2 := pow_256 h
 rw [u8_xor_nat _ _ x.toNat_lt h2,UInt8.toNat_xor,UInt8.toNat_ofNat',Nat.mod_eq_of_lt h2]
theorem turn_eq {l : List UInt8} {p J r : Nat} (hJ : p / 8 = J) (hr : p % 8 = r) : turnL l p = l.set J (l.getD J 0 ^^^ UInt8.ofNat (2 ^ r)) := by
 unfold turnL
 rw [hJ,hr]
theorem KF.log {E : Sent} {n bx bh blk seed bits c : Nat} {es : List Ent} {w : World} (h : KF E n bx bh blk seed bits c es w) (hc : c <= 600) :
  ∃ bs : List (List Ent),(∀ e ∈ bs,BlkOk blk e) /\ (headL blk seed bits ++ blocksB bs).length <= 14 + 60 * c /\ (∃ ix,indexS (headL blk seed bits ++ blocksB bs) = some ix) /\ Env0 n w E /\
   Calls Tryz.prog 19 #[.pointer (some ⟨bx,0,none⟩),.string ⟨#[108,111,103]⟩] w fun e w' => e = .returned (.tuple #[.string (S (headL blk seed bits ++ blocksB bs)),.int .i64 0]) /\ Below w.heap.size w w' := by
 obtain ⟨G,bs,sy,f2,L,h⟩ := h
 obtain ⟨q,hq⟩ := h.at'.st
 obtain ⟨ix,hix,_,_⟩ := k_index h.ok (by omega)
 exact ⟨bs,h.ok.hbs,h.ok.text,⟨ix,hix⟩,h.at'.env,fileS_any E n G bx _ q ⟨#[108,111,103]⟩ w h.at'.env hq (by decide)⟩
theorem spoilt_any (E : Sent) (ag al : Option Addr) (g l : List Int) (cg cl : Nat) (wh fr bt : Int) (w : World) (hE : Env w E) (hg : IntsAt w ag g) (hl : IntsAt w al l) (hgr : ∀ x ∈ g,IntR x) (hlr : ∀ x ∈ l,IntR x) (hgl : g.length <= 9223372036854775807) (hll : l.length <= 9223372036854775807) (hwh : IntR wh) (hfr : IntR fr) (hbt : IntR bt) :
  Calls Tryz.prog 8 #[.slice ag g.length cg,.slice al l.length cl,.int .i64 wh,.int .i64 fr,.int .i64 bt] w fun e w' => e = .returned (.bool true) /\ Below w.heap.size w w' := by
 have hr := cfg_range g
 have HRG : Hid (1 <= cfgBlk g /\ cfgBlk g <= 400 /\ cfgSeed g <= 4294967295 /\ cfgBits g <= 32) := hr
 have hE0 : Env0 w.heap.size w E := ⟨w,rfl,hE,Below.refl _ _⟩
 have HCF := kconfig_any ag g cg w hg hgr hgl
 have HBG : Hid (∀ w1 : World,Below w.heap.size w w1 -> Calls Tryz.prog 13 #[.agg #[.int .i64 (cfgBlk g : Int),.int .i64 (cfgSeed g : Int),.int .i64 (cfgBits g : Int)]] w1 fun e w' => ∃ bs,e = .returned (.pointer (some ⟨bs,0,none⟩)) /\ KS E w.heap.size bs w'.heap.size (cfgBlk g) (cfgSeed g) (cfgBits g) 0 [] (w'.alloc (.cells #[.slice none 0 0] 34)) /\ Below w.heap.size w w') := fun w1 hb => by
  refine (kbegun_any E w.heap.size (cfgBlk g) (cfgSeed g) (cfgBits g) w1 (hE0.below hb) hr.1 hr.2.1 hr.2.2.1 hr.2.2.2).mono ?_
  rintro e w' ⟨bs,q,rfl,hS,hb2⟩
  have hb3 : Below w.heap.size w w' := hb.trans (hb2.mono hb.size)
  exact ⟨bs,rfl,ks_new (hE0.below hb3) hb.size hS (k_begun hr.1 hr.2.1 hr.2.2.1 hr.2.2.2).2,hb3⟩
 have HEN : Hid (∀ (bx bh c : Nat) (es : List Ent) (a b : Int) (wx : World),KS E w.heap.size bx bh (cfgBlk g) (cfgSeed g) (cfgBits g) c es wx -> c <= 500 -> IntR a -> IntR b -> Calls Tryz.prog 15 #[.pointer (some ⟨bx,0,none⟩),.pointer (some ⟨bh,0,none⟩),.int .i64 a,.int .i64 b] wx fun e w' => e = .returned (.bool true) /\ KS E w.heap.size bx bh (cfgBlk g) (cfgSeed g) (cfgBits g) (c + 1) (es ++ [entK a b]) w' /\ Below w.heap.size wx w') := fun bx bh c es a b wx h hc ha hb => kentry_any E _ bx bh _ _ _ c es a b wx h hc ha hb
 have HFL : Hid (∀ (bx bh c : Nat) (es : List Ent) (wx : World),KS E w.heap.size bx bh (cfgBlk g) (cfgSeed g) (cfgBits g) c es wx -> c <= 600 -> Calls Tryz.prog 17 #[.pointer (some ⟨bx,0,none⟩)] wx fun e w' => e = .returned (.int .i64 0) /\ KF E w.heap.size bx bh (cfgBlk g) (cfgSeed g) (cfgBits g) c es w' /\ Below w.heap.size wx w') := fun bx bh c es wx h hc => kflush_any E _ bx bh _ _ _ c es wx h hc
 have HLC : Hid (∀ (wx : World),Below w.heap.size w wx -> l = [] \/ ∃ b off,al = some ⟨b,off,none⟩ /\ b < w.heap.size /\ ∀ i (hi : i < l.length),wx.cell? ⟨b,off + i,none⟩ = some (.int .i64 l[i])) := fun wx hb => by
  rcases hl with h | ⟨b,off,e,h1,h2⟩
  ·exact .inl h
  ·exact .inr ⟨b,off,e,h1,fun i hi => (hb.cell (p := ⟨b,off + i,none⟩) h1).trans (h2 i hi)⟩
 have HLR : Hid (∀ x ∈ l,IntR x) := hlr
 generalize cfgBlk g = blk at *
 generalize cfgSeed g = seed at *
 generalize cfgBits g = bits at *
 clear hr hg hgr hl hlr
 go_enter Tryz.func8,Tryz.ntmps8
 go_wp2_with (first | (go_at_call 14; refine HCF.mono ?_; rintro e w1 ⟨rfl,hb1⟩; have HB1 : Hid (Below w.heap.size w w1) := hb1; clear hb1) | (go_at_call 13; refine (HBG.out w1 HB1.out).mono ?_; rintro e w2 ⟨bx,rfl,hk2,hb2⟩; have HK2 : Hid (KS E w.heap.size bx w2.heap.size blk seed bits 0 [] (w2.alloc (.cells #[.slice none 0 0] 34))) := hk2; have HB2 : Hid (Below w.heap.size w w2) := hb2; clear hk2 hb2))
 have HB2a : Hid (Below w.heap.size w (w2.alloc (.cells #[.slice none 0 0] 34))) := HB2.out.alloc HB2.out.size _
 go_loopw [13] (fun i wr => ∃ (j : Nat) (es : List Ent),i = .int .i64 ((2 * j : Nat) : Int) /\ j <= 30 /\ KS E w.heap.size bx w2.heap.size blk seed bits j es wr /\ Below w.heap.size w wr) (fun i _ => 60 - (intOf i).toNat)
 case atStart => exact ⟨0,[],rfl,by omega,HK2.out,HB2a.out⟩
 case round =>
  obtain ⟨j,es,rfl,hj,hk,hb⟩ := hrel
  obtain ⟨k,hkj⟩ : ∃ k,k = 2 * j := ⟨_,rfl⟩
  rw [<- hkj]
  have HKJ : Hid (k = 2 * j) := hkj
  have HK : Hid (KS E w.heap.size bx w2.heap.size blk seed bits j es wr) := hk
  have HB : Hid (Below w.heap.size w wr) := hb
  by_cases hlt : k + 1 < l.length /\ k < 60
  ·obtain ⟨hl1,hl2⟩ := hlt
   rcases HLC.out wr hb with e0 | ⟨b,off,rfl,hbl,hcs⟩
   ·rw [e0] at hl1; simp at hl1
   have c0 := hcs k (by omega)
   have c1 := hcs (k + 1) (by omega)
   have hj1 : j <= 29 := by omega
   have z1 : (k : Int) + 1 < (l.length : Int) := by omega
   have z2 : (k : Int) < (l.length : Int) := by omega
   have z3 : (k : Int) < 60 := by omega
   have z4 : IntKind.i64.wrap ((k : Int) + 1) = (k : Int) + 1 := by rw [IntKind.wrap_i64]; omega
   have ra : IntR l[k] := HLR.out _ (List.getElem_mem _)
   have rb : IntR l[k + 1] := HLR.out _ (List.getElem_mem _)
   have HENj : Hid _ := HEN.out bx w2.heap.size j es l[k] l[k + 1]
   clear hcs hk hb
   generalize l[k] = a at *
   generalize l[k + 1] = a' at *
   clear hkj
   have HRA : Hid (IntR a /\ IntR a') := ⟨ra,rb⟩
   clear ra rb
   go_wp2_with fail
   go_region_with (first | (go_at_call 15; refine (HENj.out _ ?_ (by omega) HRA.out.1 HRA.out.2).mono ?_; exact KS.drew HK.out; rintro e w3 ⟨rfl,hk3,hb3⟩; have HK3 : Hid (KS E w.heap.size bx w2.heap.size blk seed bits (j + 1) (es ++ [entK a a']) w3) := hk3; have hb3' : Below w.heap.size wr w3 := ⟨hb3.os,hb3.tape,hb3.output,hb3.size,hb3.block⟩; have HB3 : Hid (Below w.heap.size w w3) := HB.out.trans hb3'; clear hk3 hb3 hb3'))
   all_goals
    go_wp2
    go_roundw
    case rel => exact ⟨j + 1,_,by rw [show ((2 * (j + 1) : Nat) : Int) = (k : Int) + 2 by have := HKJ.out; omega],by omega,HK3.out,HB3.out⟩
    case measure => simp [intOf]; omega
  ·have z4 : IntKind.i64.wrap ((k : Int) + 1) = (k : Int) + 1 := by rw [IntKind.wrap_i64]; omega
   have hz : ¬ ((k : Int) + 1 < (l.length : Int)) \/ ((k : Int) + 1 < (l.length : Int) /\ ¬ ((k : Int) < 60)) := by omega
   clear hkj hk hb hlt
   rcases hz with hz1 | ⟨hz1,hz2⟩
   all_goals
    go_wp2_with (first | (go_at_call 17; refine (HFL.out bx w2.heap.size j _ wr HK.out (by omega)).mono ?_; rintro e w4 ⟨rfl,hk4,hb4⟩; obtain ⟨bs,hbs,htl,⟨ix,hix⟩,hen4,hlog⟩ := hk4.log (by omega); have HLG := hlog; have HBS : Hid (∀ e ∈ bs,BlkOk blk e) := hbs; have HIX : Hid (indexS (headL blk seed bits ++ blocksB bs) = some ix) := hix; have HEN4 : Hid (Env0 w.heap.size w4 E) := hen4; have HB4 : Hid (Below w.heap.size w w4) := HB.out.trans hb4; clear hk4 hb4 hlog hbs hix hen4) | (go_at_call 19; refine HLG.mono ?_; rintro e w5 ⟨rfl,hb5⟩; have HEN5 : Hid (Env0 w.heap.size w5 E) := HEN4.out.below (hb5.mono HEN4.out.le); have HB5 : Hid (Below w.heap.size w w5) := HB4.out.trans (hb5.mono HB4.out.size); obtain ⟨g1,p1,X1,hr1,ht1⟩ := (TwoR.nil w5).push 0 (by simp); obtain ⟨g2,p2,X2,hr2,ht2⟩ := ht1.swap.push 14 (by simp); have HR1 : Hid ((Builtin.append_ #[25,25] 25 #[.slice none 0 0,.slice (some ⟨w5.heap.size,0,none⟩) 1 1]).run Tryz.prog (w5.alloc (.cells #[.int .i64 0] 3)) = .ok (.slice (some ⟨g1,0,none⟩) 1 p1) X1) := hr1; have HR2 : Hid ((Builtin.append_ #[25,25] 25 #[.slice none 0 0,.slice (some ⟨X1.heap.size,0,none⟩) 1 1]).run Tryz.prog (X1.alloc (.cells #[.int .i64 14] 3)) = .ok (.slice (some ⟨g2,0,none⟩) 1 p2) X2) := hr2; have HT2 : Hid (TwoR w5 X2 (.slice (some ⟨g1,0,none⟩) 1 p1) (.slice (some ⟨g2,0,none⟩) 1 p2) [0] [14]) := ht2.swap; clear hb5 hr1 hr2 ht1 ht2) | (at_builtin; refine wp_append_run rfl (.tmp 75) (.tmp 76) 25 25 rfl rfl rfl HR1.out ?_) | (at_builtin; refine wp_append_run rfl (.tmp 78) (.tmp 79) 25 25 rfl rfl rfl HR2.out ?_))
    go_loopw [18,19,20] (fun vb ve at' wr => ∃ m : Nat,m <= bs.length /\ at' = .int .i64 ((14 + (blocksB (bs.take m)).length : Nat) : Int) /\ TwoR w5 wr vb ve (0 :: begL 14 (bs.take m)) (14 :: endL 14 (bs.take m))) (fun _ _ i _ => 100000 - (intOf i).toNat)
    case atStart => exact ⟨0,by omega,rfl,HT2.out⟩
    case round =>
     obtain ⟨m,hm,rfl,ht⟩ := hrel
     have HT : Hid _ := ht
     by_cases hmlt : m < bs.length
     ·obtain ⟨y1,y2,hy1,hy2,hn,hle,q1,q2⟩ := block_bytes (seed := seed) (bits := bits) HBS.out hmlt
      have zT : (S (headL blk seed bits ++ blocksB bs)).size = (headL blk seed bits ++ blocksB bs).length := S_size _
      have hbl7 := blockB_length bs[m]
      have i1 : ∀ wx : World,(Instr.index 9 (.string (S (headL blk seed bits ++ blocksB bs))) (.int .i64 (((14 + (blocksB (bs.take m)).length : Nat) : Int) + 1))).run Tryz.prog wx = .ok (.int .u8 (y1 : Int)) wx := fun wx => by
       have hh : 14 + (blocksB (bs.take m)).length + 1 < (headL blk seed bits ++ blocksB bs).length := by omega
       rw [idx_run (S (headL blk seed bits ++ blocksB bs)) (14 + (blocksB (bs.take m)).length + 1) (by rw [zT]; exact hh) _ (by omega) wx]
       have e : (S (headL blk seed bits ++ blocksB bs))[14 + (blocksB (bs.take m)).length + 1]'(by rw [zT]; exact hh) = UInt8.ofNat y1 := by
        rw [List.getElem?_eq_getElem hh] at q1
        exact Option.some.inj q1
       rw [e,UInt8.toNat_ofNat',Nat.mod_eq_of_lt hy1]
      have i2 : ∀ wx : World,(Instr.index 9 (.string (S (headL blk seed bits ++ blocksB bs))) (.int .i64 (((14 + (blocksB (bs.take m)).length : Nat) : Int) + 2))).run Tryz.prog wx = .ok (.int .u8 (y2 : Int)) wx := fun wx => by
       have hh : 14 + (blocksB (bs.take m)).length + 2 < (headL blk seed bits ++ blocksB bs).length := by omega
       rw [idx_run (S (headL blk seed bits ++ blocksB bs)) (14 + (blocksB (bs.take m)).length + 2) (by rw [zT]; exact hh) _ (by omega) wx]
       have e : (S (headL blk seed bits ++ blocksB bs))[14 + (blocksB (bs.take m)).length + 2]'(by rw [zT]; exact hh) = UInt8.ofNat y2 := by
        rw [List.getElem?_eq_getElem hh] at q2
        exact Option.some.inj q2
       rw [e,UInt8.toNat_ofNat',Nat.mod_eq_of_lt hy2]
      have hbm : (begL 14 (bs.take m)).length <= bs.length := by rw [begL_length,List.length_take]; omega
      have hem : (endL 14 (bs.take m)).length <= bs.length := by rw [endL_length,List.length_take]; omega
      have hbsl : bs.length <= 100000 := Nat.le_trans (blocks_count HBS.out) (by rw [List.length_append] at htl; omega)
      obtain ⟨g3,p3,X3,hr3,ht3⟩ := ht.drew.push ((((14 + (blocksB (bs.take m)).length : Nat) : Int)) + 3) (by simp; omega)
      obtain ⟨g4,p4,X4,hr4,ht4⟩ := ht3.swap.push ((((14 + (blocksB (bs.take m)).length : Nat) : Int)) + (7 + (y1 : Int) + 256 * (y2 : Int))) (by simp; omega)
      have e5 : bs.take (m + 1) = bs.take m ++ [bs[m]] := List.take_succ_eq_append_getElem hmlt
      have HT4 : Hid (TwoR w5 X4 (.slice (some ⟨g3,0,none⟩) ((0 :: begL 14 (bs.take m)).length + 1) p3) (.slice (some ⟨g4,0,none⟩) ((14 :: endL 14 (bs.take m)).length + 1) p4) (0 :: begL 14 (bs.take (m + 1))) (14 :: endL 14 (bs.take (m + 1)))) := by
       have := ht4.swap
       show TwoR _ _ _ _ _ _
       rw [e5,begL_snoc,endL_snoc]
       rw [show ((14 + (blocksB (bs.take m)).length + 3 : Nat) : Int) = ((14 + (blocksB (bs.take m)).length : Nat) : Int) + 3 by omega,show ((14 + (blocksB (bs.take m)).length + (blockB bs[m]).length : Nat) : Int) = ((14 + (blocksB (bs.take m)).length : Nat) : Int) + (7 + (y1 : Int) + 256 * (y2 : Int)) by omega]
       exact this
      have HAT : Hid (((14 + (blocksB (bs.take (m + 1))).length : Nat) : Int) = ((14 + (blocksB (bs.take m)).length : Nat) : Int) + (7 + (y1 : Int) + 256 * (y2 : Int))) := by
       show _ = _
       rw [e5,blocksB_snoc,List.length_append]
       omega
      have HR3 : Hid ((Builtin.append_ #[25,25] 25 #[u18,.slice (some ⟨wr.heap.size,0,none⟩) 1 1]).run Tryz.prog (wr.alloc (.cells #[.int .i64 (((14 + (blocksB (bs.take m)).length : Nat) : Int) + 3)] 3)).drew = .ok (.slice (some ⟨g3,0,none⟩) ((0 :: begL 14 (bs.take m)).length + 1) p3) X3) := hr3
      have HR4 : Hid ((Builtin.append_ #[25,25] 25 #[u19,.slice (some ⟨X3.heap.size,0,none⟩) 1 1]).run Tryz.prog (X3.alloc (.cells #[.int .i64 (((14 + (blocksB (bs.take m)).length : Nat) : Int) + (7 + (y1 : Int) + 256 * (y2 : Int)))] 3)) = .ok (.slice (some ⟨g4,0,none⟩) ((14 :: endL 14 (bs.take m)).length + 1) p4) X4) := hr4
      have hA7 : ((14 + (blocksB (bs.take m)).length : Nat) : Int) + 7 <= ((headL blk seed bits ++ blocksB bs).length : Int) := by omega
      have hAl : ((14 + (blocksB (bs.take m)).length : Nat) : Int) <= 10000 := by omega
      have hA0 : (0 : Int) <= ((14 + (blocksB (bs.take m)).length : Nat) : Int) := by omega
      clear ht ht3 ht4 hr3 hr4 q1 q2 hle hn e5 hbl7 hbm hem
      generalize (0 :: begL 14 (bs.take m)).length + 1 = nB at *
      generalize (14 :: endL 14 (bs.take m)).length + 1 = nE at *
      generalize 14 + (blocksB (bs.take m)).length = A at *
      generalize headL blk seed bits ++ blocksB bs = T at *
      have hw1 : IntKind.i64.wrap ((A : Int) + 1) = (A : Int) + 1 := by rw [IntKind.wrap_i64]; omega
      have hw2 : IntKind.i64.wrap ((A : Int) + 2) = (A : Int) + 2 := by rw [IntKind.wrap_i64]; omega
      go_wp2_with fail
      go_region
      all_goals
       go_wp2_with (first | (at_builtin; refine wp_append_run rfl (.tmp 99) (.tmp 102) 25 25 rfl rfl rfl HR3.out ?_) | (at_builtin; refine wp_append_run rfl (.tmp 104) (.tmp 108) 25 25 rfl rfl rfl HR4.out ?_))
       go_roundw
       case rel => exact ⟨m + 1,by omega,by rw [HAT.out],HT4.out⟩
       case measure => simp [intOf]; omega
     ·have hmE : m = bs.length := by omega
      subst hmE
      rw [List.take_length] at ht ⊢
      have hTl : (headL blk seed bits ++ blocksB bs).length = 14 + (blocksB bs).length := by rw [List.length_append,headL_length]
      obtain ⟨ab,cpb,hub⟩ := own_len ht.r1
      obtain ⟨ae,cpe,hue⟩ := own_len ht.r2
      obtain ⟨gb,capb,hvb,_,hgbl,hgbc⟩ := own_cellsN ht.r1 (by simp)
      obtain ⟨ge,cape,hve,_,hgel,hgec⟩ := own_cellsN ht.r2 (by simp)
      have lenB : (0 :: begL 14 bs).length = bs.length + 1 := by rw [List.length_cons,begL_length]
      have lenE : (14 :: endL 14 bs).length = bs.length + 1 := by rw [List.length_cons,endL_length]
      have hbt2 := HT
      have CB : Hid (∀ (j : Nat) (x : Int),(0 :: begL 14 bs)[j]? = some x -> wr.cell? ⟨gb,j,none⟩ = some (.int .i64 x)) := fun j x hx => by
       have hj : j < (0 :: begL 14 bs).length := (List.getElem?_eq_some_iff.1 hx).1
       rw [hgbc j (by omega)]
       unfold cellsN
       rw [List.getElem?_map,hx]
       rfl
      have CE : Hid (∀ (j : Nat) (x : Int),(14 :: endL 14 bs)[j]? = some x -> wr.cell? ⟨ge,j,none⟩ = some (.int .i64 x)) := fun j x hx => by
       have hj : j < (14 :: endL 14 bs).length := (List.getElem?_eq_some_iff.1 hx).1
       rw [hgec j (by omega)]
       unfold cellsN
       rw [List.getElem?_map,hx]
       rfl
      have cl := CE.out bs.length _ (end_last bs)
      rw [<- hTl] at cl
      rw [lenB] at hub hvb
      rw [lenE] at hue hve
      have HBL : Hid (Below w5.heap.size w5 wr) := ht.bl
      rw [<- hTl]
      obtain ⟨M,hM⟩ : ∃ M,M = bs.length := ⟨_,rfl⟩
      have hMl : M <= 10000 := by have := blocks_count HBS.out; rw [hTl] at htl; omega
      rw [<- hM] at hub hvb hue hve cl
      have eb : u18 = .slice (some ⟨gb,0,none⟩) (M + 1) capb := by
       rw [hub] at hvb ⊢
       exact hvb
      have ee : u19 = .slice (some ⟨ge,0,none⟩) (M + 1) cape := by
       rw [hue] at hve ⊢
       exact hve
      subst eb
      subst ee
      have hpk := pickK_range (c := wh) (n := (M : Int) + 1) (by omega)
      obtain ⟨kk,hkk⟩ : ∃ kk : Nat,pickK wh ((M : Int) + 1) = (kk : Int) := ⟨(pickK wh ((M : Int) + 1)).toNat,by omega⟩
      have hkl : kk < bs.length + 1 := by omega
      obtain ⟨pre,mid,post,hseg,sB,sE,hmid,hnone⟩ := segment HRG.out.1 HRG.out.2.1 HRG.out.2.2.1 HRG.out.2.2.2 HBS.out hkl
      have cB := CB.out kk _ sB
      have cE := CE.out kk _ sE
      have hpq := pickK_range (c := fr) (n := 8 * (mid.length : Int)) (by omega)
      obtain ⟨qq,hqq⟩ : ∃ qq : Nat,pickK fr (8 * (mid.length : Int)) = (qq : Int) := ⟨(pickK fr (8 * (mid.length : Int))).toNat,by omega⟩
      have hql : qq < 8 * mid.length := by omega
      have htl2 : (headL blk seed bits ++ blocksB bs).length <= 10000 := by omega
      have hTs : (headL blk seed bits ++ blocksB bs).length = pre.length + (mid.length + post.length) := by rw [hseg]; simp
      have HPW : Hid (∀ wx : World,Calls Tryz.prog 16 #[.int .i64 wh,.int .i64 ((M : Int) + 1)] wx fun e w' => e = .returned (.int .i64 (kk : Int)) /\ w' = wx) := fun wx => by
       have := kpick_any wh ((M : Int) + 1) wx (by omega) hwh (by omega)
       rw [hkk] at this
       exact this
      have HPF : Hid (∀ wx : World,Calls Tryz.prog 16 #[.int .i64 fr,.int .i64 (8 * (mid.length : Int))] wx fun e w' => e = .returned (.int .i64 (qq : Int)) /\ w' = wx) := fun wx => by
       have := kpick_any fr (8 * (mid.length : Int)) wx (by omega) hfr (by omega)
       rw [hqq] at this
       exact this
      have HIN : Hid (∀ (B : List UInt8) (wx : World),indexS B = none -> B.length <= 100000 -> Below w5.heap.size w5 wx -> Calls Tryz.prog 20 #[.string (S B)] wx fun e w' => e = .returned (.tuple #[.string ⟨#[]⟩,.int .i64 3]) /\ Below wx.heap.size wx w') := fun B wx hn hl hb => by
       refine (progIndex_any (S B) wx (by rw [S_size]; omega) (HEN5.out.below (hb.mono HEN5.out.le)).env.halves).mono ?_
       rw [show (S B).data.toList = B from rfl,hn]
       exact fun e w' h => h
      have HIT : Hid (∀ (wx : World),Below w5.heap.size w5 wx -> Calls Tryz.prog 20 #[.string (S (headL blk seed bits ++ blocksB bs))] wx fun e w' => e = .returned (.tuple #[.string (S ix),.int .i64 0]) /\ Below wx.heap.size wx w') := fun wx hb => by
       refine (progIndex_any (S (headL blk seed bits ++ blocksB bs)) wx (by rw [S_size]; omega) (HEN5.out.below (hb.mono HEN5.out.le)).env.halves).mono ?_
       rw [show (S (headL blk seed bits ++ blocksB bs)).data.toList = headL blk seed bits ++ blocksB bs from rfl,HIX.out]
       exact fun e w' h => h
      obtain ⟨cp,X,hcv,hBy⟩ := by_new wr (headL blk seed bits ++ blocksB bs)
      have zT : (S (headL blk seed bits ++ blocksB bs)).size = (headL blk seed bits ++ blocksB bs).length := S_size _
      have HNO : Hid (∀ q i B,Sp pre mid post q i B -> i <= 32 -> indexS B = none) := hnone
      have HBy : Hid (ByAt wr X wr.heap.size (headL blk seed bits ++ blocksB bs)) := hBy
      have HSG : Hid (headL blk seed bits ++ blocksB bs = pre ++ (mid ++ post)) := hseg
      have cB2 : X.cell? ⟨gb,kk,none⟩ = some (.int .i64 ((pre.length : Nat) : Int)) := (hBy.bl.cell (p := ⟨gb,kk,none⟩) hgbl).trans cB
      have cE2 : X.cell? ⟨ge,kk,none⟩ = some (.int .i64 ((pre.length + mid.length : Nat) : Int)) := (hBy.bl.cell (p := ⟨ge,kk,none⟩) hgel).trans cE
      have hk1 : (kk : Int) < (M : Int) + 1 := by omega
      have HTS : Hid ((headL blk seed bits ++ blocksB bs).length = pre.length + (mid.length + post.length)) := hTs
      obtain ⟨R,hR⟩ : ∃ R,R = pre.length + mid.length := ⟨_,rfl⟩
      rw [<- hR] at cE cE2
      have HSS : Hid ((R : Int) - (pre.length : Int) = (mid.length : Int) /\ (pre.length : Int) <= 10000 /\ (mid.length : Int) <= 10000 /\ (R : Int) <= 10000 /\ (qq : Int) < 80000) := ⟨by omega,by omega,by omega,by omega,by omega⟩
      have HR0 : Hid (R = pre.length + mid.length) := hR
      have HQ0 : Hid (qq < 8 * mid.length) := hql
      clear hR hTs hql hmid
      clear ht hgbc hgec hub hue hvb hve hpk hpq hkk hqq hnone hseg sB sE hBy hTl hM lenB lenE hbt2
      generalize headL blk seed bits ++ blocksB bs = T at *
      go_wp2_with fail
      refine (HPW.out _).mono ?_
      rintro e wr ⟨rfl,rfl⟩
      go_wp2_with fail
      obtain ⟨hs1,hs2,hs3,hs5,hs6⟩ := HSS.out
      have hw1 : IntKind.i64.wrap (mid.length : Int) = (mid.length : Int) := by rw [IntKind.wrap_i64]; omega
      have hw2 : IntKind.i64.wrap (8 * (mid.length : Int)) = 8 * (mid.length : Int) := by rw [IntKind.wrap_i64]; omega
      have hw3 : IntKind.i64.wrap (8 * (pre.length : Int)) = 8 * (pre.length : Int) := by rw [IntKind.wrap_i64]; omega
      have hw4 : IntKind.i64.wrap (8 * (pre.length : Int) + (qq : Int)) = 8 * (pre.length : Int) + (qq : Int) := by rw [IntKind.wrap_i64]; omega
      go_region_held3 (fun w' => w'.cell? ⟨gb,kk,none⟩ = some (.int .i64 ((pre.length : Nat) : Int)) /\ w'.cell? ⟨ge,kk,none⟩ = some (.int .i64 ((R : Nat) : Int))) (first | (exact ⟨cB2,cE2⟩) | (assumption)) (first | (go_at_call 16; refine (HPF.out _).mono ?_; rintro e wq ⟨rfl,rfl⟩))
      all_goals
       go_wp2_with fail
       obtain ⟨J,hJe⟩ : ∃ J,J = pre.length + qq / 8 := ⟨_,rfl⟩
       obtain ⟨r,hre⟩ : ∃ r,r = qq % 8 := ⟨_,rfl⟩
       have hdv : (8 * (pre.length : Int) + (qq : Int)).tdiv 8 = (J : Int) := by rw [Int.tdiv_eq_ediv_of_nonneg (by omega)]; omega
       have hmd : (8 * (pre.length : Int) + (qq : Int)).tmod 8 = (r : Int) := by rw [Int.tmod_eq_emod_of_nonneg (by omega)]; omega
       have hr8 : r < 8 := by omega
       have hJl : J < T.length := by have := HTS.out; have := HQ0.out; omega
       have hJl2 : (J : Int) < (T.length : Int) := by omega
       have cJ : X.cell? ⟨wr.heap.size,J,none⟩ = some (.int .u8 ((T.getD J 0).toNat : Int)) := HBy.out.cell J hJl
       have fJ : X.frozen? ⟨wr.heap.size,J,none⟩ = false := HBy.out.froz J hJl
       have hsh := u8_shl hr8
       have hxo := u8_turn (T.getD J 0) hr8
       have HB2 : Hid (ByAt wr (X.setCell ⟨wr.heap.size,J,none⟩ (.int .u8 ((T.getD J 0 ^^^ UInt8.ofNat (2 ^ r)).toNat : Int))) wr.heap.size (turnL T (8 * pre.length + qq))) := by
        have := HBy.out.set J (T.getD J 0 ^^^ UInt8.ofNat (2 ^ r)) hJl
        rw [<- turn_eq (p := 8 * pre.length + qq) (by omega) (by omega)] at this
        exact this
       generalize (T.getD J 0 ^^^ UInt8.ofNat (2 ^ r)).toNat = y at *
       generalize (T.getD J 0).toNat = x at *
       generalize 2 ^ r = pw at *
       clear hJe hre
       go_region
       all_goals
        go_wp2_with fail
        clear hdv hmd hr8 hJl hJl2 cJ fJ hsh hxo hs1 hw1 hw2 hw3 hw4
        obtain ⟨W0,hW0⟩ : ∃ W0,W0 = wr := ⟨_,rfl⟩
        subst hW0
        have HCE : Hid (∀ (w' : World) (B : List UInt8),ByAt W0 w' W0.heap.size B -> w'.cell? ⟨ge,kk,none⟩ = some (.int .i64 ((R : Nat) : Int))) := fun w' B h => (h.bl.cell (p := ⟨ge,kk,none⟩) hgel).trans cE
        have HBB : Hid (∀ (w' : World) (B : List UInt8),ByAt W0 w' W0.heap.size B -> Below w5.heap.size w5 w') := fun w' B h => HBL.out.trans (h.bl.mono HBL.out.size)
        have HF : Hid (Sp pre mid post qq 1 (turnL T (8 * pre.length + qq))) := by
         have h := Sp.first (pre := pre) (mid := mid) (post := post) (q := qq) (by have := HQ0.out; omega)
         rw [<- HSG.out] at h
         exact h
        have HLT : Hid (∀ q i B,Sp pre mid post q i B -> B.length = T.length) := fun q i B h => by rw [h.length,HSG.out]
        have HCV : Hid (∀ (w' : World) (B : List UInt8),ByAt W0 w' W0.heap.size B -> B.length = T.length -> (convert 43 9 (.slice (some ⟨W0.heap.size,0,none⟩) T.length cp)).run Tryz.prog w' = .ok (.string (S B)) w') := fun w' B h hl => by rw [<- hl]; exact by_string h cp
        go_loopw [25] (fun iv wr => ∃ (i : Nat) (B : List UInt8),iv = .int .i64 (i : Int) /\ 1 <= i /\ i <= 32 /\ ByAt W0 wr W0.heap.size B /\ Sp pre mid post qq i B) (fun iv _ => 32 - (intOf iv).toNat)
        case atStart => exact ⟨1,_,rfl,by omega,by omega,HB2.out.drew.drew,HF.out⟩
        case round =>
         obtain ⟨i,B,rfl,hi1,hi32,hby,hsp⟩ := hrel
         have HBYr : Hid (ByAt W0 wr W0.heap.size B) := hby
         have HSP : Hid (Sp pre mid post qq i B) := hsp
         have cE3 := HCE.out wr B hby
         have hBl := HLT.out _ _ _ hsp
         have ha1 : IntKind.i64.wrap (8 * (pre.length : Int) + (qq : Int) + (i : Int)) = 8 * (pre.length : Int) + (qq : Int) + (i : Int) := by rw [IntKind.wrap_i64]; omega
         have ha2 : IntKind.i64.wrap (8 * (R : Int)) = 8 * (R : Int) := by rw [IntKind.wrap_i64]; omega
         clear hby hsp cB2 cE2 cB cE
         by_cases hlt : i < 32 /\ 8 * pre.length + qq + i < 8 * R
         ·obtain ⟨hi,hA⟩ := hlt
          have hA2 : 8 * (pre.length : Int) + (qq : Int) + (i : Int) < 8 * (R : Int) := by omega
          obtain ⟨J,hJe⟩ : ∃ J,J = (8 * pre.length + qq + i) / 8 := ⟨_,rfl⟩
          obtain ⟨r,hre⟩ : ∃ r,r = (8 * pre.length + qq + i) % 8 := ⟨_,rfl⟩
          have hdv : (8 * (pre.length : Int) + (qq : Int) + (i : Int)).tdiv 8 = (J : Int) := by rw [Int.tdiv_eq_ediv_of_nonneg (by omega)]; omega
          have hmd : (8 * (pre.length : Int) + (qq : Int) + (i : Int)).tmod 8 = (r : Int) := by rw [Int.tmod_eq_emod_of_nonneg (by omega)]; omega
          have hr8 : r < 8 := by omega
          have hJl : J < B.length := by have := HTS.out; have := HR0.out; omega
          have hJl2 : (J : Int) < (T.length : Int) := by omega
          have cJ : wr.cell? ⟨W0.heap.size,J,none⟩ = some (.int .u8 ((B.getD J 0).toNat : Int)) := HBYr.out.cell J hJl
          have fJ : wr.frozen? ⟨W0.heap.size,J,none⟩ = false := HBYr.out.froz J hJl
          have hsh := u8_shl hr8
          have hxo := u8_turn (B.getD J 0) hr8
          have HB3 : Hid (ByAt W0 (wr.setCell ⟨W0.heap.size,J,none⟩ (.int .u8 ((B.getD J 0 ^^^ UInt8.ofNat (2 ^ r)).toNat : Int))) W0.heap.size (turnL B (8 * pre.length + (qq + i)))) := by
           have := HBYr.out.set J (B.getD J 0 ^^^ UInt8.ofNat (2 ^ r)) hJl
           rw [<- turn_eq (p := 8 * pre.length + (qq + i)) (by omega) (by omega)] at this
           exact this
          have HS3 : Hid (Sp pre mid post qq (i + 1) (turnL B (8 * pre.length + (qq + i)))) := HSP.out.turn (by have := HR0.out; omega)
          generalize (B.getD J 0 ^^^ UInt8.ofNat (2 ^ r)).toNat = y at *
          generalize (B.getD J 0).toNat = x at *
          generalize 2 ^ r = pw at *
          obtain ⟨t2,ht2⟩ : ∃ t2,(bt / 2 ^ i).tmod 2 = t2 := ⟨_,rfl⟩
          have ht3 : -2 < t2 /\ t2 < 2 := by
           have h1 := Int.tmod_lt_of_pos (bt / 2 ^ i) (show (0 : Int) < 2 by omega)
           have h2 := Int.lt_tmod_of_pos (bt / 2 ^ i) (show (0 : Int) < 2 by omega)
           omega
          have hwt : IntKind.i64.wrap t2 = t2 := by rw [IntKind.wrap_i64]; omega
          have hwJ : IntKind.i64.wrap (J : Int) = (J : Int) := by rw [IntKind.wrap_i64]; omega
          have hwr : IntKind.i64.wrap (r : Int) = (r : Int) := by rw [IntKind.wrap_i64]; omega
          clear hJe hre hA hJl hBl hi32 hgbl hgel htl htl2 hs2 hs3 hs5 hs6 hkl hMl hm hmlt z4 hj hcv cl zT
          by_cases h0 : t2 = 0
          ·subst h0
           go_wp2
           go_roundw
           case rel => exact ⟨i + 1,B,by go_num,by omega,by omega,HBYr.out,HSP.out.next⟩
           case measure => simp [intOf]; omega
          ·go_wp2_with fail
           go_region
           all_goals
            go_wp2
            go_roundw
            case rel => exact ⟨i + 1,_,by go_num,by omega,by omega,HB3.out.drew,HS3.out⟩
            case measure => simp [intOf]; omega
         ·have HTL2 : Hid (T.length <= 10000) := htl2
          have hno := HNO.out qq i B HSP.out hi32
          have HI1 := HIN.out B wr hno (by have := HTL2.out; omega) (HBB.out wr B HBYr.out)
          have hcs := HCV.out wr B HBYr.out hBl
          have HBf : Hid (Below w5.heap.size w5 wr) := HBB.out wr B HBYr.out
          have hz : ¬ (i : Int) < 32 \/ ((i : Int) < 32 /\ ¬ 8 * (pre.length : Int) + (qq : Int) + (i : Int) < 8 * (R : Int)) := by omega
          clear hlt hBl hi32 hgbl hgel htl htl2 hs2 hs3 hs5 hs6 hkl hMl hm hmlt z4 hj hcv cl zT hno
          rcases hz with hy1 | ⟨hy1,hy2⟩
          all_goals
           go_wp2_with fail
           refine HI1.mono ?_
           rintro e w6 ⟨rfl,hb6⟩
           have HB6 : Hid (Below w5.heap.size w5 w6) := HBf.out.trans (hb6.mono HBf.out.size)
           clear hb6
           go_wp2_with fail
           refine (HIT.out w6 HB6.out).mono ?_
           rintro e w7 ⟨rfl,hb7⟩
           have HB7 : Hid (Below w.heap.size w w7) := HB5.out.trans ((HB6.out.trans (hb7.mono HB6.out.size)).mono HB5.out.size)
           clear hb7
           go_wp2
           go_ret
           exact ⟨rfl,HB7.out⟩
end Go.Proofs.YtdhgebdbiehchaaGreatDoor
