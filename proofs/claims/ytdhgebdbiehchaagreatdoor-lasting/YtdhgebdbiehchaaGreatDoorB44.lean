/- On the way: KpTells, KpKept, KpKept2, SpInts. -/
import Derived.Test.YtdhgebdbiehchaaGreatDoorB41
import Derived.Test.YtdhgebdbiehchaaGreatDoorB43
import Derived.Test.YtdhgebdbiehchaaGreatDoorB39
import Derived.Test.YtdhgebdbiehchaaGreatDoorB37
import Derived.Test.YtdhgebdbiehchaaGreatDoorB33
import Derived.Test.YtdhgebdbiehchaaGreatDoorB28
import Derived.Test.YtdhgebdbiehchaaGreatDoorB10
namespace Go.Proofs.YtdhgebdbiehchaaGreatDoor
open Go.RowKit Go.Maps
set_option linter.unusedSimpArgs false
set_option linter.unusedVariables false
theorem kdk_ok {blk seed bits : Nat} {bs : List (List Ent)} {sy : Nat} {f2 : Option Fl} {ws : List Ent} {c : Nat} (h : KOk blk seed bits bs f2 ws c) (hc : c <= 600) (hsy : sy <= (headL blk seed bits ++ blocksB bs).length) (hs2 : ∀ f,f2 = some f -> f.sync <= f.text.length) : DkOk (kdk blk seed bits bs sy f2 ws) := by
 have h1 := h.text
 have h2 := h.idx
 refine ⟨Nat.le_refl _,?_,?_,?_,(fun e => by cases e),h.hws,h.most,?_⟩
 ·rw [kdk_used]
  show _ <= 100000
  omega
 ·intro i f hf
  unfold Dk.file at hf
  split at hf
  ·cases hf; exact hsy
  ·split at hf
   ·cases hf
   ·split at hf
    ·exact hs2 f hf
    ·cases hf
 ·intro b e
  cases e
  exact ⟨rfl,h.hblk.1,h.hblk.2,rfl⟩
 ·intro b e
  cases e
  exact h.size
structure KSt (E : Sent) (n bx bh blk seed bits c : Nat) (es : List Ent) (G : Nat -> Prop) (bs : List (List Ent)) (sy : Nat) (f2 : Option Fl) (ws : List Ent) (L : List Sd) (w : World) : Prop where
 at' : KAt E n G bx bh (kdk blk seed bits bs sy f2 ws) L w
 ok : KOk blk seed bits bs f2 ws c
 sync : sy <= (headL blk seed bits ++ blocksB bs).length
 sync2 : ∀ f,f2 = some f -> f.sync <= f.text.length
 said : bs.flatten ++ ws = es
 alike : L.map kv = (heldS es).map kv
 few : L.length <= c
def KS (E : Sent) (n bx bh blk seed bits c : Nat) (es : List Ent) (w : World) : Prop := ∃ G bs sy f2 ws L,KSt E n bx bh blk seed bits c es G bs sy f2 ws L w
theorem but_alike {k : List UInt8} {L M : List Sd} (h : L.map kv = M.map kv) : (butK k L).map kv = (M.filter (fun y => decide (y.key ≠ k))).map kv := by
 have e : ∀ l : List Sd,(l.filter (fun y => decide (y.key ≠ k))).map kv = (l.map kv).filter (fun q => decide (q.1 ≠ k)) := fun l => by
  rw [List.filter_map]; rfl
 unfold butK
 rw [e,e,h]
theorem next_alike {es : List Ent} {e : Ent} {L : List Sd} (h : L.map kv = (heldS es).map kv) : (butK e.key L ++ (if e.put = true then [entS e] else [])).map kv = (heldS (es ++ [e])).map kv := by
 rw [heldS_snoc,List.map_append,List.map_append,but_alike h]
theorem KS.drew {E : Sent} {n bx bh blk seed bits c : Nat} {es : List Ent} {w : World} (h : KS E n bx bh blk seed bits c es w) : KS E n bx bh blk seed bits c es w.drew := by
 obtain ⟨G,bs,sy,f2,ws,L,h⟩ := h
 exact ⟨G,bs,sy,f2,ws,L,h.at'.below (Below.refl _ _).drew,h.ok,h.sync,h.sync2,h.said,h.alike,h.few⟩
theorem KSt.below {E : Sent} {n bx bh blk seed bits c : Nat} {es : List Ent} {G : Nat -> Prop} {bs : List (List Ent)} {sy : Nat} {f2 : Option Fl} {ws : List Ent} {L : List Sd} {w w' : World} (h : KSt E n bx bh blk seed bits c es G bs sy f2 ws L w) (hb : Below w.heap.size w w') : KSt E n bx bh blk seed bits c es G bs sy f2 ws L w' := ⟨h.at'.below hb,h.ok,h.sync,h.sync2,h.said,h.alike,h.few⟩
def KE (E : Sent) (n bx : Nat) (T ix : List UInt8) (w : World) : Prop := (∃ (G : Nat -> Prop) (q : StP) (d : Dk),Env0 n w E /\ StoreAt w G bx d q /\ d.fileR [108,111,103] = (T,0) /\ d.fileR [105,110,100,101,120] = (ix,0)) /\ indexS T = some ix /\ T.length <= 100000
theorem KE.below {E : Sent} {n bx : Nat} {T ix : List UInt8} {w w' : World} (h : KE E n bx T ix w) (hb : Below w.heap.size w w') : KE E n bx T ix w' := by
 obtain ⟨⟨G,q,d,h1,h2,h3,h4⟩,h5,h6⟩ := h
 exact ⟨⟨G,q,d,h1.below (hb.mono h1.le),h2.below hb,h3,h4⟩,h5,h6⟩
theorem KE.log {E : Sent} {n bx : Nat} {T ix : List UInt8} {w : World} (h : KE E n bx T ix w) : Calls Tryz.prog 19 #[.pointer (some ⟨bx,0,none⟩),.string ⟨#[108,111,103]⟩] w fun e w' => e = .returned (.tuple #[.string (S T),.int .i64 0]) /\ KE E n bx T ix w' /\ Below w.heap.size w w' := by
 have h0 := h
 obtain ⟨⟨G,q,d,h1,h2,h3,h4⟩,h5,h6⟩ := h
 refine (fileS_any E n G bx d q ⟨#[108,111,103]⟩ w h1 h2 (by decide)).mono ?_
 rw [show (⟨#[108,111,103]⟩ : ByteArray).data.toList = [108,111,103] from rfl,h3]
 rintro e w' ⟨rfl,hb⟩
 exact ⟨rfl,h0.below hb,hb⟩
theorem KE.idx {E : Sent} {n bx : Nat} {T ix : List UInt8} {w : World} (h : KE E n bx T ix w) : Calls Tryz.prog 19 #[.pointer (some ⟨bx,0,none⟩),.string ⟨#[105,110,100,101,120]⟩] w fun e w' => e = .returned (.tuple #[.string (S ix),.int .i64 0]) /\ KE E n bx T ix w' /\ Below w.heap.size w w' := by
 have h0 := h
 obtain ⟨⟨G,q,d,h1,h2,h3,h4⟩,h5,h6⟩ := h
 refine (fileS_any E n G bx d q ⟨#[105,110,100,101,120]⟩ w h1 h2 (by decide)).mono ?_
 rw [show (⟨#[105,110,100,101,120]⟩ : ByteArray).data.toList = [105,110,100,101,120] from rfl,h4]
 rintro e w' ⟨rfl,hb⟩
 exact ⟨rfl,h0.below hb,hb⟩
theorem KE.again {E : Sent} {n bx : Nat} {T ix : List UInt8} {w : World} (h : KE E n bx T ix w) : Calls Tryz.prog 20 #[.string (S T)] w fun e w' => e = .returned (.tuple #[.string (S ix),.int .i64 0]) /\ Below w.heap.size w w' := by
 obtain ⟨⟨G,q,d,h1,h2,h3,h4⟩,h5,h6⟩ := h
 refine (progIndex_any (S T) w (by rw [S_size]; omega) h1.env.halves).mono ?_
 rw [show (S T).data.toList = T from rfl,h5]
 exact fun e w' h => h
theorem info_int : (Tryz.prog.info? 3).map (fun i => (i.zero,i.size,i.bytes)) = some (some (.int .i64 0),1,8) := by kernel_rfl
def cellsN (l : List Int) : List Value := l.map fun x => .int .i64 x
theorem app_int {W : World} {base : Nat} {v : Value} {l : List Int} {x : Int} {g0 : Nat} (h1 : W.ownsRow base 3 1 v l.length (cellsN l)) (hg : W.cell? ⟨g0,0,none⟩ = some (.int .i64 x)) (hl : l.length <= 1000000) (hbase : base <= W.heap.size) :
  ∃ g cap w',(Builtin.append_ #[25,25] 25 #[v,.slice (some ⟨g0,0,none⟩) 1 1]).run Tryz.prog W = .ok (.slice (some ⟨g,0,none⟩) (l.length + 1) cap) w' /\
   w'.ownsRow base 3 1 (.slice (some ⟨g,0,none⟩) (l.length + 1) cap) (l.length + 1) (cellsN (l ++ [x])) /\ W.grownBy w' v.ownBlock /\ (v.ownBlock = some g \/ W.heap.size <= g) := by
 obtain ⟨i0,hi,hz0,hz1,hz2⟩ := info_parts info_int
 obtain ⟨g,cap,w',a1,a2,a3,a4,a5⟩ := run_append_lies (P := Tryz.prog) W 25 25 base 3 i0 (.int .i64 0) 1 8 Tryz.underlying25 hi hz0 hz1 hz2 rfl (by decide) v l.length (cellsN l) h1 ⟨g0,0,none⟩ 1 1 [.int .i64 x] rfl (fun j u hu => by
  match j,hu with
  | 0,hu => cases hu; exact hg) (by simp [Value.oneCell']) (by omega) (by unfold maxLen; omega) (by omega) hbase _ rfl
 have e : cellsN (l ++ [x]) = cellsN l ++ [.int .i64 x] := by simp [cellsN]
 rw [<- e] at a2
 exact ⟨g,cap,w',a1,a2,a3,a4.imp id (fun h => by omega)⟩
end Go.Proofs.YtdhgebdbiehchaaGreatDoor
