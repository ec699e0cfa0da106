/- On the way: LaOpen. -/
import Derived.Test.YtdhgebdbiehchaaGreatDoorB09
import Derived.Test.YtdhgebdbiehchaaGreatDoorB47
namespace Go.Proofs.YtdhgebdbiehchaaGreatDoor
open Go.ChangeShapes Go.WideShapes Go.ChangeAt Go.WideMaps Go.WideElems Go.RowKit Go.Deep
set_option linter.unusedSimpArgs false
set_option linter.unusedVariables false
theorem cells_act : Tryz.prog.cellsOf 48 = 3 := by kernel_rfl
section
variable {H : Type} {enc : TypeId × Value -> H} {w : World} {base : Nat} {spare : Nat -> Bool} {held : Bool}
theorem three {α : Type} {l : List α} (h : l.length = 3) : ∃ a b c,l = [a,b,c] := by
 match l,h with
 | [a,b,c],_ => exact ⟨a,b,c,rfl⟩
theorem open_act {fuel : Nat} {cs : List Value} {x : DataW H × List MemPlace} (h : DataW.trod enc Tryz.prog w base spare held fuel 48 cs = some x) : ∃ o : Ac,cs = [.int .i64 o.kind,.int .i64 o.a,.int .i64 o.b] /\ AcR o := by
 obtain ⟨xs,n,_,rfl,hl,hlen,hf⟩ := DataW.trod_struct Tryz.underlying48 h
 rw [cells_act] at hl
 obtain ⟨a,b,c,rfl⟩ := three hl
 obtain ⟨y0,y1,y2,rfl⟩ := three (show xs.length = 3 by simpa using hlen)
 have f0 : DataW.trod enc Tryz.prog w base spare held n 3 [a] = some y0 := by
  have := hf 0 _ rfl
  change DataW.trod enc Tryz.prog w base spare held n 3 (List.take (Tryz.prog.cellsOf 3) (List.drop 0 [a,b,c])) = some y0 at this
  rw [cells_int] at this
  exact this
 have f1 : DataW.trod enc Tryz.prog w base spare held n 3 [b] = some y1 := by
  have := hf 1 _ rfl
  change DataW.trod enc Tryz.prog w base spare held n 3 (List.take (Tryz.prog.cellsOf 3) (List.drop 1 [a,b,c])) = some y1 at this
  rw [cells_int] at this
  exact this
 have f2 : DataW.trod enc Tryz.prog w base spare held n 3 [c] = some y2 := by
  have := hf 2 _ rfl
  change DataW.trod enc Tryz.prog w base spare held n 3 (List.take (Tryz.prog.cellsOf 3) (List.drop 2 [a,b,c])) = some y2 at this
  rw [cells_int] at this
  exact this
 obtain ⟨v0,e0,rfl,r0⟩ := DataW.trod_int Tryz.underlying3 f0
 obtain ⟨v1,e1,rfl,r1⟩ := DataW.trod_int Tryz.underlying3 f1
 obtain ⟨v2,e2,rfl,r2⟩ := DataW.trod_int Tryz.underlying3 f2
 simp only [List.cons.injEq,and_true] at e0 e1 e2
 subst e0 e1 e2
 simp [Lit.wf,IntKind.min,IntKind.max,IntKind.signed,IntKind.bits] at r0 r1 r2
 exact ⟨⟨v0,v1,v2⟩,rfl,by unfold IntR; dsimp only; omega,by unfold IntR; dsimp only; omega,by unfold IntR; dsimp only; omega⟩
end
section
variable {H : Type} {enc : TypeId × Value -> H} {w : World} {held : Bool}
theorem open_acts {fuel : Nat} {a0 : Option Addr} {len cap : Nat} {x : DataW H × List MemPlace} (h : DataW.trod enc Tryz.prog w 0 (fun _ => true) held fuel 45 [.slice a0 len cap] = some x) (hlt : ∀ p ∈ x.2,p.block < w.heap.size) :
  ∃ L : List Ac,L.length = len /\ ActsAt w a0 L /\ (∀ o ∈ L,AcR o) /\ len <= 9223372036854775807 := by
 rcases open_slice Tryz.underlying45 h with ⟨hcs,rfl⟩ | ⟨a,len',cap',m,n,D,Pl,hcs,_,hl,hcap,hm,rfl,hel⟩
 ·simp at hcs
  obtain ⟨rfl,rfl,rfl⟩ := hcs
  exact ⟨[],rfl,.inl rfl,fun o ho => by simp at ho,by omega⟩
 ·simp at hcs
  obtain ⟨rfl,rfl,rfl⟩ := hcs
  simp only [if_true] at hm
  subst hm
  have hmax : len <= 9223372036854775807 := by unfold maxLen at hcap; omega
  rw [cells_act] at hel hlt
  have hel' : ∀ i,i < len -> ∃ o : Ac,w.cells? 0 (a.add (i * 3)) 3 = some [.int .i64 o.kind,.int .i64 o.a,.int .i64 o.b] /\ AcR o := by
   intro i hi
   obtain ⟨cs',h1,h2⟩ := hel i (by omega)
   obtain ⟨o,rfl,ho⟩ := open_act h2
   exact ⟨o,h1,ho⟩
  haveI : Inhabited Ac := ⟨⟨0,0,0⟩⟩
  obtain ⟨f,hf⟩ := choose_lt (α := Ac) hel'
  refine ⟨(List.range len).map f,by simp,?_,?_,hmax⟩
  ·by_cases h0 : len = 0
   ·subst h0; exact .inl rfl
   right
   obtain ⟨b,off,spot⟩ := a
   have hspot : spot = none := by
    obtain ⟨h1,_⟩ := hf 0 (by omega)
    obtain ⟨_,_,h2⟩ := World.cells?_some h1
    have := World.cell?_spot (show w.cell? (((⟨b,off,spot⟩ : Addr).add (0 * 3)).add 0) = some (.int .i64 (f 0).kind) from h2 0 (by omega))
    simpa [Addr.add] using this
   subst hspot
   refine ⟨b,off,rfl,hlt (.cell b off) (by simp only [List.mem_append]; exact .inl (MemPlace.mem_row.2 ⟨0,by omega,by simp⟩)),?_⟩
   intro k hk
   simp only [List.length_map,List.length_range] at hk
   simp only [List.getElem_map,List.getElem_range]
   obtain ⟨h1,_⟩ := hf k hk
   obtain ⟨_,_,h2⟩ := World.cells?_some h1
   simp only [add_off] at h2
   exact ⟨h2 0 (by omega),h2 1 (by omega),h2 2 (by omega)⟩
  ·intro z hz
   obtain ⟨i,hi,rfl⟩ := List.mem_map.1 hz
   exact (hf i (by simpa using hi)).2
end
end Go.Proofs.YtdhgebdbiehchaaGreatDoor
