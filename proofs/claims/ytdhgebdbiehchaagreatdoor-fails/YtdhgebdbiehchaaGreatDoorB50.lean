/- On the way: Open. -/
import Derived.Test.YtdhgebdbiehchaaGreatDoorB12
import Derived.ProofKit
import Derived.Deep.Slices
import Derived.Deep.Strs
import Derived.SizedLaws
namespace Go.Proofs.YtdhgebdbiehchaaGreatDoor
open Go.ChangeShapes Go.WideShapes Go.ChangeAt Go.WideMaps Go.WideElems Go.RowKit Go.Deep
set_option linter.unusedSimpArgs false
set_option linter.unusedVariables false
theorem cells_op : Tryz.prog.cellsOf 68 = 10 := by kernel_rfl
theorem cells_int : Tryz.prog.cellsOf 3 = 1 := by kernel_rfl
theorem cells_str : Tryz.prog.cellsOf 9 = 1 := by kernel_rfl
theorem cells_cfg : Tryz.prog.cellsOf 29 = 3 := by kernel_rfl
theorem bytes_op : Tryz.prog.bytesOf 68 = 104 := by kernel_rfl
theorem ten {α : Type} {l : List α} (h : l.length = 10) : ∃ a b c d e f g i j k,l = [a,b,c,d,e,f,g,i,j,k] := by
 match l,h with
 | [a,b,c,d,e,f,g,i,j,k],_ => exact ⟨a,b,c,d,e,f,g,i,j,k,rfl⟩
theorem eight {α : Type} {l : List α} (h : l.length = 8) : ∃ a b c d e f g i,l = [a,b,c,d,e,f,g,i] := by
 match l,h with
 | [a,b,c,d,e,f,g,i],_ => exact ⟨a,b,c,d,e,f,g,i,rfl⟩
section
variable {H : Type} {enc : TypeId × Value -> H} {w : World} {base : Nat} {spare : Nat -> Bool} {held : Bool}
def OpV.data (o : OpV) : DataW H := .agg [.lit (.int .i64 o.kind),.lit (.int .i64 o.at'),.lit (.int .i64 o.x),.lit (.int .i64 o.y),.lit (.string o.s.data.toList),.lit (.string o.t.data.toList),.lit (.string o.u.data.toList),.agg [.lit (.int .i64 o.c0),.lit (.int .i64 o.c1),.lit (.int .i64 o.c2)]]
theorem trod_str {fuel : Nat} {cs : List Value} {x : DataW H × List MemPlace} (h : DataW.trod enc Tryz.prog w base spare held fuel 9 cs = some x) : ∃ s : ByteArray,cs = [.string s] /\ x = (.lit (.string s.data.toList),[]) := by
 obtain ⟨s,h1,h2,_⟩ := DataW.trod_string Tryz.underlying9 h
 exact ⟨s,h1,h2⟩
theorem open_op {fuel : Nat} {cs : List Value} {x : DataW H × List MemPlace} (h : DataW.trod enc Tryz.prog w base spare held fuel 68 cs = some x) : ∃ o : OpV,cs = o.cells /\ x.1 = o.data /\ o.x <= 9223372036854775807 /\ o.y <= 9223372036854775807 := by
 obtain ⟨xs,n,_,rfl,hl,hlen,hf⟩ := DataW.trod_struct Tryz.underlying68 h
 rw [cells_op] at hl
 obtain ⟨a,b,c,d,e,f,g,i,j,k,rfl⟩ := ten hl
 obtain ⟨y0,y1,y2,y3,y4,y5,y6,y7,rfl⟩ := eight (show xs.length = 8 by simpa using hlen)
 have f0 : DataW.trod enc Tryz.prog w base spare held n 3 [a] = some y0 := by
  have := hf 0 _ rfl
  change DataW.trod enc Tryz.prog w base spare held n 3 (List.take (Tryz.prog.cellsOf 3) (List.drop 0 [a,b,c,d,e,f,g,i,j,k])) = some y0 at this
  rw [cells_int] at this
  exact this
 have f1 : DataW.trod enc Tryz.prog w base spare held n 3 [b] = some y1 := by
  have := hf 1 _ rfl
  change DataW.trod enc Tryz.prog w base spare held n 3 (List.take (Tryz.prog.cellsOf 3) (List.drop 1 [a,b,c,d,e,f,g,i,j,k])) = some y1 at this
  rw [cells_int] at this
  exact this
 have f2 : DataW.trod enc Tryz.prog w base spare held n 3 [c] = some y2 := by
  have := hf 2 _ rfl
  change DataW.trod enc Tryz.prog w base spare held n 3 (List.take (Tryz.prog.cellsOf 3) (List.drop 2 [a,b,c,d,e,f,g,i,j,k])) = some y2 at this
  rw [cells_int] at this
  exact this
 have f3 : DataW.trod enc Tryz.prog w base spare held n 3 [d] = some y3 := by
  have := hf 3 _ rfl
  change DataW.trod enc Tryz.prog w base spare held n 3 (List.take (Tryz.prog.cellsOf 3) (List.drop 3 [a,b,c,d,e,f,g,i,j,k])) = some y3 at this
  rw [cells_int] at this
  exact this
 have f4 : DataW.trod enc Tryz.prog w base spare held n 9 [e] = some y4 := by
  have := hf 4 _ rfl
  change DataW.trod enc Tryz.prog w base spare held n 9 (List.take (Tryz.prog.cellsOf 9) (List.drop 4 [a,b,c,d,e,f,g,i,j,k])) = some y4 at this
  rw [cells_str] at this
  exact this
 have f5 : DataW.trod enc Tryz.prog w base spare held n 9 [f] = some y5 := by
  have := hf 5 _ rfl
  change DataW.trod enc Tryz.prog w base spare held n 9 (List.take (Tryz.prog.cellsOf 9) (List.drop 5 [a,b,c,d,e,f,g,i,j,k])) = some y5 at this
  rw [cells_str] at this
  exact this
 have f6 : DataW.trod enc Tryz.prog w base spare held n 9 [g] = some y6 := by
  have := hf 6 _ rfl
  change DataW.trod enc Tryz.prog w base spare held n 9 (List.take (Tryz.prog.cellsOf 9) (List.drop 6 [a,b,c,d,e,f,g,i,j,k])) = some y6 at this
  rw [cells_str] at this
  exact this
 have f7 : DataW.trod enc Tryz.prog w base spare held n 29 [i,j,k] = some y7 := by
  have := hf 7 _ rfl
  change DataW.trod enc Tryz.prog w base spare held n 29 (List.take (Tryz.prog.cellsOf 29) (List.drop 7 [a,b,c,d,e,f,g,i,j,k])) = some y7 at this
  rw [cells_cfg] at this
  exact this
 obtain ⟨z0,z1,z2,m,rfl,_,g0,g1,g2⟩ := trod_struct3 Tryz.underlying29 f7
 simp only [cells_int] at g0 g1 g2
 obtain ⟨v0,e0,rfl,_⟩ := DataW.trod_int Tryz.underlying3 f0
 obtain ⟨v1,e1,rfl,_⟩ := DataW.trod_int Tryz.underlying3 f1
 obtain ⟨v2,e2,rfl,r2⟩ := DataW.trod_int Tryz.underlying3 f2
 obtain ⟨v3,e3,rfl,r3⟩ := DataW.trod_int Tryz.underlying3 f3
 obtain ⟨v4,e4,rfl⟩ := trod_str f4
 obtain ⟨v5,e5,rfl⟩ := trod_str f5
 obtain ⟨v6,e6,rfl⟩ := trod_str f6
 obtain ⟨u0,d0,rfl,_⟩ := DataW.trod_int Tryz.underlying3 (show DataW.trod enc Tryz.prog w base spare held m 3 [i] = some z0 from g0)
 obtain ⟨u1,d1,rfl,_⟩ := DataW.trod_int Tryz.underlying3 (show DataW.trod enc Tryz.prog w base spare held m 3 [j] = some z1 from g1)
 obtain ⟨u2,d2,rfl,_⟩ := DataW.trod_int Tryz.underlying3 (show DataW.trod enc Tryz.prog w base spare held m 3 [k] = some z2 from g2)
 simp only [List.cons.injEq,and_true] at e0 e1 e2 e3 e4 e5 e6 d0 d1 d2
 subst e0 e1 e2 e3 e4 e5 e6 d0 d1 d2
 simp [Lit.wf,IntKind.min,IntKind.max,IntKind.signed,IntKind.bits] at r2 r3
 exact ⟨⟨v0,v1,v2,v3,v4,v5,v6,u0,u1,u2⟩,rfl,rfl,by dsimp only; omega,by dsimp only; omega⟩
theorem add_off (b off i : Nat) : (⟨b,off,none⟩ : Addr).add i = ⟨b,off + i,none⟩ := by unfold Addr.add; split <;> simp_all
theorem open_script {fuel : Nat} {a0 : Option Addr} {len cap : Nat} {x : DataW H × List MemPlace} (h : DataW.trod enc Tryz.prog w 0 (fun _ => true) held fuel 22 [.slice a0 len cap] = some x) (hlt : ∀ p ∈ x.2,p.block < w.heap.size) :
  ∃ L : List OpV,L.length = len /\ ScriptAt w a0 L /\ ((x.1 = .nil /\ L = []) \/ ∃ sp,x.1 = .slice (L.map OpV.data) sp) /\ ∀ o ∈ L,o.x <= 9223372036854775807 /\ o.y <= 9223372036854775807 := by
 rcases open_slice Tryz.underlying22 h with ⟨hcs,rfl⟩ | ⟨a,len',cap',m,n,D,Pl,hcs,_,hl,_,hm,rfl,hel⟩
 ·simp at hcs
  obtain ⟨rfl,rfl,rfl⟩ := hcs
  exact ⟨[],rfl,.inl rfl,.inl ⟨rfl,rfl⟩,fun o ho => by simp at ho⟩
 ·simp at hcs
  obtain ⟨rfl,rfl,rfl⟩ := hcs
  simp only [if_true] at hm
  subst hm
  rw [cells_op] at hel hlt
  have hel' : ∀ i,i < len -> ∃ o : OpV,w.cells? 0 (a.add (i * 10)) 10 = some o.cells /\ D i = o.data /\ o.x <= 9223372036854775807 /\ o.y <= 9223372036854775807 := by
   intro i hi
   obtain ⟨cs',h1,h2⟩ := hel i (by omega)
   obtain ⟨o,rfl,ho,hrg⟩ := open_op h2
   exact ⟨o,h1,ho,hrg⟩
  haveI : Inhabited OpV := ⟨⟨0,0,0,0,⟨#[]⟩,⟨#[]⟩,⟨#[]⟩,0,0,0⟩⟩
  obtain ⟨f,hf⟩ := choose_lt (α := OpV) hel'
  refine ⟨(List.range len).map f,by simp,?_,.inr ⟨(List.range (m - len)).map fun j => D (len + j),?_⟩,?_⟩
  ·by_cases h0 : len = 0
   ·subst h0; exact .inl rfl
   right
   obtain ⟨b,off,spot⟩ := a
   have hspot : spot = none := by
    obtain ⟨h1,_⟩ := hf 0 (by omega)
    obtain ⟨_,_,h2⟩ := World.cells?_some h1
    have := World.cell?_spot (show w.cell? (((⟨b,off,spot⟩ : Addr).add (0 * 10)).add 0) = some (.int .i64 (f 0).kind) from h2 0 (by omega))
    simpa [Addr.add] using this
   subst hspot
   refine ⟨b,off,rfl,hlt (.cell b off) (by simp only [List.mem_append]; exact .inl (MemPlace.mem_row.2 ⟨0,by omega,by simp⟩)),?_⟩
   intro k hk
   simp only [List.length_map,List.length_range] at hk
   simp only [List.getElem_map,List.getElem_range]
   obtain ⟨h1,_⟩ := hf k hk
   obtain ⟨_,_,h2⟩ := World.cells?_some h1
   simp only [add_off] at h2
   exact ⟨h2 0 (by omega),h2 1 (by omega),h2 2 (by omega),h2 3 (by omega),h2 4 (by omega),h2 5 (by omega),h2 6 (by omega),h2 7 (by omega),h2 8 (by omega),h2 9 (by omega)⟩
  ·show DataW.slice _ _ = _
   congr 1
   rw [List.map_map]
   refine List.map_congr_left fun i hi => (hf i (by simpa using hi)).2.1
  ·intro o ho
   obtain ⟨i,hi,rfl⟩ := List.mem_map.1 ho
   exact (hf i (by simpa using hi)).2.2
theorem mem_weightsAll {P : Program} {e : TypeId} {d : DataW H} {x : Nat} (hx : x ∈ d.weights P e) : ∀ (l : List (DataW H)),d ∈ l -> x ∈ DataW.weightsAll P e l
 | [],h => by simp at h
 | c :: l,h => by
  simp only [DataW.weightsAll,List.mem_append]
  rcases List.mem_cons.1 h with rfl | h
  ·exact .inl hx
  ·exact .inr (mem_weightsAll hx l h)
theorem op_weights (o : OpV) : o.s.size ∈ DataW.weights Tryz.prog 68 (OpV.data (H := H) o) /\ o.t.size ∈ DataW.weights Tryz.prog 68 (OpV.data (H := H) o) /\ o.u.size ∈ DataW.weights Tryz.prog 68 (OpV.data (H := H) o) := by
 simp [OpV.data,DataW.weights,DataW.weightsEach,Tryz.underlying68]
theorem script_sized {L : List OpV} {sp : List (DataW H)} (h : (DataW.weightsEach Tryz.prog [22] [DataW.slice (L.map OpV.data) sp]).all (· <= reachBytes) = true) (hrg : ∀ o ∈ L,o.x <= 9223372036854775807 /\ o.y <= 9223372036854775807) : (∀ o ∈ L,o.sized) /\ L.length <= 140737488351232 := by
 have h' : ∀ x ∈ DataW.weights Tryz.prog 22 (DataW.slice (L.map OpV.data) sp),x <= 140737488351232 := by
  intro x hx
  have := List.all_eq_true.1 h x (by simp only [DataW.weightsEach,List.append_nil]; exact hx)
  exact of_decide_eq_true this
 simp only [DataW.weights,Tryz.underlying22,List.mem_cons,List.mem_append] at h'
 constructor
 ·intro o ho
  have hw := op_weights (H := H) o
  have hm : ∀ x ∈ DataW.weights Tryz.prog 68 (OpV.data (H := H) o),x <= 140737488351232 := fun x hx => h' x (.inr (.inl (mem_weightsAll hx _ (List.mem_map.2 ⟨o,ho,rfl⟩))))
  exact ⟨hm _ hw.1,hm _ hw.2.1,hm _ hw.2.2,hrg o ho⟩
 ·have := h' _ (.inl rfl)
  rw [bytes_op,List.length_map] at this
  omega
end
end Go.Proofs.YtdhgebdbiehchaaGreatDoor
