/- On the way: LaidEnv. -/
import Derived.Test.YtdhgebdbiehchaaGreatDoorB49
import Derived.Test.YtdhgebdbiehchaaGreatDoorB12
import Derived.LaidLaws
import Derived.LaidHandle
namespace Go.Proofs.YtdhgebdbiehchaaGreatDoor
open Go.RowKit Go.ChangeShapes Go.WideShapes
set_option linter.unusedSimpArgs false
set_option linter.unusedVariables false
set_option maxRecDepth 100000
theorem gET : Tryz.prog.globalNamed "errors.errorType" = some 4 := by kernel_rfl
theorem gRoom : Tryz.prog.globalNamed "ledge/disk.ErrRoom" = some 0 := by kernel_rfl
theorem gGone : Tryz.prog.globalNamed "ledge/disk.ErrNoFile" = some 5 := by kernel_rfl
theorem gDown : Tryz.prog.globalNamed "ledge/disk.ErrDown" = some 1 := by kernel_rfl
theorem gUp : Tryz.prog.globalNamed "ledge/disk.ErrUp" = some 3 := by kernel_rfl
theorem gPower : Tryz.prog.globalNamed "ledge/disk.ErrPower" = some 2 := by kernel_rfl
theorem tRoom : (Tryz.prog.globals[0]?).map (·.type) = some 80 := by kernel_rfl
theorem tGone : (Tryz.prog.globals[5]?).map (·.type) = some 80 := by kernel_rfl
theorem tDown : (Tryz.prog.globals[1]?).map (·.type) = some 80 := by kernel_rfl
theorem tUp : (Tryz.prog.globals[3]?).map (·.type) = some 80 := by kernel_rfl
theorem tPower : (Tryz.prog.globals[2]?).map (·.type) = some 80 := by kernel_rfl
theorem cells_es : Tryz.prog.cellsOf 370 = 1 := by kernel_rfl
theorem cells_st : Tryz.prog.cellsOf 9 = 1 := by kernel_rfl
theorem es_star : "*" ++ "errors.errorString" = "*errors.errorString" := by decide
theorem es_row (u : TypeId) (h : Tryz.prog.typeName? 3 u = some "*errors.errorString") : u = 352 :=
 typeName_ptr_named (nm := "errors.errorString") (by rw [es_star]; kernel_rfl) (by kernel_rfl) (by decide) u (by rw [es_star]; exact h)
theorem et_rt : (Tryz.prog.cutTypes.find? (·.1 == "internal/reflectlite.rtype")).map (·.2) = some 280 := by kernel_rfl
theorem et_size : Tryz.prog.types.size = 382 := by kernel_rfl
theorem et_one : ((List.range 382).filter fun t => Tryz.prog.rowNamed t [101,114,114,111,114]) = [80] := by kernel_rfl
theorem et_handle : typeHandle Tryz.prog 80 = .pointer (some ⟨7,80,none⟩) := by kernel_rfl
abbrev laidSix : List (String × DataW Unit) := [("ledge/sums.halves",Rows.laid_ledge_sums_halves),("ledge/disk.ErrRoom",Rows.laid_ledge_disk_ErrRoom),("ledge/disk.ErrNoFile",Rows.laid_ledge_disk_ErrNoFile),("ledge/disk.ErrDown",Rows.laid_ledge_disk_ErrDown),("ledge/disk.ErrUp",Rows.laid_ledge_disk_ErrUp),("ledge/disk.ErrPower",Rows.laid_ledge_disk_ErrPower)]
theorem handle_of_laid {W : World} (h : handlesMet Tryz.prog [("errors.errorType",Rows.laid_errors_errorType)] W) : W.cell? ⟨4,0,none⟩ = some (.iface 280 (.agg #[.pointer (some ⟨7,80,none⟩)])) := by
 obtain ⟨name,u,ty,e1,e2,e3,e4,e5⟩ := h _ (List.mem_singleton.2 rfl)
 have en : name = [101,114,114,111,114] := (Option.some.inj e1).symm
 subst en
 obtain rfl := Option.some.inj (et_rt.symm.trans e2)
 have hm : ty ∈ (List.range 382).filter fun t => Tryz.prog.rowNamed t [101,114,114,111,114] := List.mem_filter.2 ⟨List.mem_range.2 (Nat.lt_of_lt_of_eq e3 et_size),e4⟩
 rw [et_one] at hm
 obtain rfl := List.mem_singleton.1 hm
 rw [et_handle] at e5
 simpa using World.var?_cell gET e5 0
theorem sent_of {W : World} {g : Nat} {n : String} {cs : Array Value} {f : Nat} {text : List UInt8} {p : List MemPlace} (hg : Tryz.prog.globalNamed n = some g) (hv : W.var? Tryz.prog n = some cs) (hd : DataW.trod (fun _ => ()) Tryz.prog W 0 (fun _ => true) false f 80 cs.toList = some (.iface "*errors.errorString" (.ptr (.agg [.lit (.string text)])),p))
  (hok : ∀ u v,W.cell? ⟨g,0,none⟩ = some (.iface u v) -> Value.okWide Tryz.prog W .any 0 u v) : ∃ a,W.cell? ⟨g,0,none⟩ = some (.iface 352 (.pointer (some a))) /\ p = MemPlace.row a 1 /\ cs.size = 1 := by
 obtain ⟨l⟩ := cs
 have hc := World.var?_cell hg hv 0
 obtain ⟨a,s,e,_,_,_,hp⟩ := errorString_of_trod Tryz.underlying80 es_row Tryz.underlying352 Tryz.underlying370 rfl rfl Tryz.underlying9 cells_es cells_st hd (fun u v e => hok u v (by
  have e' : l = [.iface u v] := e
  subst e'
  exact hc.trans rfl))
 have e' : l = [.iface 352 (.pointer (some a))] := e
 subst e'
 exact ⟨a,hc.trans rfl,hp,rfl⟩
theorem env_of_parts {W : World} (h1 : laidMet Tryz.prog laidSix W) (h2 : handlesMet Tryz.prog [("errors.errorType",Rows.laid_errors_errorType)] W) : ∃ E,Env W E := by
 have hh : HalvesAt W := by
  obtain ⟨ps,hv,_,_⟩ := h1
  exact halves_of_vars hv
 obtain ⟨ps,⟨g0,t0,cs0,f0,p0,q0,hg0,ht0,hv0,hd0,⟨g1,t1,cs1,f1,p1,q1,hg1,ht1,hv1,hd1,⟨g2,t2,cs2,f2,p2,q2,hg2,ht2,hv2,hd2,⟨g3,t3,cs3,f3,p3,q3,hg3,ht3,hv3,hd3,⟨g4,t4,cs4,f4,p4,q4,hg4,ht4,hv4,hd4,⟨g5,t5,cs5,f5,p5,q5,hg5,ht5,hv5,hd5,hq5,e5⟩,e4⟩,e3⟩,e2⟩,e1⟩,e0⟩,hnd,hrows⟩ := h1
 obtain rfl := Option.some.inj (gRoom.symm.trans hg1)
 obtain rfl := Option.some.inj (gGone.symm.trans hg2)
 obtain rfl := Option.some.inj (gDown.symm.trans hg3)
 obtain rfl := Option.some.inj (gUp.symm.trans hg4)
 obtain rfl := Option.some.inj (gPower.symm.trans hg5)
 obtain rfl := Option.some.inj (tRoom.symm.trans ht1)
 obtain rfl := Option.some.inj (tGone.symm.trans ht2)
 obtain rfl := Option.some.inj (tDown.symm.trans ht3)
 obtain rfl := Option.some.inj (tUp.symm.trans ht4)
 obtain rfl := Option.some.inj (tPower.symm.trans ht5)
 have hq5' : q5 = [] := hq5
 subst hq5'
 subst e5 e4 e3 e2 e1 e0
 have one : ∀ {l : Array Value} {g : Nat} {n : String} {f : Nat} {x : DataW Unit} {p : List MemPlace},Tryz.prog.globalNamed n = some g -> W.var? Tryz.prog n = some l -> DataW.trod (fun _ => ()) Tryz.prog W 0 (fun _ => true) false f 80 l.toList = some (x,p) -> (∀ nm d,x = .iface nm d -> 0 < l.size) := fun {l g n f x p} _ _ hd nm d hx => by
  subst hx
  obtain ⟨f1,u,v,hl,_,_⟩ := iface_of_trod Tryz.underlying80 hd
  have := congrArg List.length hl
  simp at this
  omega
 have z1 := one hg1 hv1 hd1 _ _ rfl
 have z2 := one hg2 hv2 hd2 _ _ rfl
 have z3 := one hg3 hv3 hd3 _ _ rfl
 have z4 := one hg4 hv4 hd4 _ _ rfl
 have z5 := one hg5 hv5 hd5 _ _ rfl
 have inrow : ∀ {g n : Nat},0 < n -> MemPlace.cell g 0 ∈ MemPlace.row ⟨g,0,none⟩ n := fun {g n} hn => by
  simp [MemPlace.row]
  omega
 obtain ⟨a1,k1,rfl,s1⟩ := sent_of hg1 hv1 hd1 (hrows _ 0 (by simp only [List.mem_append]; exact .inr (.inl (.inl (inrow z1))))).2
 obtain ⟨a2,k2,rfl,s2⟩ := sent_of hg2 hv2 hd2 (hrows _ 0 (by simp only [List.mem_append]; exact .inr (.inr (.inl (.inl (inrow z2)))))).2
 obtain ⟨a3,k3,rfl,s3⟩ := sent_of hg3 hv3 hd3 (hrows _ 0 (by simp only [List.mem_append]; exact .inr (.inr (.inr (.inl (.inl (inrow z3))))))).2
 obtain ⟨a4,k4,rfl,s4⟩ := sent_of hg4 hv4 hd4 (hrows _ 0 (by simp only [List.mem_append]; exact .inr (.inr (.inr (.inr (.inl (.inl (inrow z4)))))))).2
 obtain ⟨a5,k5,rfl,s5⟩ := sent_of hg5 hv5 hd5 (hrows _ 0 (by simp only [List.mem_append]; exact .inr (.inr (.inr (.inr (.inr (.inl (.inl (inrow z5))))))))).2
 have rowa : ∀ a : Addr,MemPlace.cell a.block a.off ∈ MemPlace.row a 1 := fun a => by simp [MemPlace.row,Addr.add]
 have b1 := (hrows a1.block a1.off (by simp only [List.mem_append]; exact .inr (.inl (.inr (rowa a1))))).1
 have b2 := (hrows a2.block a2.off (by simp only [List.mem_append]; exact .inr (.inr (.inl (.inr (rowa a2)))))).1
 have b3 := (hrows a3.block a3.off (by simp only [List.mem_append]; exact .inr (.inr (.inr (.inl (.inr (rowa a3))))))).1
 have b4 := (hrows a4.block a4.off (by simp only [List.mem_append]; exact .inr (.inr (.inr (.inr (.inl (.inr (rowa a4)))))))).1
 have b5 := (hrows a5.block a5.off (by simp only [List.mem_append]; exact .inr (.inr (.inr (.inr (.inr (.inl (.inr (rowa a5))))))))).1
 refine ⟨⟨a1,a2,a3,a4,a5⟩,⟨hh,handle_of_laid h2,k1,k2,k3,k4,k5,?_,?_⟩⟩
 ·intro a ha
  simp only [Sent.all,List.mem_cons,List.not_mem_nil,or_false] at ha
  rcases ha with rfl | rfl | rfl | rfl | rfl
  ·exact b1
  ·exact b2
  ·exact b3
  ·exact b4
  ·exact b5
 ·obtain ⟨_,m1,_⟩ := List.nodup_append.1 hnd
  obtain ⟨_,m2,d1⟩ := List.nodup_append.1 m1
  obtain ⟨_,m3,d2⟩ := List.nodup_append.1 m2
  obtain ⟨_,m4,d3⟩ := List.nodup_append.1 m3
  obtain ⟨_,m5,d4⟩ := List.nodup_append.1 m4
  have q : ∀ {L : List MemPlace} (a : Addr),MemPlace.cell a.block a.off ∈ L ++ MemPlace.row a 1 := fun a => List.mem_append.2 (.inr (rowa a))
  have f12 : a1 ≠ a2 := fun e => d1 _ (q a1) _ (List.mem_append.2 (.inl (q a2))) (by rw [e])
  have f13 : a1 ≠ a3 := fun e => d1 _ (q a1) _ (List.mem_append.2 (.inr (List.mem_append.2 (.inl (q a3))))) (by rw [e])
  have f14 : a1 ≠ a4 := fun e => d1 _ (q a1) _ (List.mem_append.2 (.inr (List.mem_append.2 (.inr (List.mem_append.2 (.inl (q a4))))))) (by rw [e])
  have f15 : a1 ≠ a5 := fun e => d1 _ (q a1) _ (List.mem_append.2 (.inr (List.mem_append.2 (.inr (List.mem_append.2 (.inr (List.mem_append.2 (.inl (q a5))))))))) (by rw [e])
  have f23 : a2 ≠ a3 := fun e => d2 _ (q a2) _ (List.mem_append.2 (.inl (q a3))) (by rw [e])
  have f24 : a2 ≠ a4 := fun e => d2 _ (q a2) _ (List.mem_append.2 (.inr (List.mem_append.2 (.inl (q a4))))) (by rw [e])
  have f25 : a2 ≠ a5 := fun e => d2 _ (q a2) _ (List.mem_append.2 (.inr (List.mem_append.2 (.inr (List.mem_append.2 (.inl (q a5))))))) (by rw [e])
  have f34 : a3 ≠ a4 := fun e => d3 _ (q a3) _ (List.mem_append.2 (.inl (q a4))) (by rw [e])
  have f35 : a3 ≠ a5 := fun e => d3 _ (q a3) _ (List.mem_append.2 (.inr (List.mem_append.2 (.inl (q a5))))) (by rw [e])
  have f45 : a4 ≠ a5 := fun e => d4 _ (q a4) _ (List.mem_append.2 (.inl (q a5))) (by rw [e])
  simp [Sent.all,f12,f13,f14,f15,f23,f24,f25,f34,f35,f45]
end Go.Proofs.YtdhgebdbiehchaaGreatDoor
