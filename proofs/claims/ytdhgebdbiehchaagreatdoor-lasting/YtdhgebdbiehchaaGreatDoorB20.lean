/- On the way: PDisk, PFind. -/
import Derived.Test.YtdhgebdbiehchaaGreatDoorB12
import Derived.Test.YtdhgebdbiehchaaGreatDoorB08
import Derived.Test.YtdhgebdbiehchaaGreatDoorB18
import Derived.Test.YtdhgebdbiehchaaGreatDoorB19
namespace Go.Proofs.YtdhgebdbiehchaaGreatDoor
open Go.RowKit Go.Maps
set_option linter.unusedSimpArgs false
set_option linter.unusedVariables false
set_option maxRecDepth 100000
set_option maxHeartbeats 1600000
structure Chg (F : Nat -> Prop) (w w' : World) : Prop where
 os : w'.os = w.os
 tape : w'.tape = w.tape
 output : w'.output = w.output
 size : w.heap.size <= w'.heap.size
 keep : ∀ k,k < w.heap.size -> ¬ F k -> w'.heap[k]? = w.heap[k]?
def Fx (F : Nat -> Prop) (w w' : World) (k : Nat) : Prop := F k \/ (w.heap.size <= k /\ k < w'.heap.size)
theorem Chg.refl (F : Nat -> Prop) (w : World) : Chg F w w := ⟨rfl,rfl,rfl,Nat.le_refl _,fun _ _ _ => rfl⟩
theorem Chg.of_below {F : Nat -> Prop} {w w' : World} (h : Below w.heap.size w w') : Chg F w w' := ⟨h.os,h.tape,h.output,h.size,fun k hk _ => h.block k hk⟩
theorem Chg.alloc {F : Nat -> Prop} {w w' : World} (h : Chg F w w') (o : Obj) : Chg F w (w'.alloc o) :=
 ⟨h.os,h.tape,h.output,Nat.le_trans h.size (by simp),fun k hk hf => (Below.heap_alloc w' o k (Nat.lt_of_lt_of_le hk h.size)).trans (h.keep k hk hf)⟩
theorem Chg.drew {F : Nat -> Prop} {w w' : World} (h : Chg F w w') : Chg F w w'.drew := ⟨h.os,h.tape,h.output,h.size,h.keep⟩
theorem Chg.grown {F : Nat -> Prop} {w w1 w2 : World} {row : Option Nat} (h : Chg F w w1) (hg : w1.grownBy w2 row) (hr : ∀ k,row = some k -> F k \/ w.heap.size <= k) : Chg F w w2 :=
 ⟨hg.os.trans h.os,hg.tape.trans h.tape,hg.output.trans h.output,Nat.le_trans h.size hg.size,fun k hk hf => (hg.block k (Nat.lt_of_lt_of_le hk h.size) (fun e => by rcases hr k e.symm with h1 | h1; exact hf h1; omega)).trans (h.keep k hk hf)⟩
theorem Chg.set {F : Nat -> Prop} {w w1 : World} (h : Chg F w w1) (b j : Nat) (v : Value) (hb : F b \/ w.heap.size <= b) : Chg F w (w1.setCell ⟨b,j,none⟩ v) :=
 h.grown (grown_setB w1 b j v) (fun k e => by cases e; exact hb)
theorem Chg.trans {F : Nat -> Prop} {w w1 w2 : World} (h : Chg F w w1) (k : Chg (Fx F w w1) w1 w2) : Chg F w w2 :=
 ⟨k.os.trans h.os,k.tape.trans h.tape,k.output.trans h.output,Nat.le_trans h.size k.size,fun i hi hf => (k.keep i (Nat.lt_of_lt_of_le hi h.size) (fun hx => by rcases hx with h1 | h1; exact hf h1; omega)).trans (h.keep i hi hf)⟩
theorem Chg.trans0 {F : Nat -> Prop} {w w1 w2 : World} (h : Chg F w w1) (k : Below w1.heap.size w1 w2) : Chg F w w2 := h.trans (Chg.of_below k)
theorem Chg.mono {F F' : Nat -> Prop} {w w1 : World} (h : Chg F w w1) (hF : ∀ k,k < w.heap.size -> F k -> F' k) : Chg F' w w1 := ⟨h.os,h.tape,h.output,h.size,fun k hk hf => h.keep k hk (fun hx => hf (hF k hk hx))⟩
theorem Chg.below {F : Nat -> Prop} {w w1 : World} {n : Nat} (h : Chg F w w1) (hn : n <= w.heap.size) (hF : ∀ k,F k -> n <= k) : Below n w w1 :=
 ⟨h.os,h.tape,h.output,h.size,fun k hk => h.keep k (by omega) (fun hx => by have := hF k hx; omega)⟩
theorem fx_trans {F : Nat -> Prop} {w w1 w2 : World} (h1 : w.heap.size <= w1.heap.size) (h2 : w1.heap.size <= w2.heap.size) : ∀ k,Fx (Fx F w w1) w1 w2 k -> Fx F w w2 k := by
 rintro k ((h | h) | h)
 ·exact .inl h
 ·exact .inr (by omega)
 ·exact .inr (by omega)
theorem Bx.chg {W W' : World} {F : Nat -> Prop} {b : Nat} {cs : Array Value} {t : TypeId} (h : Bx W b cs t) (hc : Chg F W W') (hb : ¬ F b) : Bx W' b cs t := (hc.keep b h.lt hb).trans h
theorem own_chg {W W' : World} {F : Nat -> Prop} {base e size n : Nat} {v : Value} {xs : List Value} (h : W.ownsRow base e size v n xs) (hc : Chg F W W') (hb : ∀ g,v.ownBlock = some g -> ¬ F g) : W'.ownsRow base e size v n xs := by
 refine ⟨h.1,?_⟩
 rcases h.2 with h0 | ⟨g,cap,cur,e1,h1,h2,r⟩
 ·exact .inl h0
 ·exact .inr ⟨g,cap,cur,e1,h1,(hc.keep g (Array.getElem?_eq_some_iff.1 h2).1 (hb g (by rw [e1]; rfl))).trans h2,r⟩
theorem ownMap_chg {W W' : World} {F : Nat -> Prop} {k : TypeId} {R : Value -> Option (DataW Unit × List MemPlace)} {b n : Nat} {D : DataW Unit} (h : W.ownsMap Tryz.prog k R b n D) (hc : Chg F W W') (hb : ¬ F b) : W'.ownsMap Tryz.prog k R b n D := by
 have hl := h.lt
 obtain ⟨es,ck,h1,r⟩ := h
 exact ⟨es,ck,(hc.keep b hl hb).trans h1,r⟩
def Env0 (n : Nat) (w : World) (E : Sent) : Prop := ∃ W0 : World,n = W0.heap.size /\ Env W0 E /\ Below n W0 w
theorem Env0.env {n : Nat} {w : World} {E : Sent} (h : Env0 n w E) : Env w E := by
 obtain ⟨W0,rfl,h1,h2⟩ := h
 exact h1.below h2
theorem Env0.below {n : Nat} {w w' : World} {E : Sent} (h : Env0 n w E) (hb : Below n w w') : Env0 n w' E := by
 obtain ⟨W0,rfl,h1,h2⟩ := h
 exact ⟨W0,rfl,h1,h2.trans hb⟩
theorem Env0.le {n : Nat} {w : World} {E : Sent} (h : Env0 n w E) : n <= w.heap.size := by
 obtain ⟨W0,rfl,h1,h2⟩ := h
 exact h2.size
theorem Env0.chg {n : Nat} {w w' : World} {E : Sent} {F : Nat -> Prop} (h : Env0 n w E) (hc : Chg F w w') (hF : ∀ k,F k -> n <= k) : Env0 n w' E := h.below (hc.below h.le hF)
theorem Env0.alloc {n : Nat} {w : World} {E : Sent} (h : Env0 n w E) (o : Obj) : Env0 n (w.alloc o) E := h.below ((Below.refl _ _).alloc h.le _)
def optP (o : Option Nat) : Value := match o with
 | none => .pointer none
 | some b => .pointer (some ⟨b,0,none⟩)
def rFp : Value -> Option (DataW Unit × List MemPlace)
 | .pointer (some ⟨b,0,none⟩) => some (.lit (.int .i64 (b : Int)),[])
 | .pointer none => some (.lit (.int .i64 (-1)),[])
 | _ => none
theorem rFp_mk (b : Nat) : rFp (.pointer (some ⟨b,0,none⟩)) = some (.lit (.int .i64 (b : Int)),[]) := rfl
theorem rFp_nil : rFp (.pointer none) = some (.lit (.int .i64 (-1)),[]) := rfl
theorem rFp_inv {v : Value} {b : Nat} {ps : List MemPlace} (h : rFp v = some (.lit (.int .i64 (b : Int)),ps)) : v = .pointer (some ⟨b,0,none⟩) := by
 unfold rFp at h
 split at h
 ·simp at h; obtain ⟨h,_⟩ := h; congr 3; omega
 ·simp at h
 ·cases h
theorem rFp_inv_nil {v : Value} {ps : List MemPlace} (h : rFp v = some (.lit (.int .i64 (-1)),ps)) : v = .pointer none := by
 unfold rFp at h
 split at h
 ·simp at h
 ·rfl
 ·cases h
def nm (i : Nat) : List UInt8 := if i = 0 then [108,111,103] else if i = 1 then [110,101,119] else [105,110,100,101,120]
def fM (B : Nat -> Nat) (d : Dk) (k : Lit) : Option (DataW Unit) := match k with
 | .string s => (d.file (nameN s)).map fun _ => .lit (.int .i64 (B (nameN s) : Int))
 | _ => none
theorem nameN_nm {i : Nat} (h : i <= 2) : nameN (nm i) = i := by
 match i,h with
 | 0,_ => rfl
 | 1,_ => rfl
 | 2,_ => rfl
theorem nm_nameN {s : List UInt8} (h : nameN s <= 2) : nm (nameN s) = s := by
 unfold nameN at h ⊢
 split at h
 ·rename_i e; rw [if_pos e,e]; rfl
 ·rename_i e
  rw [if_neg e]
  split at h
  ·rename_i e2; rw [if_pos e2,e2]; rfl
  ·rename_i e2
   rw [if_neg e2]
   split at h
   ·rename_i e3; rw [if_pos e3,e3]; rfl
   ·omega
def Dk.cnt (d : Dk) : Nat := d.f0.toList.length + d.f1.toList.length + d.f2.toList.length
structure Pr where
 bm : Nat
 bc : Option Nat
 B : Nat -> Nat
 V : Nat -> Value
def FileAt (W : World) (b : Nat) (v : Value) (f : Fl) : Prop := Bx W b #[v,.int .i64 (f.sync : Int)] 154 /\ W.ownsRow 0 5 1 v f.text.length (cellsB f.text)
def ComingAt (W : World) (l : Option (Nat × Nat)) (c : Option Nat) : Prop := match l,c with
 | none,none => True
 | some (s,k),some b => Bx W b #[.int .i64 (s : Int),.int .i64 (k : Int)] 185
 | _,_ => False
structure DiskAt (W : World) (F : Nat -> Prop) (bd : Nat) (d : Dk) (p : Pr) : Prop where
 dk : Bx W bd #[.int .i64 (d.room : Int),.map (some p.bm),.bool d.down,optP p.bc] 183
 map : ∃ D,W.ownsMap Tryz.prog 9 rFp p.bm 3 D /\ View D (fM p.B d) /\ Maps.size D = d.cnt
 coming : ComingAt W d.left p.bc
 files : ∀ i f,d.file i = some f -> FileAt W (p.B i) (p.V i) f
 dB : ∀ i j,i ≠ j -> (d.file i).isSome = true -> (d.file j).isSome = true -> p.B i ≠ p.B j
 dV : ∀ i j,i ≠ j -> (d.file i).isSome = true -> (d.file j).isSome = true -> ∀ k,(p.V i).ownBlock = some k -> (p.V j).ownBlock ≠ some k
 fd : F bd
 fm : F p.bm
 fc : ∀ c,p.bc = some c -> F c
 fB : ∀ i,(d.file i).isSome = true -> F (p.B i)
 fV : ∀ i,(d.file i).isSome = true -> ∀ k,(p.V i).ownBlock = some k -> F k
 /-- The stop of the failure is bounded by what an int holds. -/
 small : ∀ s k,d.left = some (s,k) -> s <= 9223372036854775807 /\ k <= 9223372036854775807
theorem ComingAt.chg {W W' : World} {F : Nat -> Prop} {l : Option (Nat × Nat)} {c : Option Nat} (h : ComingAt W l c) (hc : Chg F W W') (hf : ∀ b,c = some b -> ¬ F b) : ComingAt W' l c := by
 unfold ComingAt at h ⊢
 split
 ·trivial
 ·exact Bx.chg h hc (hf _ rfl)
 ·rename_i h1 h2
  split at h
  ·exact h1 rfl rfl
  ·exact h2 _ _ _ rfl rfl
  ·exact h
theorem DiskAt.keep {W W' : World} {F G : Nat -> Prop} {bd : Nat} {d : Dk} {p : Pr} (h : DiskAt W F bd d p) (hc : Chg G W W') (hG : ∀ k,F k -> ¬ G k) : DiskAt W' F bd d p := by
 obtain ⟨D,h1,h2,h3⟩ := h.map
 exact ⟨h.dk.chg hc (hG _ h.fd),⟨D,ownMap_chg h1 hc (hG _ h.fm),h2,h3⟩,h.coming.chg hc (fun b e => hG _ (h.fc b e)),fun i f hf => ⟨(h.files i f hf).1.chg hc (hG _ (h.fB i (by rw [hf]; rfl))),own_chg (h.files i f hf).2 hc (fun g hg => hG _ (h.fV i (by rw [hf]; rfl) g hg))⟩,h.dB,h.dV,h.fd,h.fm,h.fc,h.fB,h.fV,h.small⟩
theorem DiskAt.below {W W' : World} {F : Nat -> Prop} {bd : Nat} {d : Dk} {p : Pr} (h : DiskAt W F bd d p) (hb : Below W.heap.size W W') : DiskAt W' F bd d p := h.keep (G := fun _ => False) (Chg.of_below hb) (fun _ _ h => h)
theorem DiskAt.alloc {W : World} {F : Nat -> Prop} {bd : Nat} {d : Dk} {p : Pr} (h : DiskAt W F bd d p) (o : Obj) : DiskAt (W.alloc o) F bd d p := h.below ((Below.refl _ _).alloc (Nat.le_refl _) _)
theorem DiskAt.mono {W : World} {F F' : Nat -> Prop} {bd : Nat} {d : Dk} {p : Pr} (h : DiskAt W F bd d p) (hF : ∀ k,F k -> F' k) : DiskAt W F' bd d p :=
 ⟨h.dk,h.map,h.coming,h.files,h.dB,h.dV,hF _ h.fd,hF _ h.fm,fun c e => hF _ (h.fc c e),fun i hi => hF _ (h.fB i hi),fun i hi k hk => hF _ (h.fV i hi k hk),h.small⟩
def errAd (E : Sent) (e : Int) : Addr := if e = 6 then E.room else if e = 7 then E.down else if e = 8 then E.power else if e = 1 then E.up else E.gone
theorem errAd_mem (E : Sent) (e : Int) : errAd E e ∈ E.all := by
 unfold errAd Sent.all
 split
 ·simp
 ·split
  ·simp
  ·split
   ·simp
   ·split <;> simp
theorem errNo_ad {E : Sent} (h : E.all.Nodup) {e : Int} (he : e = 6 \/ e = 7 \/ e = 8 \/ e = 1 \/ e = 2) : errNo E (errAd E e) = e := by
 unfold Sent.all at h
 simp only [List.nodup_cons,List.mem_cons,List.not_mem_nil,or_false,not_or,List.nodup_nil,and_true,not_false_eq_true] at h
 obtain ⟨⟨a1,a2,a3,a4⟩,⟨b1,b2,b3⟩,⟨c1,c2⟩,d1⟩ := h
 unfold errNo errAd
 rcases he with rfl | rfl | rfl | rfl | rfl
 ·simp
 ·simp [Ne.symm a2]
 ·simp [Ne.symm a4,Ne.symm c2]
 ·simp [Ne.symm a3,Ne.symm c1,d1]
 ·simp [Ne.symm a1,b1,b3,b2]
def errVal (E : Sent) (e : Int) : Value := if e = 0 then .nilIface else .iface 352 (.pointer (some (errAd E e)))
theorem errVal_pos {E : Sent} {e : Int} (h : e ≠ 0) : errVal E e = .iface 352 (.pointer (some (errAd E e))) := by rw [errVal,if_neg h]
def FaultIs (w : World) (E : Sent) (e : Int) (v : Value) : Prop := (e = 0 /\ v = .nilIface) \/ (e ≠ 0 /\ ∃ b,v = .iface 128 (.pointer (some ⟨b,0,none⟩)) /\ w.cell? ⟨b,2,none⟩ = some (errVal E e))
def findV (E : Sent) (p : Pr) (d : Dk) (s : List UInt8) : Value :=
 if d.down = true then .tuple #[.pointer none,errVal E 7]
 else match d.file (nameN s) with
 | none => .tuple #[.pointer none,errVal E 2]
 | some _ => .tuple #[.pointer (some ⟨p.B (nameN s),0,none⟩),.nilIface]
theorem zeroFp (w : World) : (zeroValue 134).run Tryz.prog w = .ok (.pointer none) w := by first | exact Tryz.zeroValue134 w | kernel_rfl
theorem keyStr (s : ByteArray) (h : s.size <= 140737488351232) : keyOf Tryz.prog 9 (.string s) = some (.string s.data.toList) := WideMaps.keyOf_string_mk Tryz.underlying9 (by unfold maxLen; omega)
theorem find_any (E : Sent) (n : Nat) (F : Nat -> Prop) (bd : Nat) (d : Dk) (p : Pr) (s : ByteArray) (w : World) (hE : Env0 n w E) (hD : DiskAt w F bd d p) (hs : s.size <= 140737488351232) :
  Calls Tryz.prog 86 #[.pointer (some ⟨bd,0,none⟩),.string s] w fun e w' => e = .returned (findV E p d s.data.toList) /\ Below w.heap.size w w' := by
 have c1 := hD.dk.cell (j := 1) rfl
 have c2 := hD.dk.cell (j := 2) rfl
 have gd := hE.env.down
 have gg := hE.env.gone
 have e7 : errVal E 7 = .iface 352 (.pointer (some E.down)) := by simp [errVal,errAd]
 have e2 : errVal E 2 = .iface 352 (.pointer (some E.gone)) := by simp [errVal,errAd]
 obtain ⟨D,h1,h2,h3⟩ := hD.map
 have hk := keyStr s hs
 have hat := (h2.2 (.string s.data.toList)).1 (.lit (.int .i64 (-1)))
 have hhas := (h2.2 (.string s.data.toList)).2
 have HF : Hid (findV E p d s.data.toList = if d.down = true then .tuple #[.pointer none,errVal E 7] else match d.file (nameN s.data.toList) with | none => .tuple #[.pointer none,errVal E 2] | some _ => .tuple #[.pointer (some ⟨p.B (nameN s.data.toList),0,none⟩),.nilIface]) := rfl
 rw [e7,e2] at HF
 have HO : Hid (w.ownsMap Tryz.prog 9 rFp p.bm 3 D) := h1
 unfold fM at hat hhas
 simp only at hat hhas
 clear h1 h2 h3 hD hE e7 e2
 cases hd : d.down with
 | true =>
  rw [hd] at c2 HF
  rw [if_pos rfl] at HF
  clear hat hhas HO hk hd gg c1
  go_enter Tryz.func86,Tryz.ntmps86
  go_wp2
  go_region
  all_goals
   go_wp2
   go_ret2
   exact ⟨by rw [HF.out]; rfl,by first | exact (Below.refl _ _).drew | exact Below.refl _ _⟩
 | false =>
  rw [hd] at c2 HF
  rw [if_neg (by simp)] at HF
  cases hf : d.file (nameN s.data.toList) with
  | none =>
   rw [hf] at hat hhas HF
   simp only [Option.map_none,Option.getD_none,Option.isSome_none] at hat hhas
   clear hf hd gd
   go_enter Tryz.func86,Tryz.ntmps86
   go_wp2_with (first | (at_lookup; refine wpList_lookup_own_ok _ rfl _ _ 180 rfl 9 134 keyedStr Tryz.underlying180 rFp (zeroFp _) _ [] rFp_nil p.bm 3 D rfl HO.out _ _ rfl hk ?_; intro v ps hv; rw [hat] at hv; obtain rfl := rFp_inv_nil hv; rw [hhas]))
   go_region
   all_goals
    go_wp2
    go_ret2
    exact ⟨by rw [HF.out]; rfl,by first | exact (Below.refl _ _).drew | exact Below.refl _ _⟩
  | some f =>
   rw [hf] at hat hhas HF
   simp only [Option.map_some,Option.getD_some,Option.isSome_some] at hat hhas
   clear hf hd gd gg
   go_enter Tryz.func86,Tryz.ntmps86
   go_wp2_with (first | (at_lookup; refine wpList_lookup_own_ok _ rfl _ _ 180 rfl 9 134 keyedStr Tryz.underlying180 rFp (zeroFp _) _ [] rFp_nil p.bm 3 D rfl HO.out _ _ rfl hk ?_; intro v ps hv; rw [hat] at hv; obtain rfl := rFp_inv hv; rw [hhas]))
   go_ret2
   exact ⟨by rw [HF.out]; rfl,Below.refl _ _⟩
end Go.Proofs.YtdhgebdbiehchaaGreatDoor
