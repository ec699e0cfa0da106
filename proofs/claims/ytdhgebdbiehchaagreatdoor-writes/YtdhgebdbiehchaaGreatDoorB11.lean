/- The program's disk in memory: which blocks it has, what they hold; what a call leaves alone. The contracts of disk.Disk's find, Has and Read. The contracts of maps.Keys over the items' map and of the iterator that it tells; of slices.AppendSeq and slices.Collect over it. The contracts of cmp.Compare and cmp.Or at int, and of record.Place.Compare. The contracts of table.sumOf, table.front.isOf and table.readFront. The contracts of table.sizeFor, table.slots.away, sums.Check over bytes, sums.Seal and table.front.bytes. -/
import Derived.Test.YtdhgebdbiehchaaGreatDoorB04
import Derived.Test.YtdhgebdbiehchaaGreatDoorB05
import Derived.Test.YtdhgebdbiehchaaGreatDoorB10
import Derived.Test.YtdhgebdbiehchaaGreatDoorB06
import Derived.Sort.MapsRangeIn
import Derived.Shelf.Abstract
import Derived.WalkKit
import Derived.OwnWalkIn
import Derived.TacticsInMore
import Derived.RegionIn
import Derived.LoopNIn
import Derived.LoopIn
import Derived.Maps.AppendAt
import Derived.RangeFuncBox
import Derived.Test.YtdhgebdbiehchaaGreatDoorB01
import Derived.Deep.RegionWith
import Derived.Deep.RegionHeld3
import Derived.Sort.Grow
import Derived.Test.YtdhgebdbiehchaaGreatDoorB09
import Derived.Deep.DeepCutAuto
import Derived.BigQuiet
namespace Go.Proofs.YtdhgebdbiehchaaGreatDoor
open Go.RowKit Go.Maps
set_option linter.unusedSimpArgs false
set_option linter.unusedVariables false

/-! What a call leaves alone: all that was there but the blocks of a set. -/
structure Chg (F : Nat → Prop) (w w' : World) : Prop where
  os : w'.os = w.os
  tape : w'.tape = w.tape
  output : w'.output = w.output
  size : w.heap.size ≤ w'.heap.size
  keep : ∀ k, k < w.heap.size → ¬ F k → w'.heap[k]? = w.heap[k]?
/-- The set, and what is new. -/
def Fx (F : Nat → Prop) (w w' : World) (k : Nat) : Prop := F k ∨ (w.heap.size ≤ k ∧ k < w'.heap.size)
theorem Chg.refl (F : Nat → Prop) (w : World) : Chg F w w := ⟨rfl, rfl, rfl, Nat.le_refl _, fun _ _ _ => rfl⟩
theorem Chg.of_below {F : Nat → Prop} {w w' : World} (h : Below w.heap.size w w') : Chg F w w' := ⟨h.os, h.tape, h.output, h.size, fun k hk _ => h.block k hk⟩
theorem Chg.alloc {F : Nat → Prop} {w w' : World} (h : Chg F w w') (o : Obj) : Chg F w (w'.alloc o) :=
  ⟨h.os, h.tape, h.output, Nat.le_trans h.size (by simp), fun k hk hf => (Below.heap_alloc w' o k (Nat.lt_of_lt_of_le hk h.size)).trans (h.keep k hk hf)⟩
theorem Chg.drew {F : Nat → Prop} {w w' : World} (h : Chg F w w') : Chg F w w'.drew := ⟨h.os, h.tape, h.output, h.size, h.keep⟩
theorem Chg.grown {F : Nat → Prop} {w w1 w2 : World} {row : Option Nat} (h : Chg F w w1) (hg : w1.grownBy w2 row) (hr : ∀ k, row = some k → F k ∨ w.heap.size ≤ k) : Chg F w w2 :=
  ⟨hg.os.trans h.os, hg.tape.trans h.tape, hg.output.trans h.output, Nat.le_trans h.size hg.size, fun k hk hf => (hg.block k (Nat.lt_of_lt_of_le hk h.size) (fun e => by rcases hr k e.symm with h1 | h1; exact hf h1; omega)).trans (h.keep k hk hf)⟩
theorem Chg.set {F : Nat → Prop} {w w1 : World} (h : Chg F w w1) (b j : Nat) (v : Value) (hb : F b ∨ w.heap.size ≤ b) : Chg F w (w1.setCell ⟨b, j, none⟩ v) :=
  h.grown (grown_setB w1 b j v) (fun k e => by cases e; exact hb)
theorem Chg.trans {F : Nat → Prop} {w w1 w2 : World} (h : Chg F w w1) (k : Chg (Fx F w w1) w1 w2) : Chg F w w2 :=
  ⟨k.os.trans h.os, k.tape.trans h.tape, k.output.trans h.output, Nat.le_trans h.size k.size, fun i hi hf => (k.keep i (Nat.lt_of_lt_of_le hi h.size) (fun hx => by rcases hx with h1 | h1; exact hf h1; omega)).trans (h.keep i hi hf)⟩
theorem Chg.trans0 {F : Nat → Prop} {w w1 w2 : World} (h : Chg F w w1) (k : Below w1.heap.size w1 w2) : Chg F w w2 := h.trans (Chg.of_below k)
theorem Chg.mono {F F' : Nat → Prop} {w w1 : World} (h : Chg F w w1) (hF : ∀ k, k < w.heap.size → F k → F' k) : Chg F' w w1 := ⟨h.os, h.tape, h.output, h.size, fun k hk hf => h.keep k hk (fun hx => hf (hF k hk hx))⟩
theorem Chg.below {F : Nat → Prop} {w w1 : World} {n : Nat} (h : Chg F w w1) (hn : n ≤ w.heap.size) (hF : ∀ k, F k → n ≤ k) : Below n w w1 :=
  ⟨h.os, h.tape, h.output, h.size, fun k hk => h.keep k (by omega) (fun hx => by have := hF k hx; omega)⟩
theorem fx_trans {F : Nat → Prop} {w w1 w2 : World} (h1 : w.heap.size ≤ w1.heap.size) (h2 : w1.heap.size ≤ w2.heap.size) : ∀ k, Fx (Fx F w w1) w1 w2 k → Fx F w w2 k := by
  rintro k ((h | h) | h)
  · exact .inl h
  · exact .inr (by omega)
  · exact .inr (by omega)
theorem Bx.chg {W W' : World} {F : Nat → Prop} {b : Nat} {cs : Array Value} {t : TypeId} (h : Bx W b cs t) (hc : Chg F W W') (hb : ¬ F b) : Bx W' b cs t := (hc.keep b h.lt hb).trans h
theorem own_chg {W W' : World} {F : Nat → Prop} {base e size n : Nat} {v : Value} {xs : List Value} (h : W.ownsRow base e size v n xs) (hc : Chg F W W') (hb : ∀ g, v.ownBlock = some g → ¬ F g) : W'.ownsRow base e size v n xs := by
  refine ⟨h.1, ?_⟩
  rcases h.2 with h0 | ⟨g, cap, cur, e1, h1, h2, r⟩
  · exact .inl h0
  · exact .inr ⟨g, cap, cur, e1, h1, (hc.keep g (Array.getElem?_eq_some_iff.1 h2).1 (hb g (by rw [e1]; rfl))).trans h2, r⟩
theorem ownMap_chg {W W' : World} {F : Nat → Prop} {k : TypeId} {R : Value → Option (DataW Unit × List MemPlace)} {b n : Nat} {D : DataW Unit} (h : W.ownsMap Tryz.prog k R b n D) (hc : Chg F W W') (hb : ¬ F b) : W'.ownsMap Tryz.prog k R b n D := by
  have hl := h.lt
  obtain ⟨es, ck, h1, r⟩ := h
  exact ⟨es, ck, (hc.keep b hl hb).trans h1, r⟩

/-! What lies below all that is ours. -/
def Env0 (n : Nat) (w : World) (E : Sent) : Prop := ∃ W0 : World, n = W0.heap.size ∧ Env W0 E ∧ Below n W0 w
theorem Env0.env {n : Nat} {w : World} {E : Sent} (h : Env0 n w E) : Env w E := by
  obtain ⟨W0, rfl, h1, h2⟩ := h
  exact h1.below h2
theorem Env0.below {n : Nat} {w w' : World} {E : Sent} (h : Env0 n w E) (hb : Below n w w') : Env0 n w' E := by
  obtain ⟨W0, rfl, h1, h2⟩ := h
  exact ⟨W0, rfl, h1, h2.trans hb⟩
theorem Env0.le {n : Nat} {w : World} {E : Sent} (h : Env0 n w E) : n ≤ w.heap.size := by
  obtain ⟨W0, rfl, h1, h2⟩ := h
  exact h2.size
theorem Env0.chg {n : Nat} {w w' : World} {E : Sent} {F : Nat → Prop} (h : Env0 n w E) (hc : Chg F w w') (hF : ∀ k, F k → n ≤ k) : Env0 n w' E := h.below (hc.below h.le hF)
theorem Env0.alloc {n : Nat} {w : World} {E : Sent} (h : Env0 n w E) (o : Obj) : Env0 n (w.alloc o) E := h.below ((Below.refl _ _).alloc h.le _)
theorem fx_lo {F : Nat → Prop} {w w' : World} {n : Nat} (hF : ∀ k, F k → n ≤ k) (hn : n ≤ w.heap.size) : ∀ k, Fx F w w' k → n ≤ k := by
  rintro k (h | h)
  · exact hF k h
  · omega

/-! The disk. -/
def optP (o : Option Nat) : Value := match o with
  | none => .pointer none
  | some b => .pointer (some ⟨b, 0, none⟩)
/-- How a pointer to a file is read. -/
def rFp : Value → Option (DataW Unit × List MemPlace)
  | .pointer (some ⟨b, 0, none⟩) => some (.lit (.int .i64 (b : Int)), [])
  | .pointer none => some (.lit (.int .i64 (-1)), [])
  | _ => none
theorem rFp_mk (b : Nat) : rFp (.pointer (some ⟨b, 0, none⟩)) = some (.lit (.int .i64 (b : Int)), []) := rfl
theorem rFp_nil : rFp (.pointer none) = some (.lit (.int .i64 (-1)), []) := rfl
theorem rFp_inv {v : Value} {b : Nat} {ps : List MemPlace} (h : rFp v = some (.lit (.int .i64 (b : Int)), ps)) : v = .pointer (some ⟨b, 0, none⟩) := by
  unfold rFp at h
  split at h
  · simp at h; obtain ⟨h, _⟩ := h; congr 3; omega
  · simp at h
  · cases h
theorem rFp_inv_nil {v : Value} {ps : List MemPlace} (h : rFp v = some (.lit (.int .i64 (-1)), ps)) : v = .pointer none := by
  unfold rFp at h
  split at h
  · simp at h
  · rfl
  · cases h
def nm (i : Nat) : List UInt8 := if i = 0 then [108, 111, 103] else if i = 1 then [110, 101, 119] else [105, 110, 100, 101, 120]
def fM (B : Nat → Nat) (d : Dk) (k : Lit) : Option (DataW Unit) := match k with
  | .string s => (d.file (nameN s)).map fun _ => .lit (.int .i64 (B (nameN s) : Int))
  | _ => none
theorem nameN_nm {i : Nat} (h : i ≤ 2) : nameN (nm i) = i := by
  match i, h with
  | 0, _ => rfl
  | 1, _ => rfl
  | 2, _ => rfl
theorem nm_nameN {s : List UInt8} (h : nameN s ≤ 2) : nm (nameN s) = s := by
  unfold nameN at h ⊢
  split at h
  · rename_i e; rw [if_pos e, e]; rfl
  · rename_i e
    rw [if_neg e]
    split at h
    · rename_i e2; rw [if_pos e2, e2]; rfl
    · rename_i e2
      rw [if_neg e2]
      split at h
      · rename_i e3; rw [if_pos e3, e3]; rfl
      · omega
def Dk.cnt (d : Dk) : Nat := d.f0.toList.length + d.f1.toList.length + d.f2.toList.length
/-- The blocks of a disk: the map's, the failure's, the files' and the slices of their bytes. -/
structure Pr where
  bm : Nat
  bc : Option Nat
  B : Nat → Nat
  V : Nat → Value
def FileAt (W : World) (b : Nat) (v : Value) (f : Fl) : Prop := Bx W b #[v, .int .i64 (f.sync : Int)] 154 ∧ W.ownsRow 0 5 1 v f.text.length (cellsB f.text)
def ComingAt (W : World) (l : Option (Nat × Nat)) (c : Option Nat) : Prop := match l, c with
  | none, none => True
  | some (s, k), some b => Bx W b #[.int .i64 (s : Int), .int .i64 (k : Int)] 185
  | _, _ => False
structure DiskAt (W : World) (F : Nat → Prop) (bd : Nat) (d : Dk) (p : Pr) : Prop where
  dk : Bx W bd #[.int .i64 (d.room : Int), .map (some p.bm), .bool d.down, optP p.bc] 183
  map : ∃ D, W.ownsMap Tryz.prog 9 rFp p.bm 3 D ∧ View D (fM p.B d) ∧ Maps.size D = d.cnt
  coming : ComingAt W d.left p.bc
  files : ∀ i f, d.file i = some f → FileAt W (p.B i) (p.V i) f
  dB : ∀ i j, i ≠ j → (d.file i).isSome = true → (d.file j).isSome = true → p.B i ≠ p.B j
  dV : ∀ i j, i ≠ j → (d.file i).isSome = true → (d.file j).isSome = true → ∀ k, (p.V i).ownBlock = some k → (p.V j).ownBlock ≠ some k
  fd : F bd
  fm : F p.bm
  fc : ∀ c, p.bc = some c → F c
  fB : ∀ i, (d.file i).isSome = true → F (p.B i)
  fV : ∀ i, (d.file i).isSome = true → ∀ k, (p.V i).ownBlock = some k → F k
  /-- The stop of the failure is bounded by what an int holds. -/
  small : ∀ s k, d.left = some (s, k) → s ≤ 9223372036854775807 ∧ k ≤ 9223372036854775807
theorem ComingAt.chg {W W' : World} {F : Nat → Prop} {l : Option (Nat × Nat)} {c : Option Nat} (h : ComingAt W l c) (hc : Chg F W W') (hf : ∀ b, c = some b → ¬ F b) : ComingAt W' l c := by
  unfold ComingAt at h ⊢
  split
  · trivial
  · exact Bx.chg h hc (hf _ rfl)
  · rename_i h1 h2
    split at h
    · exact h1 rfl rfl
    · exact h2 _ _ _ rfl rfl
    · exact h
/-- Where nothing of the disk's has turned. -/
theorem DiskAt.keep {W W' : World} {F G : Nat → Prop} {bd : Nat} {d : Dk} {p : Pr} (h : DiskAt W F bd d p) (hc : Chg G W W') (hG : ∀ k, F k → ¬ G k) : DiskAt W' F bd d p := by
  obtain ⟨D, h1, h2, h3⟩ := h.map
  exact ⟨h.dk.chg hc (hG _ h.fd), ⟨D, ownMap_chg h1 hc (hG _ h.fm), h2, h3⟩, h.coming.chg hc (fun b e => hG _ (h.fc b e)), fun i f hf => ⟨(h.files i f hf).1.chg hc (hG _ (h.fB i (by rw [hf]; rfl))), own_chg (h.files i f hf).2 hc (fun g hg => hG _ (h.fV i (by rw [hf]; rfl) g hg))⟩, h.dB, h.dV, h.fd, h.fm, h.fc, h.fB, h.fV, h.small⟩
theorem DiskAt.below {W W' : World} {F : Nat → Prop} {bd : Nat} {d : Dk} {p : Pr} (h : DiskAt W F bd d p) (hb : Below W.heap.size W W') : DiskAt W' F bd d p := h.keep (G := fun _ => False) (Chg.of_below hb) (fun _ _ h => h)
theorem DiskAt.alloc {W : World} {F : Nat → Prop} {bd : Nat} {d : Dk} {p : Pr} (h : DiskAt W F bd d p) (o : Obj) : DiskAt (W.alloc o) F bd d p := h.below ((Below.refl _ _).alloc (Nat.le_refl _) _)
theorem DiskAt.mono {W : World} {F F' : Nat → Prop} {bd : Nat} {d : Dk} {p : Pr} (h : DiskAt W F bd d p) (hF : ∀ k, F k → F' k) : DiskAt W F' bd d p :=
  ⟨h.dk, h.map, h.coming, h.files, h.dB, h.dV, hF _ h.fd, hF _ h.fm, fun c e => hF _ (h.fc c e), fun i hi => hF _ (h.fB i hi), fun i hi k hk => hF _ (h.fV i hi k hk), h.small⟩
end Go.Proofs.YtdhgebdbiehchaaGreatDoor
namespace Go.Proofs.YtdhgebdbiehchaaGreatDoor
open Go.RowKit Go.Maps
set_option linter.unusedSimpArgs false
set_option linter.unusedVariables false

def errAd (E : Sent) (e : Int) : Addr := if e = 6 then E.room else if e = 7 then E.down else if e = 8 then E.power else if e = 1 then E.up else E.gone
theorem errAd_mem (E : Sent) (e : Int) : errAd E e ∈ E.all := by
  unfold errAd Sent.all
  split
  · simp
  · split
    · simp
    · split
      · simp
      · split <;> simp
theorem errNo_ad {E : Sent} (h : E.all.Nodup) {e : Int} (he : e = 6 ∨ e = 7 ∨ e = 8 ∨ e = 1 ∨ e = 2) : errNo E (errAd E e) = e := by
  unfold Sent.all at h
  simp only [List.nodup_cons, List.mem_cons, List.not_mem_nil, or_false, not_or, List.nodup_nil, and_true, not_false_eq_true] at h
  obtain ⟨⟨a1, a2, a3, a4⟩, ⟨b1, b2, b3⟩, ⟨c1, c2⟩, d1⟩ := h
  unfold errNo errAd
  rcases he with rfl | rfl | rfl | rfl | rfl
  · simp
  · simp [Ne.symm a2]
  · simp [Ne.symm a4, Ne.symm c2]
  · simp [Ne.symm a3, Ne.symm c1, d1]
  · simp [Ne.symm a1, b1, b3, b2]
/-- An error as the disk's inner functions hand it on. -/
def errVal (E : Sent) (e : Int) : Value := if e = 0 then .nilIface else .iface 352 (.pointer (some (errAd E e)))
theorem errVal_pos {E : Sent} {e : Int} (h : e ≠ 0) : errVal E e = .iface 352 (.pointer (some (errAd E e))) := by rw [errVal, if_neg h]
/-- An error as it comes up from the disk: none, or a Fault that wraps it. -/
def FaultIs (w : World) (E : Sent) (e : Int) (v : Value) : Prop := (e = 0 ∧ v = .nilIface) ∨ (e ≠ 0 ∧ ∃ b, v = .iface 128 (.pointer (some ⟨b, 0, none⟩)) ∧ w.cell? ⟨b, 2, none⟩ = some (errVal E e))

def findV (E : Sent) (p : Pr) (d : Dk) (s : List UInt8) : Value :=
  if d.down = true then .tuple #[.pointer none, errVal E 7]
  else match d.file (nameN s) with
  | none => .tuple #[.pointer none, errVal E 2]
  | some _ => .tuple #[.pointer (some ⟨p.B (nameN s), 0, none⟩), .nilIface]
theorem zeroFp (w : World) : (zeroValue 134).run Tryz.prog w = .ok (.pointer none) w := by first | exact Tryz.zeroValue134 w | kernel_rfl
theorem keyStr (s : ByteArray) (h : s.size ≤ 140737488351232) : keyOf Tryz.prog 9 (.string s) = some (.string s.data.toList) := WideMaps.keyOf_string_mk Tryz.underlying9 (by unfold maxLen; omega)

set_option maxRecDepth 100000 in
set_option maxHeartbeats 1600000 in
theorem find_any (E : Sent) (n : Nat) (F : Nat → Prop) (bd : Nat) (d : Dk) (p : Pr) (s : ByteArray) (w : World) (hE : Env0 n w E) (hD : DiskAt w F bd d p) (hs : s.size ≤ 140737488351232) :
    Calls Tryz.prog 86 #[.pointer (some ⟨bd, 0, none⟩), .string s] w fun e w' => e = .returned (findV E p d s.data.toList) ∧ Below w.heap.size w w' := by
  have c1 := hD.dk.cell (j := 1) rfl
  have c2 := hD.dk.cell (j := 2) rfl
  have gd := hE.env.down
  have gg := hE.env.gone
  have e7 : errVal E 7 = .iface 352 (.pointer (some E.down)) := by simp [errVal, errAd]
  have e2 : errVal E 2 = .iface 352 (.pointer (some E.gone)) := by simp [errVal, errAd]
  obtain ⟨D, h1, h2, h3⟩ := hD.map
  have hk := keyStr s hs
  have hat := (h2.2 (.string s.data.toList)).1 (.lit (.int .i64 (-1)))
  have hhas := (h2.2 (.string s.data.toList)).2
  have HF : Hid (findV E p d s.data.toList = if d.down = true then .tuple #[.pointer none, errVal E 7] else match d.file (nameN s.data.toList) with | none => .tuple #[.pointer none, errVal E 2] | some _ => .tuple #[.pointer (some ⟨p.B (nameN s.data.toList), 0, none⟩), .nilIface]) := rfl
  rw [e7, e2] at HF
  have HO : Hid (w.ownsMap Tryz.prog 9 rFp p.bm 3 D) := h1
  unfold fM at hat hhas
  simp only at hat hhas
  clear h1 h2 h3 hD hE e7 e2
  cases hd : d.down with
  | true =>
    rw [hd] at c2 HF
    rw [if_pos rfl] at HF
    clear hat hhas HO hk hd gg c1
    go_enter Tryz.func86, Tryz.ntmps86
    go_wp2
    go_region
    all_goals
      go_wp2
      go_ret2
      exact ⟨by rw [HF.out]; rfl, by first | exact (Below.refl _ _).drew | exact Below.refl _ _⟩
  | false =>
    rw [hd] at c2 HF
    rw [if_neg (by simp)] at HF
    cases hf : d.file (nameN s.data.toList) with
    | none =>
      rw [hf] at hat hhas HF
      simp only [Option.map_none, Option.getD_none, Option.isSome_none] at hat hhas
      clear hf hd gd
      go_enter Tryz.func86, Tryz.ntmps86
      go_wp2_with (first | (at_lookup; refine wpList_lookup_own_ok _ rfl _ _ 180 rfl 9 134 keyedStr Tryz.underlying180 rFp (zeroFp _) _ [] rFp_nil p.bm 3 D rfl HO.out _ _ rfl hk ?_; intro v ps hv; rw [hat] at hv; obtain rfl := rFp_inv_nil hv; rw [hhas]))
      go_region
      all_goals
        go_wp2
        go_ret2
        exact ⟨by rw [HF.out]; rfl, by first | exact (Below.refl _ _).drew | exact Below.refl _ _⟩
    | some f =>
      rw [hf] at hat hhas HF
      simp only [Option.map_some, Option.getD_some, Option.isSome_some] at hat hhas
      clear hf hd gd gg
      go_enter Tryz.func86, Tryz.ntmps86
      go_wp2_with (first | (at_lookup; refine wpList_lookup_own_ok _ rfl _ _ 180 rfl 9 134 keyedStr Tryz.underlying180 rFp (zeroFp _) _ [] rFp_nil p.bm 3 D rfl HO.out _ _ rfl hk ?_; intro v ps hv; rw [hat] at hv; obtain rfl := rFp_inv hv; rw [hhas]))
      go_ret2
      exact ⟨by rw [HF.out]; rfl, Below.refl _ _⟩
end Go.Proofs.YtdhgebdbiehchaaGreatDoor
namespace Go.Proofs.YtdhgebdbiehchaaGreatDoor
open Go.RowKit Go.Shelf Go.Maps
set_option linter.unusedSimpArgs false
set_option linter.unusedVariables false

def plV (x : Sd) : Value := .agg #[.int .i64 x.blk, .int .i64 x.no]
/-- Those that have come: each once, and just those whose keys are no longer to come. -/
def Come (L : List Sd) (left : Lit → Bool) (ss : List Sd) : Prop := ss.Nodup ∧ (∀ x ∈ ss, x ∈ L) ∧ ∀ x ∈ L, (x ∈ ss ↔ left (pk x.blk x.no) = false)
theorem come_start {L : List Sd} {D : DataW Unit} (hL : Lives L) (v : View D (fI L)) : Come L (Maps.has D) [] :=
  ⟨List.nodup_nil, by simp, fun x hx => by rw [(v.2 _).2, fI_mem pkInj hL hx]; simp⟩
theorem come_step {L : List Sd} {left : Lit → Bool} {ss : List Sd} (hL : Lives L) (h : Come L left ss) {x : Sd} (hx : x ∈ L) (hl : left (pk x.blk x.no) = true) : Come L (fun z => left z && !z.sameKey (pk x.blk x.no)) (ss ++ [x]) := by
  have hnew : x ∉ ss := fun hx' => by have := (h.2.2 x hx).1 hx'; rw [hl] at this; cases this
  refine ⟨List.nodup_append.2 ⟨h.1, by simp, fun a ha b hb => by simp at hb; subst hb; exact fun e => hnew (e ▸ ha)⟩, fun y hy => ?_, fun y hy => ?_⟩
  · rcases List.mem_append.1 hy with hy | hy
    · exact h.2.1 y hy
    · simp at hy; subst hy; exact hx
  · by_cases e : pk y.blk y.no = pk x.blk x.no
    · have s1 := hL.small y hy
      have s2 := hL.small x hx
      obtain ⟨e1, e2⟩ := pkInj _ _ _ _ s1.1 s1.2 s2.1 s2.2 e
      have := hL.place_eq hy hx e1 e2
      subst this
      show _ ↔ (left _ && !(pk y.blk y.no).sameKey (pk y.blk y.no)) = false
      rw [WideAt.sameKey_self (a := pk y.blk y.no) (by trivial)]
      simp
    · show _ ↔ (left _ && !(pk y.blk y.no).sameKey (pk x.blk x.no)) = false
      rw [sameKey_ne e]
      have : y ≠ x := fun h => e (by rw [h])
      simp [h.2.2 y hy, this]
theorem lives_nodup {L : List Sd} (hL : Lives L) : L.Nodup := hL.keys.imp (fun h e => h (by rw [e]))
theorem come_end {L : List Sd} {left : Lit → Bool} {ss : List Sd} (hL : Lives L) (h : Come L left ss) (hl : ∀ k, left k = false) : ss.Perm L :=
  (List.perm_ext_iff_of_nodup h.1 (lives_nodup hL)).2 (fun x => ⟨h.2.1 x, fun hx => (h.2.2 x hx).2 (hl _)⟩)

set_option maxRecDepth 100000 in
set_option maxHeartbeats 1600000 in
theorem keys_tells (n : Nat) (hn : 2 ≤ n) (Bm b nn : Nat) (L : List Sd) (D : DataW Unit) (w : World) (hz : Bm < w.heap.size) (hm : w.cell? ⟨Bm, 0, none⟩ = some (.map (some b))) (hown : w.ownsMap Tryz.prog 165 rIt b nn D) (hv : View D (fI L)) (hsz : Maps.size D = L.length) (hL : Lives L) :
    SeqTells Fence.wide n Tryz.prog 190 #[.pointer (some ⟨Bm, 0, none⟩)] (fun x : Sd => #[plV x]) (fun pre x _ => x ∈ L ∧ pre.length < L.length) KeepsWalks (fun ss => ss.Perm L) w := by
  intro l J W hW hJ hY h0
  have h1 : 1 ≤ n := by omega
  replace hm := (hW.cell (p := ⟨Bm, 0, none⟩) hz).trans hm
  have hown' : W.ownsMap Tryz.prog 165 rIt b nn D := by
    have hbl := hown.lt
    obtain ⟨es, clock, hb, r⟩ := hown
    exact ⟨es, clock, (hW.block b hbl).trans hb, r⟩
  clear hown
  change CallsIn Fence.wide n Tryz.prog 190 #[.func (.yield l) #[] #[], .pointer (some ⟨Bm, 0, none⟩)] W _
  refine callsIn_of_wp Tryz.func190 rfl trivial ?_ rfl
  simp only [Tryz.ntmps190, List.size_toArray, List.length_cons, List.length_nil, Nat.reduceAdd, Nat.reduceSub, Array.replicate_succ, Array.replicate_zero, List.push_toArray, List.append_toArray, List.nil_append, List.cons_append]
  gi_wp2_with (first
    | (gi_at_range; refine wpListIn_range_own _ rfl _ 97 rfl 165 54 keyedPl Tryz.underlying97 _ b nn _ rfl hown' ?_; intro w0 hrg0 hg0 hs0)
    | gi_in)
  try go_frame
  gi_loopw [6] (fun _ wr => ∃ (left : Lit → Bool) (cnt : Nat) (ss : List Sd), wr.ranges Tryz.prog 165 rIt b W.heap.size nn D left cnt ∧ ss.length + cnt ≤ L.length ∧ Come L left ss ∧ J ss wr)
    (fun _ wr => wr.rangeLeft b W.heap.size)
  case atStart =>
    exact ⟨_, _, [], hrg0, by simp [hsz], come_start hL hv, hJ [] W w0 none h0 hg0 (fun r e => by cases e)⟩
  case round =>
    obtain ⟨left, cnt, ss, hrg, hcs, hC, hJs⟩ := hrel
    gi_wp2_with (first
      | (gi_at_next; refine wpListIn_next_ranges _ rfl _ rfl 165 keyedPl rIt id id (fun key _ _ => ⟨key, rfl⟩) (fun v _ _ => ⟨v, rfl⟩) b W.heap.size nn _ _ _ rfl hrg ?_ ?_)
      | gi_in)
    · intro hc0 hl0
      gi_wp2
      go_end0
      exact ⟨⟨_, rfl⟩, ss, come_end hL hC hl0, hJs⟩
    · intro x c kl yd yp w2 cnt2 hkey hlk hvv hat hrg2 hlt hg2 hs2 hen
      have hhas : Maps.has D kl = true := has_true_of_atKey hat
      rw [(hv.2 kl).2] at hhas
      obtain ⟨z, hzL, rfl⟩ := fI_isSome hhas
      have s1 := hL.small z hzL
      have ez := keyedPl.inj hkey (keyOf_pk s1.1 s1.2)
      try simp only [id] at ez hen
      subst ez
      have hJ2 : J ss w2 := hJ ss wr w2 (some W.heap.size) hJs hg2 (fun r e => by cases e; exact ⟨Nat.le_refl _, hrg.iter_walk⟩)
      have hJ3 : J ss (w2.alloc (.cells #[.int .i64 z.blk, .int .i64 z.no] 165)) := hJ ss w2 _ none hJ2 (World.grownBy_alloc w2 _ none) (fun r e => by cases e)
      obtain ⟨fn, tmps, assign, body, hy, hR⟩ := hY ss z _ hJ3 ⟨hzL, by omega⟩
      have hrg3 := hrg2.of_walks (KeepsWalks.alloc w2 (.cells #[.int .i64 (z.blk : Int), .int .i64 (z.no : Int)] 165))
      clear hs2
      dsimp only [plV] at hy
      gi_wp2
      refine hR.mono ?_
      rintro e W3 ⟨rfl, hJ4, hk3⟩
      gi_wp2
      have hrg4 := hrg3.of_walks hk3
      go_roundw
      case rel => exact ⟨_, cnt2, ss ++ [z], hrg4, by simp; omega, come_step hL hC hzL hlk, hJ4⟩
      case measure => rw [hrg4.left_eq, hrg.left_eq]; exact hlt

set_option maxHeartbeats 800000 in
theorem keys_in (n : Nat) (mb : Option Nat) (w : World) :
    CallsIn Fence.wide n Tryz.prog 149 #[.map mb] w fun e w' => e = .returned (.func (.func 190) #[] #[.pointer (some ⟨w.heap.size, 0, none⟩)]) ∧ w' = w.alloc (.cells #[.map mb] 97) := by
  refine callsIn_of_wp Tryz.func149 rfl trivial ?_ rfl
  simp only [Tryz.ntmps149, List.size_toArray, List.length_cons, List.length_nil, Nat.reduceAdd, Nat.reduceSub, Array.replicate_succ, Array.replicate_zero, List.push_toArray, List.append_toArray, List.nil_append, List.cons_append]
  gi_wp2
  go_ret
  exact ⟨rfl, rfl⟩
end Go.Proofs.YtdhgebdbiehchaaGreatDoor
namespace Go.Proofs.YtdhgebdbiehchaaGreatDoor
open Go.RowKit
set_option linter.unusedSimpArgs false
set_option linter.unusedVariables false

def cmpI (x y : Int) : Int := if x < y then -1 else if y < x then 1 else 0
def orI (x y : Int) : Int := if x = 0 then y else x

set_option maxHeartbeats 400000 in
theorem isNaN_any (x : Int) (w : World) : Calls Tryz.prog 209 #[.int .i64 x] w fun e w' => e = .returned (.bool false) ∧ w' = w := by
  go_enter Tryz.func209, Tryz.ntmps209
  go_wp2
  go_ret
  exact ⟨by simp, rfl⟩
set_option maxHeartbeats 800000 in
theorem cmp_any (x y : Int) (w : World) : Calls Tryz.prog 192 #[.int .i64 x, .int .i64 y] w fun e w' => e = .returned (.int .i64 (cmpI x y)) ∧ w' = w := by
  have HC : Hid (cmpI x y = if x < y then -1 else if y < x then 1 else 0) := rfl
  generalize cmpI x y = c at *
  by_cases h1 : x < y
  · have HE : Hid (c = -1) := by show c = -1; rw [HC.out, if_pos h1]
    clear HC
    go_enter Tryz.func192, Tryz.ntmps192
    go_wp2_with (go_at_call 209; refine (isNaN_any _ _).mono ?_; rintro e w' ⟨rfl, rfl⟩)
    go_ret
    exact ⟨ret_int HE.out.symm, rfl⟩
  · by_cases h2 : y < x
    · have HE : Hid (c = 1) := by show c = 1; rw [HC.out, if_neg h1, if_pos h2]
      clear HC
      go_enter Tryz.func192, Tryz.ntmps192
      go_wp2_with (go_at_call 209; refine (isNaN_any _ _).mono ?_; rintro e w' ⟨rfl, rfl⟩)
      go_ret
      exact ⟨ret_int HE.out.symm, rfl⟩
    · have HE : Hid (c = 0) := by show c = 0; rw [HC.out, if_neg h1, if_neg h2]
      clear HC
      go_enter Tryz.func192, Tryz.ntmps192
      go_wp2_with (go_at_call 209; refine (isNaN_any _ _).mono ?_; rintro e w' ⟨rfl, rfl⟩)
      go_ret
      exact ⟨ret_int HE.out.symm, rfl⟩
set_option maxHeartbeats 800000 in
theorem or_any (x y : Int) (g : Nat) (w : World) (h0 : w.cell? ⟨g, 0, none⟩ = some (.int .i64 x)) (h1 : w.cell? ⟨g, 1, none⟩ = some (.int .i64 y)) :
    Calls Tryz.prog 191 #[.slice (some ⟨g, 0, none⟩) 2 2] w fun e w' => e = .returned (.int .i64 (orI x y)) ∧ w' = w := by
  have HC : Hid (orI x y = if x = 0 then y else x) := rfl
  generalize orI x y = c at *
  by_cases hx : x = 0
  · subst hx
    have HE : Hid (c = y) := by show c = y; rw [HC.out, if_pos rfl]
    clear HC
    by_cases hy : y = 0
    · subst hy
      go_enter Tryz.func191, Tryz.ntmps191
      go_wp2
      refine wp_loop_rounds 3 ?_
      rw [rounds_succ]
      go_wp2
      rw [rounds_succ]
      go_wp2
      rw [rounds_succ]
      go_wp2
      go_ret
      exact ⟨ret_int HE.out.symm, rfl⟩
    · have hb : (y != 0) = true := by rw [bne_iff_ne]; exact hy
      go_enter Tryz.func191, Tryz.ntmps191
      go_wp2
      refine wp_loop_rounds 2 ?_
      rw [rounds_succ]
      go_wp2
      rw [rounds_succ]
      go_wp2
      go_ret
      exact ⟨ret_int HE.out.symm, rfl⟩
  · have HE : Hid (c = x) := by show c = x; rw [HC.out, if_neg hx]
    have hb : (x != 0) = true := by rw [bne_iff_ne]; exact hx
    clear HC
    go_enter Tryz.func191, Tryz.ntmps191
    go_wp2
    refine wp_loop_rounds 1 ?_
    rw [rounds_succ]
    go_wp2
    go_ret
    exact ⟨ret_int HE.out.symm, rfl⟩

/-- Draws and new blocks, no more. -/
def Grows (w w' : World) : Prop := ∃ q os', w' = Sort.grow (w.drewN q) os'
theorem Grows.refl (w : World) : Grows w w := ⟨0, #[], by rw [Sort.grow_empty]; rfl⟩
theorem Grows.alloc {w w' : World} (h : Grows w w') (o : Obj) : Grows w (w'.alloc o) := by
  obtain ⟨q, os, rfl⟩ := h
  exact ⟨q, os ++ #[o], by rw [Sort.alloc_eq_grow, Sort.grow_grow]⟩
theorem Grows.drew {w w' : World} (h : Grows w w') : Grows w w'.drew := by
  obtain ⟨q, os, rfl⟩ := h
  exact ⟨q + 1, os, rfl⟩

def PcS (w : World) (a b c d : Int) (w' : World) : Prop := (w'.cell? ⟨w.heap.size, 0, none⟩ = some (.int .i64 a) ∧ w'.cell? ⟨w.heap.size, 1, none⟩ = some (.int .i64 b) ∧ w'.cell? ⟨w.heap.size + 1, 0, none⟩ = some (.int .i64 c) ∧ w'.cell? ⟨w.heap.size + 1, 1, none⟩ = some (.int .i64 d)) ∧ Grows w w' ∧ w.heap.size + 1 < w'.heap.size
theorem PcS.alloc {w w' : World} {a b c d : Int} (h : PcS w a b c d w') (o : Obj) : PcS w a b c d (w'.alloc o) := by
  obtain ⟨⟨h0, h1, h2, h3⟩, h4, h5⟩ := h
  refine ⟨⟨?_, ?_, ?_, ?_⟩, h4.alloc o, by simp; omega⟩
  · rw [World.cell?_alloc_lt _ _ ⟨w.heap.size, 0, none⟩ (by show w.heap.size < _; omega)]; exact h0
  · rw [World.cell?_alloc_lt _ _ ⟨w.heap.size, 1, none⟩ (by show w.heap.size < _; omega)]; exact h1
  · rw [World.cell?_alloc_lt _ _ ⟨w.heap.size + 1, 0, none⟩ (by show w.heap.size + 1 < _; omega)]; exact h2
  · rw [World.cell?_alloc_lt _ _ ⟨w.heap.size + 1, 1, none⟩ (by show w.heap.size + 1 < _; omega)]; exact h3

theorem third_cell (w : World) (A B : Obj) (C : Array Value) (t : TypeId) (j : Nat) (u : Value) (h : C[j]? = some u) : (((w.alloc A).alloc B).alloc (.cells C t)).drew.cell? ⟨w.heap.size + 1 + 1, j, none⟩ = some u := by
  show (((w.alloc A).alloc B).alloc (.cells C t)).cell? ⟨w.heap.size + 1 + 1, j, none⟩ = some u
  rw [World.cell?_alloc_at _ _ _ _ (by simp)]
  exact h

set_option maxRecDepth 100000 in
set_option maxHeartbeats 1600000 in
theorem placeCmp_any (a b c d : Int) (w : World) : Calls Tryz.prog 150 #[.agg #[.int .i64 a, .int .i64 b], .agg #[.int .i64 c, .int .i64 d]] w fun e w' => e = .returned (.int .i64 (orI (cmpI a c) (cmpI b d))) ∧ Grows w w' := by
  have HC : Hid (∀ wx, Calls Tryz.prog 192 #[.int .i64 a, .int .i64 c] wx fun e w' => e = .returned (.int .i64 (cmpI a c)) ∧ w' = wx) := cmp_any a c
  have HD : Hid (∀ wx, Calls Tryz.prog 192 #[.int .i64 b, .int .i64 d] wx fun e w' => e = .returned (.int .i64 (cmpI b d)) ∧ w' = wx) := cmp_any b d
  generalize cmpI a c = x at *
  generalize cmpI b d = y at *
  have HO : Hid (∀ wx g, wx.cell? ⟨g, 0, none⟩ = some (.int .i64 x) → wx.cell? ⟨g, 1, none⟩ = some (.int .i64 y) → Calls Tryz.prog 191 #[.slice (some ⟨g, 0, none⟩) 2 2] wx fun e w' => e = .returned (.int .i64 (orI x y)) ∧ w' = wx) := fun wx g h0 h1 => or_any x y g wx h0 h1
  generalize orI x y = r at *
  go_enter Tryz.func150, Tryz.ntmps150
  go_wp2_with fail
  go_region_held3 (fun w' => (w'.cell? ⟨w.heap.size, 0, none⟩ = some (.int .i64 a) ∧ w'.cell? ⟨w.heap.size, 1, none⟩ = some (.int .i64 b) ∧ w'.cell? ⟨w.heap.size + 1, 0, none⟩ = some (.int .i64 c) ∧ w'.cell? ⟨w.heap.size + 1, 1, none⟩ = some (.int .i64 d)) ∧ Grows w w' ∧ w.heap.size + 1 < w'.heap.size) (first | (exact ⟨⟨by simp, by simp, by simp, by simp⟩, (((Grows.refl _).alloc _).alloc _).drew, by simp⟩) | (exact PcS.alloc (by assumption) _) | (assumption)) (first | (go_at_call_of 192 (Value.int IntKind.i64 a); refine (HC.out _).mono ?_; rintro e w' ⟨rfl, rfl⟩) | (go_at_call_of 192 (Value.int IntKind.i64 b); refine (HD.out _).mono ?_; rintro e w' ⟨rfl, rfl⟩) | (go_at_call 191; refine (HO.out _ _ ?_ ?_).mono ?_; exact third_cell _ _ _ _ _ _ _ rfl; exact third_cell _ _ _ _ _ _ _ rfl; rintro e w' ⟨rfl, rfl⟩))
  all_goals
    go_wp2
    go_ret
    exact ⟨rfl, ((((Grows.refl _).alloc _).alloc _).alloc _).drew⟩
end Go.Proofs.YtdhgebdbiehchaaGreatDoor
namespace Go.Proofs.YtdhgebdbiehchaaGreatDoor
open Go.RowKit
set_option linter.unusedSimpArgs false
set_option linter.unusedVariables false

set_option maxHeartbeats 800000 in
theorem sumOf_any (s : ByteArray) (w : World) (hs : s.size ≤ 9223372036854775807) :
    Calls Tryz.prog 96 #[.string s] w fun e w' => e = .returned (.int .i64 (sumI s.data.toList)) ∧ Below w.heap.size w w' := by
  have h0 : (w.alloc (.cells #[.string s] 9)).cell? ⟨w.heap.size, 0, none⟩ = some (.string s) := by simp
  have HS := hash1_any w.heap.size 1 s _ h0 hs
  go_enter Tryz.func96, Tryz.ntmps96
  go_wp2_with fail
  refine HS.mono ?_
  rintro e w1 ⟨H, rfl, g0, g1, HF, rfl⟩
  have hr : 0 ≤ H % 4294967296 ∧ H % 4294967296 < 4294967296 := by omega
  go_wp2
  go_ret
  refine ⟨ret_int ?_, (Below.refl _ _).alloc (Nat.le_refl _) _⟩
  rw [sumI, ← HF.out]

def zeroF : Value := .agg #[.int .i64 0, .int .i64 0, .int .i64 0, .int .i64 0, .int .i64 0]
/-- Are an index's first bytes such, and is what follows as long as they say? -/
def ixOK (l : List UInt8) : Bool := decide (20 ≤ l.length) && (l.take 2 == [73, 88]) && sealedB (l.take 20) && (decide (ixN l ≠ 0) && decide (l.length = 20 + 10 * ixN l + 4))
def ixLive (l : List UInt8) : Nat := highL ((l.drop 2).take 2)
def frontV (l : List UInt8) : Value := if ixOK l = true then .tuple #[.agg #[.int .i64 (ixLive l), .int .i64 (ixN l), .int .i64 (ixFar l), .int .i64 (ixSize l), .int .i64 (ixSum l)], .string (S ((l.drop 20).take (10 * ixN l))), .bool true] else .tuple #[.agg #[.int .i64 0, .int .i64 0, .int .i64 0, .int .i64 0, .int .i64 0], .string ⟨#[]⟩, .bool false]

set_option maxHeartbeats 1600000 in
theorem readFront_no (s : ByteArray) (w : World) (hs : s.size ≤ 140737488351232) (hH : HalvesAt w) (h : s.size < 20 ∨ (20 ≤ s.size ∧ (s.data.toList.take 2 == [73, 88]) = false) ∨ (20 ≤ s.size ∧ (s.data.toList.take 2 == [73, 88]) = true ∧ sealedB (s.data.toList.take 20) = false)) :
    Calls Tryz.prog 139 #[.string s] w fun e w' => e = .returned (.tuple #[.agg #[.int .i64 0, .int .i64 0, .int .i64 0, .int .i64 0, .int .i64 0], .string ⟨#[]⟩, .bool false]) ∧ Below w.heap.size w w' := by
  have E2 : Hid ((s.extract 0 2).toList = s.data.toList.take 2) := by show _ = _; rw [ByteArray.toList_eq, cut_list, List.drop_zero]
  have E20 : Hid ((s.extract 0 20).data.toList = s.data.toList.take 20) := by show _ = _; rw [cut_list, List.drop_zero]
  have HH : Hid (HalvesAt w) := hH
  clear hH
  rcases h with h1 | ⟨h1, h2⟩ | ⟨h1, h2, h3⟩
  · go_enter Tryz.func139, Tryz.ntmps139
    go_wp2
    exact bodyPost_ret (v := .tuple #[.agg #[.int .i64 0, .int .i64 0, .int .i64 0, .int .i64 0, .int .i64 0], .string ⟨#[]⟩, .bool false]) (by simp [results, Tryz.results139, go_sem]) rfl ⟨rfl, (Below.refl _ _).alloc (Nat.le_refl _) _⟩
  · have t1 : ((s.extract 0 2).toList == [73, 88]) = false := by rw [E2.out]; exact h2
    have t2 : ((s.extract 0 2).toList != [73, 88]) = true := by rw [bne, t1]; rfl
    clear h2
    go_enter Tryz.func139, Tryz.ntmps139
    go_wp2
    exact bodyPost_ret (v := .tuple #[.agg #[.int .i64 0, .int .i64 0, .int .i64 0, .int .i64 0, .int .i64 0], .string ⟨#[]⟩, .bool false]) (by simp [results, Tryz.results139, go_sem]) rfl ⟨rfl, (Below.refl _ _).alloc (Nat.le_refl _) _⟩
  · have t1 : ((s.extract 0 2).toList == [73, 88]) = true := by rw [E2.out]; exact h2
    have t2 : ((s.extract 0 2).toList != [73, 88]) = false := by rw [bne, t1]; rfl
    have H3 : Hid (sealedB (s.data.toList.take 20) = false) := h3
    clear h2 h3
    go_enter Tryz.func139, Tryz.ntmps139
    go_wp2_with fail
    refine (holds_any _ _ ?_ ?_).mono ?_
    · simp; omega
    · exact HH.out.below ((Below.refl w.heap.size w).alloc (Nat.le_refl _) _) HH.out.1
    rintro e w1 ⟨rfl, hb1⟩
    rw [E20.out, H3.out]
    have hz1 : w.heap.size < w1.heap.size := by have := hb1.size; simp at this; omega
    have r0 : w1.cell? ⟨w.heap.size, 0, none⟩ = some (.int .i64 0) := by rw [hb1.cell (p := ⟨w.heap.size, 0, none⟩) (by simp)]; simp
    have r1 : w1.cell? ⟨w.heap.size, 1, none⟩ = some (.int .i64 0) := by rw [hb1.cell (p := ⟨w.heap.size, 1, none⟩) (by simp)]; simp
    have r2 : w1.cell? ⟨w.heap.size, 2, none⟩ = some (.int .i64 0) := by rw [hb1.cell (p := ⟨w.heap.size, 2, none⟩) (by simp)]; simp
    have r3 : w1.cell? ⟨w.heap.size, 3, none⟩ = some (.int .i64 0) := by rw [hb1.cell (p := ⟨w.heap.size, 3, none⟩) (by simp)]; simp
    have r4 : w1.cell? ⟨w.heap.size, 4, none⟩ = some (.int .i64 0) := by rw [hb1.cell (p := ⟨w.heap.size, 4, none⟩) (by simp)]; simp
    have f0 : w1.frozen? ⟨w.heap.size, 0, none⟩ = false := by rw [hb1.frozen (p := ⟨w.heap.size, 0, none⟩) (by simp)]; simp
    have f1 : w1.frozen? ⟨w.heap.size, 1, none⟩ = false := by rw [hb1.frozen (p := ⟨w.heap.size, 1, none⟩) (by simp)]; simp
    have f2 : w1.frozen? ⟨w.heap.size, 2, none⟩ = false := by rw [hb1.frozen (p := ⟨w.heap.size, 2, none⟩) (by simp)]; simp
    have f3 : w1.frozen? ⟨w.heap.size, 3, none⟩ = false := by rw [hb1.frozen (p := ⟨w.heap.size, 3, none⟩) (by simp)]; simp
    have f4 : w1.frozen? ⟨w.heap.size, 4, none⟩ = false := by rw [hb1.frozen (p := ⟨w.heap.size, 4, none⟩) (by simp)]; simp
    have hB : Below w.heap.size w w1 := ((Below.refl _ _).alloc (Nat.le_refl _) _).trans (hb1.mono (by simp))
    go_wp2
    exact bodyPost_ret (v := .tuple #[.agg #[.int .i64 0, .int .i64 0, .int .i64 0, .int .i64 0, .int .i64 0], .string ⟨#[]⟩, .bool false]) (by simp [results, Tryz.results139, go_sem, r0, r1, r2, r3, r4]) rfl ⟨rfl, ((((hB.setCell (Nat.le_refl _) _).setCell (Nat.le_refl _) _).setCell (Nat.le_refl _) _).setCell (Nat.le_refl _) _).setCell (Nat.le_refl _) _⟩

set_option maxRecDepth 100000 in
set_option maxHeartbeats 1600000 in
theorem isOf_any (a1 a2 a3 a4 a5 : Nat) (s : ByteArray) (w : World) (hs : s.size ≤ 9223372036854775807) :
    Calls Tryz.prog 140 #[.agg #[.int .i64 a1, .int .i64 a2, .int .i64 a3, .int .i64 a4, .int .i64 a5], .string s] w fun e w' => e = .returned (.bool (decide (a4 = s.size) && decide ((a5 : Int) = sumI s.data.toList))) ∧ Below w.heap.size w w' := by
  have HS : Hid _ := sumOf_any s
  by_cases h : s.size = a4
  · have hd : ((s.size : Int) == (a4 : Int)) = true := by rw [beq_iff_eq]; omega
    have HD : Hid (decide (a4 = s.size) = true) := by show _ = _; simp [h]
    clear h
    go_enter Tryz.func140, Tryz.ntmps140
    go_wp2_with fail
    go_region_held3 (fun w' => (w'.cell? ⟨w.heap.size, 3, none⟩ = some (.int .i64 a4) ∧ w'.cell? ⟨w.heap.size, 4, none⟩ = some (.int .i64 a5)) ∧ Below w.heap.size w w' ∧ w.heap.size < w'.heap.size) (first | (exact ⟨⟨by simp, by simp⟩, ((Below.refl _ _).alloc (Nat.le_refl _) _).drew, by simp⟩) | (exact keep2 (by assumption) (by assumption))) (first | (go_at_call 96; refine (HS.out _ hs).mono ?_; rintro e w' ⟨rfl, hb1⟩))
    all_goals
      have hx := ‹(_ ∧ _) ∧ Below _ _ _ ∧ _›
      go_wp2
      go_ret
      refine ⟨ret_bool ?_, hx.2.1⟩
      rw [HD.out, Bool.true_and, Bool.eq_iff_iff]
      simp only [beq_iff_eq, decide_eq_true_eq]
      exact eq_comm
  · have hd : ((s.size : Int) == (a4 : Int)) = false := by rw [beq_eq_false_iff_ne]; omega
    have HD : Hid (decide (a4 = s.size) = false) := by show _ = _; simp; omega
    clear h
    go_enter Tryz.func140, Tryz.ntmps140
    go_wp2_with fail
    go_quiet (fail)
    go_wp2
    go_ret
    exact ⟨ret_bool (by rw [HD.out]; rfl), below_drewN ((Below.refl _ _).alloc (Nat.le_refl _) _) _⟩

theorem drew_cell (w2 : World) (a : Addr) : w2.drew.cell? a = w2.cell? a := rfl
theorem far5d (w2 : World) {n m : Nat} (h : n ≠ m) (a b c d e : Value) (j : Nat) : (((((w2.setCell ⟨n, 0, none⟩ a).setCell ⟨n, 1, none⟩ b).setCell ⟨n, 2, none⟩ c).setCell ⟨n, 3, none⟩ d).setCell ⟨n, 4, none⟩ e).drew.cell? ⟨m, j, none⟩ = w2.cell? ⟨m, j, none⟩ := by
  have e0 : ∀ X : World, X.drew.cell? ⟨m, j, none⟩ = X.cell? ⟨m, j, none⟩ := fun X => rfl
  rw [e0]
  rw [World.cell?_setCell_far _ _ _ _ h, World.cell?_setCell_far _ _ _ _ h, World.cell?_setCell_far _ _ _ _ h, World.cell?_setCell_far _ _ _ _ h, World.cell?_setCell_far _ _ _ _ h]


/-- The result's box of five noughts. -/
def Box5 (w W : World) : Prop := (W.cell? ⟨w.heap.size, 0, none⟩ = some (.int .i64 0) ∧ W.cell? ⟨w.heap.size, 1, none⟩ = some (.int .i64 0) ∧ W.cell? ⟨w.heap.size, 2, none⟩ = some (.int .i64 0) ∧ W.cell? ⟨w.heap.size, 3, none⟩ = some (.int .i64 0) ∧ W.cell? ⟨w.heap.size, 4, none⟩ = some (.int .i64 0)) ∧ (∀ i, W.frozen? ⟨w.heap.size, i, none⟩ = false) ∧ Below w.heap.size w W ∧ w.heap.size < W.heap.size
theorem Box5.below {w W W' : World} (h : Box5 w W) (hb : Below W.heap.size W W') : Box5 w W' := by
  obtain ⟨⟨h0, h1, h2, h3, h4⟩, hf, hB, hz⟩ := h
  exact ⟨⟨(hb.cell (p := ⟨w.heap.size, 0, none⟩) hz).trans h0, (hb.cell (p := ⟨w.heap.size, 1, none⟩) hz).trans h1, (hb.cell (p := ⟨w.heap.size, 2, none⟩) hz).trans h2, (hb.cell (p := ⟨w.heap.size, 3, none⟩) hz).trans h3, (hb.cell (p := ⟨w.heap.size, 4, none⟩) hz).trans h4⟩, fun i => (hb.frozen (p := ⟨w.heap.size, i, none⟩) hz).trans (hf i), hB.trans (hb.mono (Nat.le_of_lt hz)), Nat.lt_of_lt_of_le hz hb.size⟩
theorem box5_new (w : World) (t : TypeId) : Box5 w (w.alloc (.cells #[.int .i64 0, .int .i64 0, .int .i64 0, .int .i64 0, .int .i64 0] t)) :=
  ⟨⟨by simp, by simp, by simp, by simp, by simp⟩, fun i => by simp, (Below.refl _ _).alloc (Nat.le_refl _) _, by simp⟩

set_option maxRecDepth 100000 in
set_option maxHeartbeats 3200000 in
theorem readFront_go (s : ByteArray) (w : World) (hs : s.size ≤ 140737488351232) (hH : HalvesAt w) (h1 : 20 ≤ s.size) (h2 : (s.data.toList.take 2 == [73, 88]) = true) (h3 : sealedB (s.data.toList.take 20) = true) :
    Calls Tryz.prog 139 #[.string s] w fun e w' => e = .returned (frontV s.data.toList) ∧ Below w.heap.size w w' := by
  have hl : s.data.toList.length = s.size := by simp
  have E2 : Hid ((s.extract 0 2).toList = s.data.toList.take 2) := by show _ = _; rw [ByteArray.toList_eq, cut_list, List.drop_zero]
  have E20 : Hid ((s.extract 0 20).data.toList = s.data.toList.take 20) := by show _ = _; rw [cut_list, List.drop_zero]
  have HH : Hid (HalvesAt w) := hH
  have t1 : ((s.extract 0 2).toList == [73, 88]) = true := by rw [E2.out]; exact h2
  have t2 : ((s.extract 0 2).toList != [73, 88]) = false := by rw [bne, t1]; rfl
  have H3 : Hid (sealedB (s.data.toList.take 20) = true) := h3
  have HOK : Hid (ixOK s.data.toList = (decide (ixN s.data.toList ≠ 0) && decide (s.size = 20 + 10 * ixN s.data.toList + 4))) := by
    show _ = _
    rw [ixOK, hl, h2, h3]; simp [h1]
  have hN : ixN s.data.toList < 65536 := by
    have := highL_lt ((s.data.toList.drop 4).take 2)
    have h4 := pow256_le (show ((s.data.toList.drop 4).take 2).length ≤ 2 by simp; omega)
    unfold ixN; omega
  clear hH h2 h3 hl
  go_enter Tryz.func139, Tryz.ntmps139
  go_wp2_with fail
  refine (holds_any _ _ ?_ ?_).mono ?_
  · simp; omega
  · exact HH.out.below ((Below.refl w.heap.size w).alloc (Nat.le_refl _) _) HH.out.1
  rintro e w1 ⟨rfl, hb1⟩
  rw [E20.out, H3.out]
  have HB1 : Hid (Box5 w w1) := (box5_new w _).below hb1
  have hz1 : w.heap.size < w1.heap.size := HB1.out.2.2.2
  have C1 : Hid ((s.extract 2 4).data.toList = (s.data.toList.drop 2).take 2) := cut_list s 2 4
  have C2 : Hid ((s.extract 4 6).data.toList = (s.data.toList.drop 4).take 2) := cut_list s 4 6
  have C3 : Hid ((s.extract 6 8).data.toList = (s.data.toList.drop 6).take 2) := cut_list s 6 8
  have C4 : Hid ((s.extract 8 12).data.toList = (s.data.toList.drop 8).take 4) := cut_list s 8 12
  have C5 : Hid ((s.extract 12 16).data.toList = (s.data.toList.drop 12).take 4) := cut_list s 12 16
  have z1 : (s.extract 2 4).size = 2 := by simp; omega
  have z2 : (s.extract 4 6).size = 2 := by simp; omega
  have z3 : (s.extract 6 8).size = 2 := by simp; omega
  have z4 : (s.extract 8 12).size = 4 := by simp; omega
  have z5 : (s.extract 12 16).size = 4 := by simp; omega
  have i1 : (4 : Int) ≤ (s.size : Int) := by omega
  have i2 : (6 : Int) ≤ (s.size : Int) := by omega
  have i3 : (8 : Int) ≤ (s.size : Int) := by omega
  have i4 : (12 : Int) ≤ (s.size : Int) := by omega
  have i5 : (16 : Int) ≤ (s.size : Int) := by omega
  clear hb1 t1 t2 E2 E20 H3 HH
  go_wp2_with fail
  go_cut [5] (fun c wx => c = .pointer (some ⟨w1.heap.size, 0, none⟩) ∧ (wx.cell? ⟨w1.heap.size, 0, none⟩ = some (.int .i64 (ixLive s.data.toList)) ∧ wx.cell? ⟨w1.heap.size, 1, none⟩ = some (.int .i64 (ixN s.data.toList)) ∧ wx.cell? ⟨w1.heap.size, 2, none⟩ = some (.int .i64 (ixFar s.data.toList)) ∧ wx.cell? ⟨w1.heap.size, 3, none⟩ = some (.int .i64 (ixSize s.data.toList)) ∧ wx.cell? ⟨w1.heap.size, 4, none⟩ = some (.int .i64 (ixSum s.data.toList))) ∧ Below w1.heap.size w1 wx ∧ w1.heap.size < wx.heap.size)
  case first =>
    go_region_held3 (fun w' => w1.heap.size ≤ w'.heap.size) (first | (simp) | (simp; omega)) (first | (go_at_call_of 145 (Value.string (s.extract 2 4)); refine (lowRead_any _ _ (by omega)).mono ?_; rintro e w' ⟨rfl, rfl⟩) | (go_at_call_of 145 (Value.string (s.extract 4 6)); refine (lowRead_any _ _ (by omega)).mono ?_; rintro e w' ⟨rfl, rfl⟩) | (go_at_call_of 145 (Value.string (s.extract 6 8)); refine (lowRead_any _ _ (by omega)).mono ?_; rintro e w' ⟨rfl, rfl⟩) | (go_at_call_of 145 (Value.string (s.extract 8 12)); refine (lowRead_any _ _ (by omega)).mono ?_; rintro e w' ⟨rfl, rfl⟩) | (go_at_call_of 145 (Value.string (s.extract 12 16)); refine (lowRead_any _ _ (by omega)).mono ?_; rintro e w' ⟨rfl, rfl⟩))
    all_goals
      go_wp2_with fail
      go_meet
      refine ⟨rfl, ⟨?_, ?_, ?_, ?_, ?_⟩, ?_, ?_⟩
      · rw [ixLive, ← C1.out]; simp
      · rw [ixN, ← C2.out]; simp
      · rw [ixFar, ← C3.out]; simp
      · rw [ixSize, ← C4.out]; simp
      · rw [ixSum, ← C5.out]; simp
      · first | exact ((Below.refl _ _).alloc (Nat.le_refl _) _).drew | exact (((Below.refl _ _).alloc (Nat.le_refl _) _).setCell (by simp) _).drew
      · simp
  case rest =>
    obtain ⟨rfl, ⟨c0, c1, c2, c3, c4⟩, hb2, hz2⟩ := hcut
    clear z1 z2 z3 z4 z5 i1 i2 i3 i4 i5 C1 C2 C3 C4 C5
    obtain ⟨⟨r0, r1, r2, r3, r4⟩, rf, hB, hzr⟩ := HB1.out.below hb2
    have f0 := rf 0
    have f1 := rf 1
    have f2 := rf 2
    have f3 := rf 3
    have f4 := rf 4
    have HB : Hid (Below w.heap.size w wc) := hB
    have HFV : Hid (frontV s.data.toList = if ixOK s.data.toList = true then _ else _) := frontV.eq_1 s.data.toList
    have c20 : ixN s.data.toList ≠ 0 → s.size = 20 + 10 * ixN s.data.toList + 4 → ∀ wx : World, (Instr.slice 9 (.string s) (some (.int .i64 20)) (some (.int .i64 (20 + (ixN s.data.toList : Int) * 10))) none).run Tryz.prog wx = .ok (.string (S ((s.data.toList.drop 20).take (10 * ixN s.data.toList)))) wx := fun _ hz => cut_run s 20 (10 * ixN s.data.toList) (by omega) 20 (20 + (ixN s.data.toList : Int) * 10) rfl (by omega)
    clear rf hB hb2 HB1
    generalize ixLive s.data.toList = xl at *
    generalize ixFar s.data.toList = xf at *
    generalize ixSize s.data.toList = xs at *
    generalize ixSum s.data.toList = xm at *
    generalize ixN s.data.toList = n at *
    have hn10 : n ≤ 65536 := by omega
    rcases (show n = 0 ∨ (n ≠ 0 ∧ s.size ≠ 20 + 10 * n + 4) ∨ (n ≠ 0 ∧ s.size = 20 + 10 * n + 4) from by omega) with k1 | ⟨k1, k2⟩ | ⟨k1, k2⟩
    · have HV : Hid (frontV s.data.toList = .tuple #[.agg #[.int .i64 0, .int .i64 0, .int .i64 0, .int .i64 0, .int .i64 0], .string ⟨#[]⟩, .bool false]) := by
        show _ = _
        rw [HFV.out, if_neg (by rw [HOK.out]; simp [k1])]
      have tA : ((n : Int) == 0) = true := by rw [beq_iff_eq]; omega
      clear HFV HOK c20 k1
      go_wp2
      exact bodyPost_ret (v := .tuple #[.agg #[.int .i64 0, .int .i64 0, .int .i64 0, .int .i64 0, .int .i64 0], .string ⟨#[]⟩, .bool false]) (by simp [results, Tryz.results139, go_sem, r0, r1, r2, r3, r4]) rfl ⟨by rw [HV.out], ((((HB.out.setCell (Nat.le_refl _) _).setCell (Nat.le_refl _) _).setCell (Nat.le_refl _) _).setCell (Nat.le_refl _) _).setCell (Nat.le_refl _) _⟩
    · have HV : Hid (frontV s.data.toList = .tuple #[.agg #[.int .i64 0, .int .i64 0, .int .i64 0, .int .i64 0, .int .i64 0], .string ⟨#[]⟩, .bool false]) := by
        show _ = _
        rw [HFV.out, if_neg (by rw [HOK.out]; simp [k2])]
      have tA : ((n : Int) == 0) = false := by rw [beq_eq_false_iff_ne]; omega
      have tB : ((s.size : Int) != 20 + (n : Int) * 10 + 4) = true := by rw [bne_iff_ne]; omega
      clear HFV HOK c20 k1 k2
      go_wp2
      exact bodyPost_ret (v := .tuple #[.agg #[.int .i64 0, .int .i64 0, .int .i64 0, .int .i64 0, .int .i64 0], .string ⟨#[]⟩, .bool false]) (by simp [results, Tryz.results139, go_sem, r0, r1, r2, r3, r4]) rfl ⟨by rw [HV.out], ((((HB.out.setCell (Nat.le_refl _) _).setCell (Nat.le_refl _) _).setCell (Nat.le_refl _) _).setCell (Nat.le_refl _) _).setCell (Nat.le_refl _) _⟩
    · have HV : Hid (frontV s.data.toList = .tuple #[.agg #[.int .i64 xl, .int .i64 n, .int .i64 xf, .int .i64 xs, .int .i64 xm], .string (S ((s.data.toList.drop 20).take (10 * n))), .bool true]) := by
        show _ = _
        rw [HFV.out, if_pos (by rw [HOK.out]; simp [k1, k2])]
      have tA : ((n : Int) == 0) = false := by rw [beq_eq_false_iff_ne]; omega
      have tB : ((s.size : Int) != 20 + (n : Int) * 10 + 4) = false := by rw [bne_eq_false_iff_eq]; omega
      have c20' := c20 k1 k2
      generalize S ((s.data.toList.drop 20).take (10 * n)) = body at *
      have hwne : w.heap.size ≠ w1.heap.size := by omega
      have hwne2 : w1.heap.size ≠ w.heap.size := by omega
      clear HFV HOK c20 k1 k2 hN hz2 hzr
      go_wp2_with fail
      go_region_held3 (fun w' => w'.cell? ⟨w1.heap.size, 0, none⟩ = some (.int .i64 (xl : Int)) ∧ w'.cell? ⟨w1.heap.size, 1, none⟩ = some (.int .i64 (n : Int)) ∧ w'.cell? ⟨w1.heap.size, 2, none⟩ = some (.int .i64 (xf : Int)) ∧ w'.cell? ⟨w1.heap.size, 3, none⟩ = some (.int .i64 (xs : Int)) ∧ w'.cell? ⟨w1.heap.size, 4, none⟩ = some (.int .i64 (xm : Int))) (first | (simp [go_sem, hwne, hwne2, c0, c1, c2, c3, c4]; done)) (first | (fail))
      all_goals
        go_wp2
        exact bodyPost_ret (v := .tuple #[.agg #[.int .i64 xl, .int .i64 n, .int .i64 xf, .int .i64 xs, .int .i64 xm], .string body, .bool true]) (by simp [results, Tryz.results139, go_sem, r0, r1, r2, r3, r4]) rfl ⟨by rw [HV.out], (((((HB.out.setCell (Nat.le_refl _) _).setCell (Nat.le_refl _) _).setCell (Nat.le_refl _) _).setCell (Nat.le_refl _) _).setCell (Nat.le_refl _) _).drew⟩

theorem readFront_any (s : ByteArray) (w : World) (hs : s.size ≤ 140737488351232) (hH : HalvesAt w) :
    Calls Tryz.prog 139 #[.string s] w fun e w' => e = .returned (frontV s.data.toList) ∧ Below w.heap.size w w' := by
  have hl : s.data.toList.length = s.size := by simp
  by_cases h1 : 20 ≤ s.size
  · cases h2 : (s.data.toList.take 2 == [73, 88])
    · have hf : ixOK s.data.toList = false := by rw [ixOK, h2]; simp
      rw [frontV, hf]
      exact readFront_no s w hs hH (.inr (.inl ⟨h1, h2⟩))
    · cases h3 : sealedB (s.data.toList.take 20)
      · have hf : ixOK s.data.toList = false := by rw [ixOK, h3]; simp
        rw [frontV, hf]
        exact readFront_no s w hs hH (.inr (.inr ⟨h1, h2, h3⟩))
      · exact readFront_go s w hs hH h1 h2 h3
  · have hf : ixOK s.data.toList = false := by rw [ixOK]; simp; omega
    rw [frontV, hf]
    exact readFront_no s w hs hH (.inl (by omega))
end Go.Proofs.YtdhgebdbiehchaaGreatDoor
namespace Go.Proofs.YtdhgebdbiehchaaGreatDoor
open Go.RowKit
set_option linter.unusedSimpArgs false
set_option linter.unusedVariables false

set_option maxHeartbeats 800000 in
theorem sizeFor_any (len : Nat) (w : World) (hlen : len ≤ 2000) :
    Calls Tryz.prog 91 #[.int .i64 len] w fun e w' => e = .returned (.int .i64 (sizeL len : Nat)) ∧ w' = w := by
  have H12 : Hid (sizeF 12 len 4 = sizeL len) := rfl
  have hbd := sizeL_bound hlen
  generalize sizeL len = n at *
  go_enter Tryz.func91, Tryz.ntmps91
  go_wp2
  go_loop [3] (fun nn => ∃ (s f : Nat), nn = .int .i64 s ∧ (4 ≤ s ∧ s ≤ 5000) ∧ Hid (sizeF f len s = n) ∧ Hid (5 * len / 4 < s * 2 ^ f)) (fun nn => 5000 - (intOf nn).toNat)
  case atStart => exact ⟨4, 12, rfl, ⟨by omega, by omega⟩, H12, by show 5 * len / 4 < 4 * 2 ^ 12; omega⟩
  case round =>
    obtain ⟨s, f, rfl, ⟨h4, h5⟩, HS, HP⟩ := hrel
    by_cases hle : s ≤ 5 * len / 4
    · obtain ⟨f', rfl⟩ : ∃ f', f = f' + 1 := by
        cases f with
        | zero => have := HP.out; simp at this; omega
        | succ f' => exact ⟨f', rfl⟩
      have HS2 : Hid (sizeF f' len (2 * s) = n) := by
        show _ = _
        rw [← HS.out, sizeF, if_pos hle]
      have HP2 : Hid (5 * len / 4 < (2 * s) * 2 ^ f') := by
        show _ < _
        have := HP.out
        rw [Nat.pow_succ] at this
        rw [Nat.mul_comm 2 s, Nat.mul_assoc, Nat.mul_comm 2]; exact this
      have h52 : 2 * s ≤ 5000 := by omega
      clear HS HP
      go_wp2
      go_round
      case rel => exact ⟨2 * s, f', by congr 1; omega, ⟨by omega, h52⟩, HS2, HP2⟩
      case measure => first | (simp [intOf]; omega) | (simp [intOf])
    · have hsn : s = n := by rw [← HS.out, sizeF_stop hle]
      clear HS HP
      go_wp2
      go_ret
      exact ⟨ret_int (by first | rfl | rw [hsn]), rfl⟩

set_option maxHeartbeats 800000 in
theorem awayP_any (p : Option Addr) (n cap : Nat) (kind : Int) (x : Slt) (a : Nat) (w : World) (ha : a < n) (hn : n ≤ 5000) (hx : x.num < 4294967296) :
    Calls Tryz.prog 151 #[.slice p n cap, .agg #[.int .u8 kind, .int .i64 x.num, .int .i64 x.blk, .int .i64 x.no], .int .i64 a] w fun e w' => e = .returned (.int .i64 (awayN n x a : Nat)) ∧ Below w.heap.size w w' := by
  have HA : Hid (((a : Int) - (x.num : Int) % (n : Int) + (n : Int)) % (n : Int) = (awayN n x a : Nat)) := awayN_prog x ha
  have hne : ¬ n = 0 := by omega
  have hh : x.num % n < n := Nat.mod_lt _ (by omega)
  have hm : (x.num : Int) % (n : Int) = ((x.num % n : Nat) : Int) := by simp
  have htm : (x.num : Int).tmod (n : Int) = ((x.num % n : Nat) : Int) := rfl
  rw [hm] at HA
  generalize x.num % n = h at *
  go_enter Tryz.func151, Tryz.ntmps151
  go_wp2
  go_ret
  refine ⟨ret_int ?_, (Below.refl _ _).alloc (Nat.le_refl _) _⟩
  rw [← HA.out]

set_option maxRecDepth 100000 in
set_option maxHeartbeats 1600000 in
theorem checkB_any (v : Value) (l : List UInt8) (base : Nat) (w : World) (hown : w.ownsRow base 5 1 v l.length (cellsB l)) (hl : l.length ≤ 1000000000) (hH : HalvesAt w) :
    Calls Tryz.prog 181 #[v] w fun e w' => e = .returned (.int .u32 (crcN l : Nat)) ∧ w' = w := by
  have HH : Hid (HalvesAt w) := hH
  obtain ⟨p, c, rfl⟩ := own_len hown
  have HOWN : Hid (w.ownsRow base 5 1 (.slice p l.length c) l.length (cellsB l)) := hown
  clear hH hown
  go_enter Tryz.func181, Tryz.ntmps181
  go_wp2
  go_loop [3, 7] (fun c i => ∃ (k : Nat), k ≤ l.length ∧ i = .int .i64 k ∧ c = .int .u32 (crcRun (l.take k) : Nat)) (fun _ i => l.length - (intOf i).toNat)
  case atStart => exact ⟨0, Nat.zero_le _, rfl, rfl⟩
  case round =>
    obtain ⟨k, hk, rfl, rfl⟩ := hrel
    have hr := crcRun_lt (l.take k)
    by_cases hlt : k < l.length
    · have hcell : ∃ g, p = some ⟨g, 0, none⟩ ∧ w.cell? ⟨g, k, none⟩ = some (.int .u8 (l[k].toNat : Int)) := by
        obtain ⟨g, cap, he, _, _, hc⟩ := own_cellsN HOWN.out (by omega)
        simp at he
        refine ⟨g, he.1, ?_⟩
        rw [hc k (by omega)]
        simp [cellsB, hlt]
      obtain ⟨g, rfl, hcl⟩ := hcell
      have HS : Hid (crcRun (l.take (k + 1)) = nibStep (nibStep (crcRun (l.take k) ^^^ l[k].toNat))) := by
        show _ = _
        rw [List.take_succ_eq_append_getElem hlt, crcRun_snoc, nib_byte]
      have hc := l[k].toNat_lt
      have hx := u32_xor_nat (crcRun (l.take k)) l[k].toNat (by omega) (by omega)
      generalize crcRun (l.take k) = x at *
      have hy : x ^^^ l[k].toNat < 4294967296 := Nat.xor_lt_two_pow (n := 32) (by omega) (by omega)
      generalize l[k].toNat = lk at *
      generalize x ^^^ lk = y at *
      have hz := nibStep_lt hy
      have a1 := and_15 hy
      have a2 := and_15 hz
      have b1 : (((y % 16 : Nat) : Int)) < 16 := by omega
      have b2 : (((nibStep y % 16 : Nat) : Int)) < 16 := by omega
      have c1 := HH.out.2 (y % 16) (by omega)
      have c2 := HH.out.2 (nibStep y % 16) (by omega)
      have x1 := nib_xor hy
      have x2 := nib_xor hz
      generalize halvesL.getD (y % 16) 0 = t1 at *
      generalize halvesL.getD (nibStep y % 16) 0 = t2 at *
      generalize nibStep (nibStep y) = u at *
      generalize nibStep y = z at *
      generalize hq1 : y % 16 = q1 at *
      generalize hq2 : z % 16 = q2 at *
      clear hq1 hq2
      go_wp2
      go_round
      case rel => exact ⟨k + 1, by omega, by go_num, by rw [HS.out]⟩
      case measure => simp [intOf]; omega
    · have HS : Hid (crcRun (l.take k) = crcRun l) := by
        show _ = _
        rw [List.take_of_length_le (by omega)]
      generalize crcRun (l.take k) = x at *
      have HX : Hid (bits BinOp.xor IntKind.u32 IntKind.u32.max (x : Int) = ((x ^^^ 4294967295 : Nat) : Int)) := by
        show _ = _
        rw [show IntKind.u32.max = ((4294967295 : Nat) : Int) from rfl, u32_xor_nat _ _ (by omega) (by omega), Nat.xor_comm]
      go_wp2
      go_ret
      exact ⟨ret_int (by rw [HX.out, crcN, ← HS.out]), rfl⟩

set_option maxHeartbeats 800000 in
theorem seal_any (v : Value) (l : List UInt8) (base : Nat) (w : World) (hown : w.ownsRow base 5 1 v l.length (cellsB l)) (hbase : base ≤ w.heap.size) (hl : l.length ≤ 1000000) (hH : HalvesAt w) :
    Calls Tryz.prog 130 #[v] w fun e w' => ∃ v', e = .returned v' ∧ w'.ownsRow base 5 1 v' (sealL l).length (cellsB (sealL l)) ∧ Below base w w' := by
  have hc := crcN_lt l
  go_enter Tryz.func130, Tryz.ntmps130
  go_wp2_with fail
  refine (checkB_any v l base w hown (by omega) hH).mono ?_
  rintro e w1 ⟨rfl, rfl⟩
  have hw : IntKind.i64.wrap ((crcN l : Nat) : Int) = ((crcN l : Nat) : Int) := by rw [IntKind.wrap_i64]; omega
  have HAL : Hid _ := appendLow_any v l ((crcN l : Nat) : Int) 4 w1 base (by omega) (by omega) (by omega) hown hbase (by omega)
  have HSE : Hid (sealL l = l ++ lowL (crcN l) 4) := rfl
  clear hown
  go_wp2_with fail
  refine Calls.mono HAL.out ?_
  rintro e w2 ⟨v', rfl, hrow, hb⟩
  rw [Int.toNat_natCast] at hrow
  have HROW : Hid (w2.ownsRow base 5 1 v' (sealL l).length (cellsB (sealL l))) := by
    show World.ownsRow _ _ _ _ _ _ _
    rw [sealL_length, HSE.out]; exact hrow
  clear hrow
  go_wp2
  go_ret
  exact ⟨_, rfl, HROW.out, hb⟩

theorem Below.halves {base : Nat} {w w' : World} (h : HalvesAt w) (hb : Below base w w') (hg : 6 < base) : HalvesAt w' := h.below hb hg

/-- The front's box. -/
def FrontAt (w W : World) (a1 a2 a3 a4 a5 : Nat) : Prop := (W.cell? ⟨w.heap.size, 0, none⟩ = some (.int .i64 a1) ∧ W.cell? ⟨w.heap.size, 1, none⟩ = some (.int .i64 a2) ∧ W.cell? ⟨w.heap.size, 2, none⟩ = some (.int .i64 a3) ∧ W.cell? ⟨w.heap.size, 3, none⟩ = some (.int .i64 a4) ∧ W.cell? ⟨w.heap.size, 4, none⟩ = some (.int .i64 a5)) ∧ Below w.heap.size w W ∧ w.heap.size + 1 ≤ W.heap.size
theorem FrontAt.below {w W W' : World} {a1 a2 a3 a4 a5 : Nat} (h : FrontAt w W a1 a2 a3 a4 a5) (hb : Below (w.heap.size + 1) W W') : FrontAt w W' a1 a2 a3 a4 a5 := by
  obtain ⟨⟨h0, h1, h2, h3, h4⟩, hB, hz⟩ := h
  have hs : w.heap.size < w.heap.size + 1 := Nat.lt_succ_self _
  exact ⟨⟨(hb.cell (p := ⟨w.heap.size, 0, none⟩) hs).trans h0, (hb.cell (p := ⟨w.heap.size, 1, none⟩) hs).trans h1, (hb.cell (p := ⟨w.heap.size, 2, none⟩) hs).trans h2, (hb.cell (p := ⟨w.heap.size, 3, none⟩) hs).trans h3, (hb.cell (p := ⟨w.heap.size, 4, none⟩) hs).trans h4⟩, hB.trans (hb.mono (Nat.le_succ _)), Nat.le_trans hz hb.size⟩

end Go.Proofs.YtdhgebdbiehchaaGreatDoor
