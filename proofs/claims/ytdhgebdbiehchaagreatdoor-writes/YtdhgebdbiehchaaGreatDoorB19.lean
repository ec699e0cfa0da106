/- The contract of Store.Create. The contract of Store.Create, whole. The statement's World in memory: its disks, side by side; every block has a colour: the statement's own (0), nobody's (1), those of the j-th disk (2j+2), of the document's j-th (2j+3). The statement's calls: one of a disk, and the document's. The statement's does: what it keeps; both calls of a step, laid for the walks. The contracts of the document's store: falls, step. The contracts of the document's store: step, appends, syncs. -/
import Derived.Test.YtdhgebdbiehchaaGreatDoorB18
import Derived.Test.YtdhgebdbiehchaaGreatDoorB03
namespace Go.Proofs.YtdhgebdbiehchaaGreatDoor
open Go.RowKit Go.Maps
set_option linter.unusedSimpArgs false
set_option linter.unusedVariables false

theorem crS_next {b : Nat} {x y z : Value} {wx w' : World} (h : wx.cell? ⟨b, 0, none⟩ = some x ∧ wx.cell? ⟨b, 1, none⟩ = some y ∧ wx.cell? ⟨b, 2, none⟩ = some z) (hb : Below wx.heap.size wx w') : w'.cell? ⟨b, 0, none⟩ = some x ∧ w'.cell? ⟨b, 1, none⟩ = some y ∧ w'.cell? ⟨b, 2, none⟩ = some z := by
  obtain ⟨h1, h4, h5⟩ := h
  have f : ∀ {k j : Nat} {x : Value}, wx.cell? ⟨k, j, none⟩ = some x → w'.cell? ⟨k, j, none⟩ = some x := fun {k j x} hx => by
    have hlt := cell_lt (p := ⟨k, j, none⟩) hx
    rw [← hx]
    unfold World.cell?
    rw [hb.block k hlt]
  exact ⟨f h1, f h4, f h5⟩
theorem crS_chg {b : Nat} {x y z : Value} {G : Nat → Prop} {wx w' : World} (h : wx.cell? ⟨b, 0, none⟩ = some x ∧ wx.cell? ⟨b, 1, none⟩ = some y ∧ wx.cell? ⟨b, 2, none⟩ = some z) (hb : Chg G wx w') (hn : ¬ G b) : w'.cell? ⟨b, 0, none⟩ = some x ∧ w'.cell? ⟨b, 1, none⟩ = some y ∧ w'.cell? ⟨b, 2, none⟩ = some z := by
  obtain ⟨h1, h4, h5⟩ := h
  have hlt := cell_lt (p := ⟨b, 0, none⟩) h1
  have f : ∀ {j : Nat} {x : Value}, wx.cell? ⟨b, j, none⟩ = some x → w'.cell? ⟨b, j, none⟩ = some x := fun {j x} hx => by
    rw [← hx]
    unfold World.cell?
    rw [hb.keep b hlt hn]
  exact ⟨f h1, f h4, f h5⟩
set_option maxRecDepth 100000 in
set_option maxHeartbeats 3200000 in
theorem create_new (E : Sent) (n : Nat) (G : Nat → Prop) (bs : Nat) (d : Dk) (q : StP) (a b c : Nat) (w : World) (hE : Env0 n w E) (hG : ∀ k, G k → n ≤ k ∧ k < w.heap.size) (hS : StoreAt w G bs d q) (hok : DkOk d) (hw : wellB a b c = true) (hd : d.down = false) (hf : d.f0.isSome = false) :
    Calls Tryz.prog 36 #[.pointer (some ⟨bs, 0, none⟩), .agg #[.int .i64 (a : Int), .int .i64 (b : Int), .int .i64 (c : Int)]] w fun e w' => e = .returned (.int .i64 (d.create a b c).1) ∧ Done E G bs w (d.create a b c).2 w' := by
  have hwb := hw
  unfold wellB at hwb
  simp only [Bool.and_eq_true, decide_eq_true_eq] at hwb
  obtain ⟨W, hW⟩ : ∃ W : World, W = w.alloc (.cells #[.int .i64 (a : Int), .int .i64 (b : Int), .int .i64 (c : Int)] 29) := ⟨_, rfl⟩
  have hB0 : Below w.heap.size w W := by rw [hW]; exact (Below.refl _ _).alloc (Nat.le_refl _) _
  have hx : Bx W w.heap.size #[.int .i64 (a : Int), .int .i64 (b : Int), .int .i64 (c : Int)] 29 := by rw [hW]; exact bx_new w _ _ rfl
  have hzW : W.heap.size = w.heap.size + 1 := by rw [hW]; simp
  have HIC := isConfig_any a b c W
  rw [hw] at HIC
  have HC0 : Hid (∀ w1 : World, Below (w.heap.size + 1) W w1 → w1.cell? ⟨bs, 0, none⟩ = some (.pointer (some ⟨q.bd, 0, none⟩)) ∧ (w1.cell? ⟨w.heap.size, 0, none⟩ = some (.int .i64 (a : Int)) ∧ w1.cell? ⟨w.heap.size, 1, none⟩ = some (.int .i64 (b : Int)) ∧ w1.cell? ⟨w.heap.size, 2, none⟩ = some (.int .i64 (c : Int))) ∧ Below w.heap.size w w1 ∧ w.heap.size + 1 ≤ w1.heap.size) := fun w1 hb => by
    have hb1 : Below w.heap.size w w1 := hB0.trans (hb.mono (by omega))
    have h1 := hx.below hb (by omega)
    exact ⟨(hS.box.below hb1 hS.box.lt).cell (j := 0) rfl, ⟨h1.cell (j := 0) rfl, h1.cell (j := 1) rfl, h1.cell (j := 2) rfl⟩, hb1, by have := hb.size; omega⟩
  have HHA : Hid (∀ w1 : World, Below w.heap.size w w1 → _) := fun w1 hb => has_any E n q.Fd q.bd d q.p ⟨#[108, 111, 103]⟩ w1 (hE.chg (F := fun _ => False) (Chg.of_below hb) (fun _ h => h.elim)) (hS.disk.below hb) (by decide)
  rw [hd] at HHA
  have hfn : (d.file (nameN (⟨#[108, 111, 103]⟩ : ByteArray).data.toList)).isSome = false := hf
  rw [hfn] at HHA
  simp only [Bool.false_eq_true, if_false, Bool.not_false, Bool.true_and] at HHA
  have HHD : Hid (∀ wx : World, Below w.heap.size w wx → Calls Tryz.prog 71 #[.agg #[.int .i64 (a : Int), .int .i64 (b : Int), .int .i64 (c : Int)]] wx fun e w' => ∃ g cp, e = .returned (.slice (some ⟨g, 0, none⟩) (headL a b c).length cp) ∧ w'.ownsRow 0 5 1 (.slice (some ⟨g, 0, none⟩) (headL a b c).length cp) (headL a b c).length (cellsB (headL a b c)) ∧ wx.heap.size ≤ g ∧ Below wx.heap.size wx w') := fun wx hb => by
    refine (recHeadB_any a b c wx (by omega) (by omega) (by omega) (hE.env.halves.below hb hE.env.halves.1)).mono ?_
    rintro e w' ⟨v, rfl, hr, hb'⟩
    obtain ⟨g, cp, rfl, hgl, _⟩ := hr.form (by rw [headL_length]; omega)
    exact ⟨g, cp, rfl, own_lower hr (Nat.zero_le _), hgl, hb'⟩
  have HAP : Hid (∀ (w1 : World) (g cp : Nat), w1.ownsRow 0 5 1 (.slice (some ⟨g, 0, none⟩) (headL a b c).length cp) (headL a b c).length (cellsB (headL a b c)) → Calls Tryz.prog 55 #[.string ⟨#[108, 111, 103]⟩, .slice (some ⟨g, 0, none⟩) (headL a b c).length cp] w1 (Made w1 (stAppend 0 (headL a b c)) (some g))) := fun w1 g cp hr => append_log g cp _ w1 hr (by rw [headL_length]; omega) (by rw [headL_length]; omega)
  have HA : Hid (d.create a b c = d.opening a [stMake 0, stAppend 0 (headL a b c), stSync 0]) := create_makes hw hd hf
  have HE : Hid (Env0 n w E) := hE
  have HG : Hid (∀ k, G k → n ≤ k ∧ k < w.heap.size) := hG
  have HS : Hid (StoreAt w G bs d q) := hS
  have HOK : Hid (DkOk d) := hok
  rw [hzW] at HIC
  subst hW
  have HNG : Hid (¬ G w.heap.size) := fun h => by have := (HG.out _ h).2; omega
  clear hE hG hS hok hB0 hx hzW hfn hf hwb
  go_enter Tryz.func36, Tryz.ntmps36
  go_wp2_with (first | (go_at_call 68; refine HIC.mono ?_; rintro e w1 ⟨rfl, hb⟩; obtain ⟨k0, kk, hbb, hzz⟩ := HC0.out w1 hb; have HB1 : Hid (Below (w.heap.size + 1) _ w1) := hb; have HB : Hid (Below w.heap.size w w1) := hbb; clear hb hbb kk) | (go_at_call 69; refine (HHA.out w1 HB.out).mono ?_; rintro e w2 ⟨ev, rfl, hf, hb⟩; obtain rfl := fault_nil hf; obtain ⟨_, kk, hbb2, _⟩ := HC0.out w2 (HB1.out.trans (hb.mono hzz)); have HB2 : Hid (Below w.heap.size w w2) := hbb2; clear hf hb k0 hbb2))
  go_region_held3 (fun w' => w'.cell? ⟨w.heap.size, 0, none⟩ = some (.int .i64 (a : Int)) ∧ w'.cell? ⟨w.heap.size, 1, none⟩ = some (.int .i64 (b : Int)) ∧ w'.cell? ⟨w.heap.size, 2, none⟩ = some (.int .i64 (c : Int))) (first | (exact kk) | (assumption) | (exact crS_next (by assumption) (by assumption)) | (exact crS_next (by assumption) ((Below.refl _ _).alloc (Nat.le_refl _) _)) | (exact crS_chg (by assumption) (by assumption) HNG.out)) (first | (go_at_call 54; refine (make_log _).mono ?_; rintro e wm ⟨sa, sa2, ka, ca, rfl, hTa, hba⟩) | (go_at_call 71; refine (HHD.out wm ?_).mono ?_; exact HB2.out.drew.trans (hba.mono HB2.out.size); rintro e wh ⟨g, cp, rfl, hrow, hgl, hbh⟩) | (go_at_call 55; refine (HAP.out wh g cp hrow).mono ?_; rintro e wa ⟨sb, sb2, kb, cb, rfl, hTb, hbb⟩) | (go_at_call 43; refine (sync_log wa).mono ?_; rintro e ws ⟨sc, sc2, kc, cc, rfl, hTc, hbc⟩) | (go_at_call 70; refine (create_call HE.out HG.out HS.out HOK.out hd HB2.out.drew hTa hba hbh (Nat.le_trans HB2.out.size (Nat.le_trans hba.size hgl)) hTb hbb hTc hbc).mono ?_; rintro e wo ⟨rfl, hdn, hchg⟩))
  all_goals
    go_wp2
    go_ret
    exact ⟨by rw [HA.out]; rfl, by rw [HA.out]; exact hdn⟩
end Go.Proofs.YtdhgebdbiehchaaGreatDoor
namespace Go.Proofs.YtdhgebdbiehchaaGreatDoor
open Go.RowKit Go.Maps
set_option linter.unusedVariables false

theorem create_any (E : Sent) (n : Nat) (G : Nat → Prop) (bs : Nat) (d : Dk) (q : StP) (a b c : Int) (w : World) (hE : Env0 n w E) (hG : ∀ k, G k → n ≤ k ∧ k < w.heap.size) (hS : StoreAt w G bs d q) (hok : DkOk d) :
    Calls Tryz.prog 36 #[.pointer (some ⟨bs, 0, none⟩), .agg #[.int .i64 a, .int .i64 b, .int .i64 c]] w fun e w' => e = .returned (.int .i64 (d.create a b c).1) ∧ Done E G bs w (d.create a b c).2 w' := by
  by_cases h : wellB a b c = false ∨ d.down = true ∨ d.f0.isSome = true
  · exact create_not E n G bs d q a b c w hE hS h
  · have hw : wellB a b c = true := by cases hh : wellB a b c; exact absurd (.inl hh) h; rfl
    have hd : d.down = false := by cases hh : d.down; rfl; exact absurd (.inr (.inl hh)) h
    have hf : d.f0.isSome = false := by cases hh : d.f0.isSome; rfl; exact absurd (.inr (.inr hh)) h
    have hwb := hw
    unfold wellB at hwb
    simp only [Bool.and_eq_true, decide_eq_true_eq] at hwb
    obtain ⟨a', rfl⟩ := Int.eq_ofNat_of_zero_le (show 0 ≤ a by omega)
    obtain ⟨b', rfl⟩ := Int.eq_ofNat_of_zero_le (show 0 ≤ b by omega)
    obtain ⟨c', rfl⟩ := Int.eq_ofNat_of_zero_le (show 0 ≤ c by omega)
    exact create_new E n G bs d q a' b' c' w hE hG hS hok hw hd hf
end Go.Proofs.YtdhgebdbiehchaaGreatDoor
namespace Go.Proofs.YtdhgebdbiehchaaGreatDoor
open Go.RowKit Go.Maps
set_option linter.unusedSimpArgs false
set_option linter.unusedVariables false

/-- The blocks of one colour. -/
def Rg (κ : Nat → Nat) (n : Nat) (W : World) (c : Nat) (k : Nat) : Prop := κ k = c ∧ n ≤ k ∧ k < W.heap.size
theorem Rg.le {κ : Nat → Nat} {n c : Nat} {W W' : World} (h : W.heap.size ≤ W'.heap.size) : ∀ k, Rg κ n W c k → Rg κ n W' c k := fun k hk => ⟨hk.1, hk.2.1, Nat.lt_of_lt_of_le hk.2.2 h⟩
/-- What is new has this colour. -/
def recol (κ : Nat → Nat) (w w' : World) (c : Nat) (k : Nat) : Nat := if w.heap.size ≤ k ∧ k < w'.heap.size then c else κ k
theorem recol_old {κ : Nat → Nat} {w w' : World} {c k : Nat} (h : k < w.heap.size) : recol κ w w' c k = κ k := by unfold recol; rw [if_neg (by omega)]
theorem recol_out {κ : Nat → Nat} {w w' : World} {c k : Nat} (h : w'.heap.size ≤ k) : recol κ w w' c k = κ k := by unfold recol; rw [if_neg (by omega)]
theorem recol_new {κ : Nat → Nat} {w w' : World} {c k : Nat} (h : w.heap.size ≤ k) (h' : k < w'.heap.size) : recol κ w w' c k = c := by unfold recol; rw [if_pos ⟨h, h'⟩]
theorem Rg.toNew {κ : Nat → Nat} {n c c' : Nat} {w w' : World} (hs : w.heap.size ≤ w'.heap.size) : ∀ k, Rg κ n w c k → Rg (recol κ w w' c') n w' c k := fun k hk => ⟨(recol_old hk.2.2).trans hk.1, hk.2.1, Nat.lt_of_lt_of_le hk.2.2 hs⟩
theorem Rg.fx {κ : Nat → Nat} {n c : Nat} {w w' : World} (hn : n ≤ w.heap.size) (hs : w.heap.size ≤ w'.heap.size) : ∀ k, Fx (Rg κ n w c) w w' k → Rg (recol κ w w' c) n w' c k := by
  rintro k (hk | hk)
  · exact Rg.toNew hs k hk
  · exact ⟨recol_new hk.1 hk.2, by omega, hk.2⟩

structure PairAt (W : World) (κ : Nat → Nat) (n j : Nat) (d : Dk × Dk) (p : Nat × Nat × Nat) : Prop where
  box : Bx W p.1 #[.pointer (some ⟨p.2.1, 0, none⟩), .pointer (some ⟨p.2.2, 0, none⟩)] 198
  col : Rg κ n W 0 p.1
  px : ∃ q, StoreAt W (Rg κ n W (2 * j + 2)) p.2.1 d.1 q
  py : ∃ r, RefAt W (Rg κ n W (2 * j + 3)) p.2.2 d.2 r
structure LawP where
  pv : Value
  ps : List (Nat × Nat × Nat)
  isv : Value
  imv : Value
  next : Int
/-- The lists that came out: each is full of its mark. -/
def markC (s : ByteArray) : Nat → List Value
  | 0 => []
  | n + 1 => .string s :: .string ⟨#[]⟩ :: markC s n
structure Mark where
  v : Value
  s : ByteArray
  n : Nat
structure MarksAt (W : World) (κ : Nat → Nat) (n bw : Nat) (isv imv : Value) (ls : List Mark) : Prop where
  is : W.ownsRow 0 32 1 isv ls.length (ls.map (·.v))
  im : W.ownsRow 0 9 1 imv ls.length (ls.map fun m => .string m.s)
  cis : ∀ g, isv.ownBlock = some g → Rg κ n W 0 g
  cim : ∀ g, imv.ownBlock = some g → Rg κ n W 0 g
  each : ∀ m ∈ ls, W.ownsRow 0 54 2 m.v m.n (markC m.s m.n) ∧ (∀ g, m.v.ownBlock = some g → Rg κ n W 0 g)
structure LawAt (W : World) (κ : Nat → Nat) (n bw : Nat) (ds : List (Dk × Dk)) (P : LawP) (ls : List Mark) : Prop where
  box : Bx W bw #[P.pv, P.isv, P.imv, .int .i64 P.next] 65
  col : Rg κ n W 0 bw
  row : W.ownsRow 0 118 1 P.pv ds.length (P.ps.map fun p => .pointer (some ⟨p.1, 0, none⟩))
  len : P.ps.length = ds.length
  crow : ∀ g, P.pv.ownBlock = some g → Rg κ n W 0 g
  pairs : ∀ (j : Nat) (d : Dk × Dk) (p : Nat × Nat × Nat), ds[j]? = some d → P.ps[j]? = some p → PairAt W κ n j d p
  marks : MarksAt W κ n bw P.isv P.imv ls
  out : ∀ k, W.heap.size ≤ k → κ k = 1
theorem PairAt.kept {W W' : World} {κ κ' : Nat → Nat} {n j : Nat} {d : Dk × Dk} {p : Nat × Nat × Nat} {K : Nat → Prop} (h : PairAt W κ n j d p) (hc : Chg K W W') (hκ : ∀ k, k < W.heap.size → κ' k = κ k) (hK : ∀ k c, Rg κ n W c k → c = 0 ∨ c = 2 * j + 2 ∨ c = 2 * j + 3 → ¬ K k) : PairAt W' κ' n j d p := by
  have hr : ∀ c k, Rg κ n W c k → Rg κ' n W' c k := fun c k hk => ⟨(hκ k hk.2.2).trans hk.1, hk.2.1, Nat.lt_of_lt_of_le hk.2.2 hc.size⟩
  obtain ⟨q, hq⟩ := h.px
  obtain ⟨r, hr'⟩ := h.py
  exact ⟨h.box.chg hc (hK _ _ h.col (.inl rfl)), hr _ _ h.col, ⟨q, (hq.keep hc (fun k hk => hK k _ hk (.inr (.inl rfl)))).mono (hr _)⟩, ⟨r, (hr'.kept hc (fun k hk => hK k _ hk (.inr (.inr rfl)))).mono (hr _)⟩⟩
theorem MarksAt.kept {W W' : World} {κ κ' : Nat → Nat} {n bw : Nat} {isv imv : Value} {ls : List Mark} {K : Nat → Prop} (h : MarksAt W κ n bw isv imv ls) (hc : Chg K W W') (hκ : ∀ k, k < W.heap.size → κ' k = κ k) (hK : ∀ k, Rg κ n W 0 k → ¬ K k) : MarksAt W' κ' n bw isv imv ls := by
  have hr : ∀ c k, Rg κ n W c k → Rg κ' n W' c k := fun c k hk => ⟨(hκ k hk.2.2).trans hk.1, hk.2.1, Nat.lt_of_lt_of_le hk.2.2 hc.size⟩
  exact ⟨own_chg h.is hc (fun g e => hK _ (h.cis g e)), own_chg h.im hc (fun g e => hK _ (h.cim g e)), fun g e => hr _ _ (h.cis g e), fun g e => hr _ _ (h.cim g e),
    fun m hm => ⟨own_chg (h.each m hm).1 hc (fun g e => hK _ ((h.each m hm).2 g e)), fun g e => hr _ _ ((h.each m hm).2 g e)⟩⟩
/-- The world has grown: nothing that is ours has turned. -/
theorem LawAt.kept {W W' : World} {κ : Nat → Nat} {n bw : Nat} {ds : List (Dk × Dk)} {P : LawP} {ls : List Mark} {K : Nat → Prop} (h : LawAt W κ n bw ds P ls) (hc : Chg K W W') (hK : ∀ k, n ≤ k → k < W.heap.size → κ k ≠ 1 → ¬ K k) : LawAt W' κ n bw ds P ls := by
  have hr : ∀ c k, Rg κ n W c k → Rg κ n W' c k := fun c k hk => ⟨hk.1, hk.2.1, Nat.lt_of_lt_of_le hk.2.2 hc.size⟩
  have h0 : ∀ k, Rg κ n W 0 k → ¬ K k := fun k hk => hK k hk.2.1 hk.2.2 (by rw [hk.1]; decide)
  exact ⟨h.box.chg hc (h0 _ h.col), hr _ _ h.col, own_chg h.row hc (fun g e => h0 _ (h.crow g e)), h.len, fun g e => hr _ _ (h.crow g e),
    fun j d p hd hp => (h.pairs j d p hd hp).kept hc (fun _ _ => rfl) (fun k c hk e => hK k hk.2.1 hk.2.2 (by rw [hk.1]; omega)), h.marks.kept hc (fun _ _ => rfl) h0, fun k hk => h.out k (Nat.le_trans hc.size hk)⟩
theorem LawAt.below {W W' : World} {κ : Nat → Nat} {n bw : Nat} {ds : List (Dk × Dk)} {P : LawP} {ls : List Mark} (h : LawAt W κ n bw ds P ls) (hb : Below W.heap.size W W') : LawAt W' κ n bw ds P ls :=
  h.kept (K := fun _ => False) (Chg.of_below hb) (fun _ _ _ _ h => h)
theorem getElem?_set_cases {α : Type} {l : List α} {j i : Nat} {a x : α} (h : (l.set j a)[i]? = some x) : (i = j ∧ x = a) ∨ (i ≠ j ∧ l[i]? = some x) := by
  rw [List.getElem?_set] at h
  by_cases e : j = i
  · rw [if_pos e] at h
    split at h
    · cases h; exact .inl ⟨e.symm, rfl⟩
    · cases h
  · rw [if_neg e] at h; exact .inr ⟨fun e' => e e'.symm, h⟩
/-- A call of the j-th disk. -/
theorem LawAt.didX {w w' : World} {κ : Nat → Nat} {n bw : Nat} {ds : List (Dk × Dk)} {P : LawP} {ls : List Mark} {E : Sent} {j : Nat} {d : Dk × Dk} {p : Nat × Nat × Nat} {d' : Dk} (h : LawAt w κ n bw ds P ls) (hn : n ≤ w.heap.size) (hd : ds[j]? = some d) (hp : P.ps[j]? = some p)
    (hD : Done E (Rg κ n w (2 * j + 2)) p.2.1 w d' w') : LawAt w' (recol κ w w' (2 * j + 2)) n bw (ds.set j (d', d.2)) P ls := by
  obtain ⟨⟨q, hq⟩, hc⟩ := hD
  have hs := hc.size
  have hκ : ∀ k, k < w.heap.size → recol κ w w' (2 * j + 2) k = κ k := fun k hk => recol_old hk
  have hr : ∀ c k, Rg κ n w c k → Rg (recol κ w w' (2 * j + 2)) n w' c k := fun c k hk => Rg.toNew hs k hk
  have hK : ∀ k c, c ≠ 2 * j + 2 → Rg κ n w c k → ¬ Rg κ n w (2 * j + 2) k := fun k c hne h1 h2 => hne (h1.1.symm.trans h2.1)
  refine ⟨h.box.chg hc (hK _ 0 (by omega) h.col), hr _ _ h.col, ?_, by rw [h.len, List.length_set], fun g e => hr _ _ (h.crow g e), ?_, h.marks.kept hc hκ (fun k hk => hK k 0 (by omega) hk), fun k hk => (recol_out hk).trans (h.out k (Nat.le_trans hs hk))⟩
  · rw [List.length_set]; exact own_chg h.row hc (fun g e => hK _ 0 (by omega) (h.crow g e))
  · intro i d1 p1 h1 h2
    rcases getElem?_set_cases h1 with ⟨rfl, rfl⟩ | ⟨hne, h1⟩
    · rw [hp] at h2
      cases h2
      have hpr := h.pairs i d p hd hp
      obtain ⟨r, hr'⟩ := hpr.py
      exact ⟨hpr.box.chg hc (hK _ 0 (by omega) hpr.col), hr _ _ hpr.col, ⟨q, hq.mono (Rg.fx hn hs)⟩, ⟨r, (hr'.kept hc (fun k hk => hK k _ (by omega) hk)).mono (hr _)⟩⟩
    · exact (h.pairs i d1 p1 h1 h2).kept hc hκ (fun k c hk e => hK k c (by omega) hk)
/-- A call of the document's j-th disk. -/
theorem LawAt.didY {w w' : World} {κ : Nat → Nat} {n bw : Nat} {ds : List (Dk × Dk)} {P : LawP} {ls : List Mark} {j : Nat} {d : Dk × Dk} {p : Nat × Nat × Nat} {d' : Dk} (h : LawAt w κ n bw ds P ls) (hn : n ≤ w.heap.size) (hd : ds[j]? = some d) (hp : P.ps[j]? = some p)
    (hD : RDone (Rg κ n w (2 * j + 3)) p.2.2 w d' w') : LawAt w' (recol κ w w' (2 * j + 3)) n bw (ds.set j (d.1, d')) P ls := by
  obtain ⟨⟨q, hq⟩, hc⟩ := hD
  have hs := hc.size
  have hκ : ∀ k, k < w.heap.size → recol κ w w' (2 * j + 3) k = κ k := fun k hk => recol_old hk
  have hr : ∀ c k, Rg κ n w c k → Rg (recol κ w w' (2 * j + 3)) n w' c k := fun c k hk => Rg.toNew hs k hk
  have hK : ∀ k c, c ≠ 2 * j + 3 → Rg κ n w c k → ¬ Rg κ n w (2 * j + 3) k := fun k c hne h1 h2 => hne (h1.1.symm.trans h2.1)
  refine ⟨h.box.chg hc (hK _ 0 (by omega) h.col), hr _ _ h.col, ?_, by rw [h.len, List.length_set], fun g e => hr _ _ (h.crow g e), ?_, h.marks.kept hc hκ (fun k hk => hK k 0 (by omega) hk), fun k hk => (recol_out hk).trans (h.out k (Nat.le_trans hs hk))⟩
  · rw [List.length_set]; exact own_chg h.row hc (fun g e => hK _ 0 (by omega) (h.crow g e))
  · intro i d1 p1 h1 h2
    rcases getElem?_set_cases h1 with ⟨rfl, rfl⟩ | ⟨hne, h1⟩
    · rw [hp] at h2
      cases h2
      have hpr := h.pairs i d p hd hp
      obtain ⟨r, hr'⟩ := hpr.px
      exact ⟨hpr.box.chg hc (hK _ 0 (by omega) hpr.col), hr _ _ hpr.col, ⟨r, (hr'.keep hc (fun k hk => hK k _ (by omega) hk)).mono (hr _)⟩, ⟨q, hq.mono (Rg.fx hn hs)⟩⟩
    · exact (h.pairs i d1 p1 h1 h2).kept hc hκ (fun k c hk e => hK k c (by omega) hk)

/-- All that a script keeps: the disks are alike, and right; nd: so many there are; Fr: blocks that nobody turns; m: may lists have come out? c: so many calls at most gave one. -/
def Inv (E : Sent) (n bw : Nat) (m : Bool) (nd c : Nat) (Fr : Nat → Prop) (W : World) : Prop :=
  ∃ κ ds P ls, LawAt W κ n bw ds P ls ∧ Env0 n W E ∧ (∀ d ∈ ds, d.1 = d.2 ∧ DkOk d.1) ∧ (m = false → ls = []) ∧ ds.length = nd ∧ ls.length ≤ 4 * c ∧ (∀ k, Fr k → κ k = 1 ∧ k < W.heap.size)
/-- What a step may turn. -/
def Mv (n : Nat) (Fr : Nat → Prop) (k : Nat) : Prop := n ≤ k ∧ ¬ Fr k
theorem Inv.below {E : Sent} {n bw nd c : Nat} {m : Bool} {Fr : Nat → Prop} {W W' : World} (h : Inv E n bw m nd c Fr W) (hb : Below W.heap.size W W') : Inv E n bw m nd c Fr W' := by
  obtain ⟨κ, ds, P, ls, h1, h2, h3, h4, h5, h6, h7⟩ := h
  exact ⟨κ, ds, P, ls, h1.below hb, h2.below (hb.mono h2.le), h3, h4, h5, h6, fun k hk => ⟨(h7 k hk).1, Nat.lt_of_lt_of_le (h7 k hk).2 hb.size⟩⟩
theorem Inv.drop {E : Sent} {n bw nd c : Nat} {m : Bool} {Fr : Nat → Prop} {W : World} (h : Inv E n bw m nd c Fr W) : Inv E n bw m nd c (fun _ => False) W := by
  obtain ⟨κ, ds, P, ls, h1, h2, h3, h4, h5, h6, h7⟩ := h
  exact ⟨κ, ds, P, ls, h1, h2, h3, h4, h5, h6, fun _ h => h.elim⟩
/-- A new block that nobody turns. -/
theorem Inv.hold {E : Sent} {n bw nd c : Nat} {m : Bool} {W W' : World} (h : Inv E n bw m nd c (fun _ => False) W) (hb : Below W.heap.size W W') {g : Nat} (h1 : W.heap.size ≤ g) (h2 : g < W'.heap.size) : Inv E n bw m nd c (fun k => k = g) W' := by
  have h0 := h
  obtain ⟨κ, ds, P, ls, a1, a2, a3, a4, a5, a6, a7⟩ := h0
  exact ⟨κ, ds, P, ls, a1.below hb, a2.below (hb.mono a2.le), a3, a4, a5, a6, fun k hk => ⟨a1.out k (by omega), by omega⟩⟩
theorem Rg.mv {κ : Nat → Nat} {n c : Nat} {W : World} {Fr : Nat → Prop} (hc : c ≠ 1) (hF : ∀ k, Fr k → κ k = 1 ∧ k < W.heap.size) : ∀ k, k < W.heap.size → Rg κ n W c k → Mv n Fr k := fun k _ hk => ⟨hk.2.1, fun hf => hc (hk.1.symm.trans (hF k hf).1)⟩
end Go.Proofs.YtdhgebdbiehchaaGreatDoor
namespace Go.Proofs.YtdhgebdbiehchaaGreatDoor
open Go.RowKit Go.Maps
set_option linter.unusedSimpArgs false
set_option linter.unusedVariables false

theorem all_set {ds : List (Dk × Dk)} {j : Nat} {d' : Dk} {x : Dk × Dk} (h : ∀ d ∈ ds, d.1 = d.2 ∧ DkOk d.1) (hok : DkOk d') (a b : Dk × Dk) (hb : b = (d', d')) : ∀ d ∈ (ds.set j a).set j b, d.1 = d.2 ∧ DkOk d.1 := by
  intro d hd
  rw [List.set_set] at hd
  rcases List.mem_or_eq_of_mem_set hd with h1 | h1
  · exact h d h1
  · subst h1; subst hb; exact ⟨rfl, hok⟩
/-- Both calls of one step: the program's, then the document's. -/
theorem law_two {E : Sent} {n bw nd c : Nat} {m : Bool} {Fr : Nat → Prop} {w : World} {κ : Nat → Nat} {ds : List (Dk × Dk)} {P : LawP} {ls : List Mark}
    (h1 : LawAt w κ n bw ds P ls) (h2 : Env0 n w E) (h3 : ∀ d ∈ ds, d.1 = d.2 ∧ DkOk d.1) (h4 : m = false → ls = []) (h5 : ds.length = nd) (h6 : ls.length ≤ 4 * c) (h7 : ∀ k, Fr k → κ k = 1 ∧ k < w.heap.size)
    {j : Nat} {d d' : Dk} {p : Nat × Nat × Nat} (hd : ds[j]? = some (d, d)) (hp : P.ps[j]? = some p) (hok' : DkOk d') (fx fy : Nat) (ax ay : Array Value) (code : Int)
    (HX : ∀ (w1 : World) (G : Nat → Prop) (q : StP), Env0 n w1 E → (∀ k, G k → n ≤ k ∧ k < w1.heap.size) → StoreAt w1 G p.2.1 d q → Calls Tryz.prog fx ax w1 fun e w' => e = .returned (.int .i64 code) ∧ Done E G p.2.1 w1 d' w')
    (HY : ∀ (w1 : World) (G : Nat → Prop) (q : RfP), (∀ k, G k → k < w1.heap.size) → RefAt w1 G p.2.2 d q → Calls Tryz.prog fy ay w1 fun e w' => e = .returned (.int .i64 code) ∧ RDone G p.2.2 w1 d' w') :
    ∃ XD : World → World → Prop,
      (∀ w1 : World, Below w.heap.size w w1 → Calls Tryz.prog fx ax w1 fun e w2 => e = .returned (.int .i64 code) ∧ XD w1 w2) ∧
      (∀ w1 w2 : World, XD w1 w2 → (∀ k, w.heap.size ≤ k → k < w1.heap.size → w2.heap[k]? = w1.heap[k]?) ∧ Bx w2 p.1 #[.pointer (some ⟨p.2.1, 0, none⟩), .pointer (some ⟨p.2.2, 0, none⟩)] 198 ∧ w1.heap.size ≤ w2.heap.size ∧
        ∀ w3 : World, Below w2.heap.size w2 w3 → Calls Tryz.prog fy ay w3 fun e w' => e = .returned (.int .i64 code) ∧ Inv E n bw m nd c Fr w' ∧ Chg (Mv n Fr) w w' ∧ (∀ k, Rg κ n w 0 k → w'.heap[k]? = w.heap[k]?) ∧ ∀ k, w.heap.size ≤ k → k < w1.heap.size → w'.heap[k]? = w1.heap[k]?) := by
  have hn := h2.le
  refine ⟨fun w1 w2 => Below w.heap.size w w1 ∧ LawAt w2 (recol κ w1 w2 (2 * j + 2)) n bw (ds.set j (d', d)) P ls ∧ Chg (Rg κ n w1 (2 * j + 2)) w1 w2 ∧ Env0 n w2 E, ?_, ?_⟩
  · intro w1 hb
    have hL := h1.below hb
    have hE : Env0 n w1 E := h2.below (hb.mono hn)
    obtain ⟨q, hq⟩ := (hL.pairs j _ p hd hp).px
    refine (HX w1 _ q hE (fun k hk => ⟨hk.2.1, hk.2.2⟩) hq).mono ?_
    rintro e w2 ⟨rfl, hD⟩
    exact ⟨rfl, hb, hL.didX (Nat.le_trans hn hb.size) hd hp hD, hD.2, hE.chg hD.2 (fun k hk => hk.2.1)⟩
  · rintro w1 w2 ⟨hb, hL, hc, hE⟩
    have hL1 := h1.below hb
    have hp2 := hL.pairs j (d', d) p (by rw [List.getElem?_set]; simp [(List.getElem?_eq_some_iff.1 hd).1]) hp
    refine ⟨fun k hk hk1 => hc.keep k hk1 (fun hr => ?_), hp2.box, hc.size, fun w3 hb3 => ?_⟩
    · have h8 := h1.out k hk
      have h9 := hr.1
      omega
    · have hL3 := hL.below hb3
      obtain ⟨r, hr⟩ := (hL3.pairs j (d', d) p (by rw [List.getElem?_set]; simp [(List.getElem?_eq_some_iff.1 hd).1]) hp).py
      refine (HY w3 _ r (fun k hk => hk.2.2) hr).mono ?_
      rintro e w4 ⟨rfl, hD⟩
      refine ⟨rfl, ?_, ?_, ?_, ?_⟩
      · have hL4 := hL3.didY (Nat.le_trans hn (Nat.le_trans hb.size (Nat.le_trans hc.size hb3.size))) (j := j) (d := (d', d)) (by rw [List.getElem?_set]; simp [(List.getElem?_eq_some_iff.1 hd).1]) hp hD
        refine ⟨_, _, P, ls, hL4, ?_, all_set (x := (d, d)) h3 hok' _ _ rfl, h4, by simpa using h5, h6, fun k hk => ?_⟩
        · exact (hE.below (hb3.mono hE.le)).chg hD.2 (fun k hk => hk.2.1)
        · obtain ⟨h8, h9⟩ := h7 k hk
          have a1 := hb.size
          have a2 := hc.size
          have a3 := hb3.size
          have a4 := hD.2.size
          refine ⟨?_, by omega⟩
          rw [recol_old (by omega), recol_old (by omega)]
          exact h8
      · have e1 : Chg (Mv n Fr) w w1 := Chg.of_below hb
        have e2 : Chg (Fx (Mv n Fr) w w1) w1 w2 := hc.mono (fun k hk hr => by
          by_cases hkw : k < w.heap.size
          · exact .inl ⟨hr.2.1, fun hf => by have := (h7 k hf).1; have := hr.1; omega⟩
          · exact .inr ⟨by omega, hk⟩)
        have e12 := e1.trans e2
        have e3 : Chg (Fx (Mv n Fr) w w2) w2 w3 := Chg.of_below hb3
        have e123 := e12.trans e3
        refine e123.trans (hD.2.mono (fun k hk hr => ?_))
        by_cases hkw : k < w.heap.size
        · refine .inl ⟨hr.2.1, fun hf => ?_⟩
          have h8 := (h7 k hf).1
          have h9 := hr.1
          rw [recol_old (Nat.lt_of_lt_of_le hkw hb.size)] at h9
          omega
        · exact .inr ⟨by omega, hk⟩
      · intro k hk
        have a1 := hb.size
        have a2 := hc.size
        have a3 := hb3.size
        have hkw := hk.2.2
        have e4 : w4.heap[k]? = w3.heap[k]? := hD.2.keep k (by omega) (fun hr => by
          have h9 := hr.1
          rw [recol_old (by omega)] at h9
          have := hk.1
          omega)
        have e3 : w3.heap[k]? = w2.heap[k]? := hb3.block k (by omega)
        have e2 : w2.heap[k]? = w1.heap[k]? := hc.keep k (by omega) (fun hr => by have := hr.1; have := hk.1; omega)
        have e1 : w1.heap[k]? = w.heap[k]? := hb.block k hkw
        rw [e4, e3, e2, e1]
      · intro k hk hk1
        have a2 := hc.size
        have a3 := hb3.size
        have e4 : w4.heap[k]? = w3.heap[k]? := hD.2.keep k (by omega) (fun hr => by
          have h9 := hr.1
          rw [recol_old (by omega)] at h9
          have := h1.out k hk
          omega)
        have e3 : w3.heap[k]? = w2.heap[k]? := hb3.block k (by omega)
        have e2 : w2.heap[k]? = w1.heap[k]? := hc.keep k (by omega) (fun hr => by have := hr.1; have := h1.out k hk; omega)
        rw [e4, e3, e2]
end Go.Proofs.YtdhgebdbiehchaaGreatDoor
namespace Go.Proofs.YtdhgebdbiehchaaGreatDoor
open Go.RowKit Go.Maps
set_option linter.unusedSimpArgs false
set_option linter.unusedVariables false

/-- What is left when a disk was called: all is kept; the row of the disks has not turned. -/
def Left (E : Sent) (n bw : Nat) (m : Bool) (nd c : Nat) (Fr : Nat → Prop) (k10 : Prop) (pv : Value) (w w' : World) : Prop :=
  (∃ c', c' ≤ c + 1 ∧ (k10 → c' = c) ∧ Inv E n bw m nd c' Fr w') ∧ Chg (Mv n Fr) w w' ∧ w'.cell? ⟨bw, 0, none⟩ = w.cell? ⟨bw, 0, none⟩ ∧ ∀ g, pv.ownBlock = some g → w'.heap[g]? = w.heap[g]?
/-- A call of a disk is answered alike, and all is kept. -/
def Does (m : Bool) (o : OpV) : Prop := ∀ (E : Sent) (n bw nd c : Nat) (Fr : Nat → Prop) (w : World) (κ : Nat → Nat) (ds : List (Dk × Dk)) (P : LawP) (ls : List Mark) (j : Nat) (d : Dk) (p : Nat × Nat × Nat),
  LawAt w κ n bw ds P ls → Env0 n w E → (∀ d ∈ ds, d.1 = d.2 ∧ DkOk d.1) → (m = false → ls = []) → ds.length = nd → ls.length ≤ 4 * c → (∀ k, Fr k → κ k = 1 ∧ k < w.heap.size) → c ≤ 1353245081000 → ds[j]? = some (d, d) → P.ps[j]? = some p →
  Calls Tryz.prog 65 #[.pointer (some ⟨bw, 0, none⟩), .pointer (some ⟨p.1, 0, none⟩), o.val] w fun e w' => e = .returned (.bool true) ∧ Left E n bw m nd c Fr (o.kind = 10) P.pv w w'
def opC (o : OpV) : Array Value := #[.int .i64 o.kind, .int .i64 o.at', .int .i64 o.x, .int .i64 o.y, .string o.s, .string o.t, .string o.u, .int .i64 o.c0, .int .i64 o.c1, .int .i64 o.c2]
/-- What the walk of does reads: the pair's two pointers, the step's cells. -/
def dS (pb px py ob : Nat) (x y : Int) (s t : ByteArray) (c0 c1 c2 : Int) (w' : World) : Prop :=
  (w'.cell? ⟨pb, 0, none⟩ = some (.pointer (some ⟨px, 0, none⟩)) ∧ w'.cell? ⟨pb, 1, none⟩ = some (.pointer (some ⟨py, 0, none⟩))) ∧ (w'.cell? ⟨ob, 2, none⟩ = some (.int .i64 x) ∧ w'.cell? ⟨ob, 3, none⟩ = some (.int .i64 y)) ∧ (w'.cell? ⟨ob, 4, none⟩ = some (.string s) ∧ w'.cell? ⟨ob, 5, none⟩ = some (.string t)) ∧ (w'.cell? ⟨ob, 7, none⟩ = some (.int .i64 c0) ∧ w'.cell? ⟨ob, 8, none⟩ = some (.int .i64 c1) ∧ w'.cell? ⟨ob, 9, none⟩ = some (.int .i64 c2))
theorem dS_of {w' : World} {pb px py ob : Nat} {o : OpV} (h1 : Bx w' pb #[.pointer (some ⟨px, 0, none⟩), .pointer (some ⟨py, 0, none⟩)] 198) (h2 : Bx w' ob (opC o) 68) : dS pb px py ob o.x o.y o.s o.t o.c0 o.c1 o.c2 w' :=
  ⟨⟨h1.cell (j := 0) rfl, h1.cell (j := 1) rfl⟩, ⟨h2.cell (j := 2) rfl, h2.cell (j := 3) rfl⟩, ⟨h2.cell (j := 4) rfl, h2.cell (j := 5) rfl⟩, h2.cell (j := 7) rfl, h2.cell (j := 8) rfl, h2.cell (j := 9) rfl⟩
/-- Both calls, laid for the walk of does. -/
theorem does_two {E : Sent} {n bw nd c : Nat} {m : Bool} {Fr : Nat → Prop} {w : World} {κ : Nat → Nat} {ds : List (Dk × Dk)} {P : LawP} {ls : List Mark} (o : OpV)
    (h1 : LawAt w κ n bw ds P ls) (h2 : Env0 n w E) (h3 : ∀ d ∈ ds, d.1 = d.2 ∧ DkOk d.1) (h4 : m = false → ls = []) (h5 : ds.length = nd) (h6 : ls.length ≤ 4 * c) (h7 : ∀ k, Fr k → κ k = 1 ∧ k < w.heap.size)
    {j : Nat} {d d' : Dk} {p : Nat × Nat × Nat} (hd : ds[j]? = some (d, d)) (hp : P.ps[j]? = some p) (hok' : DkOk d') (fx fy : Nat) (ax ay : Array Value) (code : Int)
    (HX : ∀ (w1 : World) (G : Nat → Prop) (q : StP), Env0 n w1 E → (∀ k, G k → n ≤ k ∧ k < w1.heap.size) → StoreAt w1 G p.2.1 d q → Calls Tryz.prog fx ax w1 fun e w' => e = .returned (.int .i64 code) ∧ Done E G p.2.1 w1 d' w')
    (HY : ∀ (w1 : World) (G : Nat → Prop) (q : RfP), (∀ k, G k → k < w1.heap.size) → RefAt w1 G p.2.2 d q → Calls Tryz.prog fy ay w1 fun e w' => e = .returned (.int .i64 code) ∧ RDone G p.2.2 w1 d' w') :
    ∃ XD : World → Prop, dS p.1 p.2.1 p.2.2 w.heap.size o.x o.y o.s o.t o.c0 o.c1 o.c2 (w.alloc (.cells (opC o) 68)) ∧
      (∀ w1 : World, Below (w.alloc (.cells (opC o) 68)).heap.size (w.alloc (.cells (opC o) 68)) w1 → Calls Tryz.prog fx ax w1 fun e w2 => e = .returned (.int .i64 code) ∧ XD w2) ∧
      (∀ w2 : World, XD w2 → dS p.1 p.2.1 p.2.2 w.heap.size o.x o.y o.s o.t o.c0 o.c1 o.c2 w2 ∧ ∀ w3 : World, Below w2.heap.size w2 w3 → Calls Tryz.prog fy ay w3 fun e w' => e = .returned (.int .i64 code) ∧ dS p.1 p.2.1 p.2.2 w.heap.size o.x o.y o.s o.t o.c0 o.c1 o.c2 w' ∧ Left E n bw m nd c Fr (o.kind = 10) P.pv w w') := by
  obtain ⟨XD, hX, hY⟩ := law_two h1 h2 h3 h4 h5 h6 h7 hd hp hok' fx fy ax ay code HX HY
  have hpr := h1.pairs j _ p hd hp
  have hB0 : Below w.heap.size w (w.alloc (.cells (opC o) 68)) := (Below.refl _ _).alloc (Nat.le_refl _) _
  have hz0 : (w.alloc (.cells (opC o) 68)).heap.size = w.heap.size + 1 := by simp
  refine ⟨fun w2 => ∃ w1, Below (w.alloc (.cells (opC o) 68)).heap.size (w.alloc (.cells (opC o) 68)) w1 ∧ XD w1 w2, ?_, ?_, ?_⟩
  · exact dS_of (hpr.box.below hB0 hpr.box.lt) (bx_new _ _ _ rfl)
  · intro w1 hb
    refine (hX w1 (hB0.trans (hb.mono (by omega)))).mono ?_
    rintro e w2 ⟨rfl, hx⟩
    exact ⟨rfl, w1, hb, hx⟩
  · rintro w2 ⟨w1, hb, hx⟩
    obtain ⟨k1, k2, k3, k4⟩ := hY w1 w2 hx
    have hz1 := hb.size
    have ho1 : Bx w1 w.heap.size (opC o) 68 := (bx_new w (opC o) _ rfl).below hb (by omega)
    refine ⟨dS_of k2 ((k1 _ (Nat.le_refl _) (by omega)).trans ho1), fun w3 hb3 => (k4 w3 hb3).mono ?_⟩
    rintro e w' ⟨rfl, a1, a2, a3, a4⟩
    refine ⟨rfl, dS_of ((a3 _ hpr.col).trans hpr.box) ((a4 _ (Nat.le_refl _) (by omega)).trans ho1), ⟨c, by omega, fun _ => rfl, a1⟩, a2, ?_, fun g hg => a3 g (h1.crow g hg)⟩
    unfold World.cell?
    rw [a3 _ h1.col]
end Go.Proofs.YtdhgebdbiehchaaGreatDoor
namespace Go.Proofs.YtdhgebdbiehchaaGreatDoor
open Go.RowKit Go.Maps
set_option linter.unusedSimpArgs false
set_option linter.unusedVariables false

def nilP (q : RfP) : RfP := ⟨q.keep, q.c0, q.c1, q.c2, .slice none 0 0⟩
theorem fall_cells {W : World} {b : Nat} {d : Dk} {k i : Nat} {q : RfP} (h : Bx W b (refC (fallK d k i) q) 273) (hi : i < 3) :
    W.cell? ⟨b, 2 + i * 3 + 1, none⟩ = some (.string (S (txtO (d.file i)))) ∧ W.cell? ⟨b, 2 + i * 3 + 2, none⟩ = some (.int .i64 (synO (d.file i) : Int)) ∧ W.cell? ⟨b, 12, none⟩ = some (.int .i64 (q.keep : Int)) := by
  match i, hi with
  | 0, _ => exact ⟨h.cell (j := 3) rfl, h.cell (j := 4) rfl, h.cell (j := 12) rfl⟩
  | 1, _ => exact ⟨h.cell (j := 6) rfl, h.cell (j := 7) rfl, h.cell (j := 12) rfl⟩
  | 2, _ => exact ⟨h.cell (j := 9) rfl, h.cell (j := 10) rfl, h.cell (j := 12) rfl⟩
theorem fall_zero {W : World} {b : Nat} {d : Dk} {q : RfP} (h : Bx W b (refC d q) 273) (k : Nat) :
    Bx ((((W.setCell ⟨b, 1, none⟩ (.bool true)).setCell ⟨b, 11, none⟩ (.int .i64 (-1))).setCell ⟨b, 13, none⟩ (.bool false)).setCell ⟨b, 17, none⟩ (.slice none 0 0)) b (refC (fallK d k 0) (nilP q)) 273 :=
  (((h.setj 1 _).setj 11 _).setj 13 _).setj 17 _
theorem txt_le {d : Dk} (hok : DkOk d) (i : Nat) : (txtO (d.file i)).length ≤ 100000 := by
  have h1 := hok.used
  have h2 := hok.room
  have e : ∀ f : Option Fl, (txtO f).length = lenF f := fun f => by cases f <;> rfl
  rw [e]
  unfold Dk.used at h1
  unfold Dk.file
  split
  · omega
  · split
    · omega
    · split
      · omega
      · simp [lenF]
set_option maxRecDepth 100000 in
set_option maxHeartbeats 1600000 in
theorem falls_any (G : Nat → Prop) (b : Nat) (d : Dk) (q : RfP) (w : World) (hR : RefAt w G b d q) (hok : DkOk d) :
    Calls Tryz.prog 177 #[.pointer (some ⟨b, 0, none⟩)] w fun e w' => e = .returned (.tuple #[]) ∧ RDone G b w (d.falls q.keep) w' := by
  have f1 := hR.box.frozen 1
  have f11 := hR.box.frozen 11
  have f13 := hR.box.frozen 13
  have f17 := hR.box.frozen 17
  have c1 := hR.box.cell (j := 1) rfl
  have c11 := hR.box.cell (j := 11) rfl
  have c13 := hR.box.cell (j := 13) rfl
  have c17 := hR.box.cell (j := 17) rfl
  have HZ := fall_zero hR.box q.keep
  have hlt := hR.box.lt
  have hkp := hR.keep
  have hsy := hok.sync
  have HTL : Hid (∀ i, (txtO (d.file i)).length ≤ 100000) := txt_le hok
  have HR : Hid (RefAt w G b d q) := hR
  have HSY : Hid (∀ i f, d.file i = some f → f.sync ≤ f.text.length) := hsy
  clear hR hok hsy
  go_enter Tryz.func177, Tryz.ntmps177
  go_wp2
  go_loopw [2] (fun i wr => ∃ (k : Nat), k ≤ 3 ∧ i = .int .i64 k ∧ Bx wr b (refC (fallK d q.keep k) (nilP q)) 273 ∧ w.grownBy wr (some b)) (fun i _ => 3 - (intOf i).toNat)
  case atStart => exact ⟨0, by omega, rfl, HZ, grown_trans (grown_trans (grown_trans (grown_setB w b 1 _) (grown_setB _ b 11 _)) (grown_setB _ b 13 _)) (grown_setB _ b 17 _)⟩
  case round =>
    obtain ⟨k, hk, rfl, hbx, hg⟩ := hrel
    by_cases hlt3 : k < 3
    · obtain ⟨ct, cs, ck⟩ := fall_cells hbx hlt3
      have ft := hbx.frozen (2 + k * 3 + 1)
      have fs := hbx.frozen (2 + k * 3 + 2)
      have HN : Hid (Bx ((wr.setCell ⟨b, 2 + k * 3 + 1, none⟩ (.string (S ((txtO (d.file k)).take (fallN q.keep (d.file k)))))).setCell ⟨b, 2 + k * 3 + 2, none⟩ (.int .i64 (fallN q.keep (d.file k) : Int))) b (refC (fallK d q.keep (k + 1)) (nilP q)) 273) := by
        have := fall_box hbx hlt3 HSY.out
        rw [Nat.mul_comm 3 k] at this
        exact this
      have hle := fallN_le q.keep (d.file k) (fun g hg => HSY.out k g hg)
      have htl := HTL.out k
      have hNd : fallN q.keep (d.file k) = synO (d.file k) + min q.keep ((txtO (d.file k)).length - synO (d.file k)) := rfl
      have hsl : synO (d.file k) ≤ (txtO (d.file k)).length := by
        cases hf : d.file k with
        | none => exact Nat.le_refl _
        | some f => exact HSY.out k f hf
      have HG : Hid (w.grownBy wr (some b)) := hg
      have ck' : wr.cell? ⟨b, 12, none⟩ = some (.int .i64 (q.keep : Int)) := ck
      clear ck hbx hg HZ c1 c11 c13 c17 f1 f11 f13 f17
      generalize txtO (d.file k) = T at *
      generalize synO (d.file k) = Y at *
      generalize fallN q.keep (d.file k) = N at *
      have hsz : (S T).size = T.length := S_size T
      have HC : ∀ wx : World, (Instr.slice 9 (.string (S T)) none (some (.int .i64 (N : Int))) none).run Tryz.prog wx = .ok (.string (S (T.take N))) wx := by
        intro wx
        have := cut_upto (S T) N (by rw [hsz]; exact hle) (N : Int) rfl wx
        rw [show (S T).data.toList = T from rfl] at this
        exact this
      generalize q.keep = K at *
      by_cases hcase : K < T.length - Y
      · have e1 : ((Y : Int) + (K : Int)) = (N : Int) := by omega
        have e0 : (K : Int) < (T.length : Int) - (Y : Int) := by omega
        clear hNd
        go_wp2_with fail
        go_region
        all_goals
          go_wp2_with fail
          go_region
          all_goals
            go_wp2_with fail
            go_region
            all_goals
              go_wp2
              go_roundw
              case rel => exact ⟨k + 1, by omega, by go_num, HN.out, grown_drew (grown_drew (grown_drew (grown_trans (grown_trans HG.out (grown_setB _ b _ _)) (grown_setB _ b _ _))))⟩
              case measure => simp [intOf]; omega
      · have e1 : N = T.length := by omega
        have e0 : ¬ ((K : Int) < (T.length : Int) - (Y : Int)) := by omega
        clear hNd
        subst e1
        have HN2 : Hid (Bx ((wr.setCell ⟨b, 2 + k * 3 + 1, none⟩ (.string (S T))).setCell ⟨b, 2 + k * 3 + 2, none⟩ (.int .i64 (T.length : Int))) b (refC (fallK d K (k + 1)) (nilP q)) 273) := by
          have := HN.out
          rw [List.take_length] at this
          exact this
        go_wp2_with fail
        go_region
        all_goals
          go_wp2_with fail
          go_region
          all_goals
            go_wp2
            go_roundw
            case rel => exact ⟨k + 1, by omega, by go_num, HN2.out, grown_drew (grown_drew (grown_trans (grown_trans HG.out (grown_setB _ b _ _)) (grown_setB _ b _ _)))⟩
            case measure => simp [intOf]; omega
    · have e : k = 3 := by omega
      subst e
      go_wp2
      refine bodyPost_end (v := .tuple #[]) ?_ rfl ⟨rfl, ⟨nilP q, ?_⟩, chg_one hg HR.out.gb⟩
      · simp [results, Tryz.results177, go_sem]
      · exact ⟨hbx, World.ownsRow_nil _ _ _ _, fun e => (by cases e), fun n k e => (by cases e), hkp, fun blk e => (by cases e), .inl HR.out.gb, fun g e => (by cases e)⟩
end Go.Proofs.YtdhgebdbiehchaaGreatDoor
namespace Go.Proofs.YtdhgebdbiehchaaGreatDoor
open Go.RowKit Go.Maps
set_option linter.unusedSimpArgs false
set_option linter.unusedVariables false

theorem RefAt.lefted {W : World} {G : Nat → Prop} {b : Nat} {d : Dk} {q : RfP} {n k : Nat} (h : RefAt W G b d q) (hn : n ≤ 9223372036854775807) (hk : q.keep = k) : RefAt (W.setCell ⟨b, 11, none⟩ (.int .i64 (n : Int))) G b { d with left := some (n, k) } q :=
  ⟨h.box.setj 11 _, own_box (cs := refC d q) (t := 0) h.row h.ne 11 _, h.ne, fun n' k' e => by cases e; exact ⟨hn, hk⟩, h.keep, h.blk, h.gb, h.gv⟩
set_option maxRecDepth 100000 in
set_option maxHeartbeats 800000 in
theorem rstep_any (G : Nat → Prop) (b : Nat) (d : Dk) (q : RfP) (w : World) (hR : RefAt w G b d q) (hok : DkOk d) :
    Calls Tryz.prog 176 #[.pointer (some ⟨b, 0, none⟩)] w fun e w' => e = .returned (.bool d.count.1) ∧ RDone G b w d.count.2 w' := by
  have c11 : w.cell? ⟨b, 11, none⟩ = some (.int .i64 (leftI d.left)) := hR.box.cell (j := 11) rfl
  have f11 := hR.box.frozen 11
  have HR : Hid (RefAt w G b d q) := hR
  have hL := hR.left
  have HF := falls_any G b d q w hR hok
  clear hR hok
  cases hl : d.left with
  | none =>
    have HC : Hid (d.count = (true, d)) := by show _ = _; unfold Dk.count; rw [hl]
    rw [hl] at c11
    have c11' : w.cell? ⟨b, 11, none⟩ = some (.int .i64 (-1)) := c11
    clear c11 HF hL
    go_enter Tryz.func176, Tryz.ntmps176
    go_wp2
    go_ret
    exact ⟨by rw [HC.out]; rfl, by rw [HC.out]; exact RDone.refl HR.out⟩
  | some p =>
    obtain ⟨n, k⟩ := p
    obtain ⟨hn, hk⟩ := hL n k hl
    rw [hl] at c11
    cases n with
    | zero =>
      have HC : Hid (d.count = (false, d.falls k)) := by show _ = _; unfold Dk.count; rw [hl]
      have c11' : w.cell? ⟨b, 11, none⟩ = some (.int .i64 0) := c11
      rw [hk] at HF
      clear c11 hL
      go_enter Tryz.func176, Tryz.ntmps176
      go_wp2_with (first | (go_at_call 177; refine HF.mono ?_; rintro e w1 ⟨rfl, hd⟩; have HD : Hid (RDone G b w (d.falls k) w1) := hd; clear hd))
      go_ret
      exact ⟨by rw [HC.out]; rfl, by rw [HC.out]; exact HD.out⟩
    | succ m =>
      have HC : Hid (d.count = (true, { d with left := some (m, k) })) := by show _ = _; unfold Dk.count; rw [hl]
      have c11' : w.cell? ⟨b, 11, none⟩ = some (.int .i64 ((m : Int) + 1)) := c11
      have HN : Hid (RefAt (w.setCell ⟨b, 11, none⟩ (.int .i64 (m : Int))) G b { d with left := some (m, k) } q) := HR.out.lefted (by omega) hk
      have e1 : (m : Int) + 1 - 1 = m := by omega
      clear c11 hL HF
      go_enter Tryz.func176, Tryz.ntmps176
      go_wp2
      go_ret
      refine ⟨by rw [HC.out]; rfl, ?_⟩
      rw [HC.out]
      have HN2 := HN.out
      exact ⟨⟨q, HN2.mono (fun k hk => .inl hk)⟩, chg_one (grown_setB _ _ _ _) HR.out.gb⟩

/-! One file turns. -/
theorem file_cells {W : World} {b : Nat} {d : Dk} {i : Nat} {q : RfP} (h : Bx W b (refC d q) 273) (hi : i < 3) :
    W.cell? ⟨b, 2 + i * 3, none⟩ = some (.bool (d.file i).isSome) ∧ W.cell? ⟨b, 2 + i * 3 + 1, none⟩ = some (.string (S (txtO (d.file i)))) ∧ W.cell? ⟨b, 2 + i * 3 + 2, none⟩ = some (.int .i64 (synO (d.file i) : Int)) := by
  match i, hi with
  | 0, _ => exact ⟨h.cell (j := 2) rfl, h.cell (j := 3) rfl, h.cell (j := 4) rfl⟩
  | 1, _ => exact ⟨h.cell (j := 5) rfl, h.cell (j := 6) rfl, h.cell (j := 7) rfl⟩
  | 2, _ => exact ⟨h.cell (j := 8) rfl, h.cell (j := 9) rfl, h.cell (j := 10) rfl⟩
theorem refC_put1 {d : Dk} {q : RfP} {i : Nat} {f : Fl} (hi : i < 3) (hf : d.file i = some f) (t : List UInt8) : (refC d q).setIfInBounds (2 + i * 3 + 1) (.string (S t)) = refC (d.put i (some ⟨t, f.sync⟩)) q := by
  match i, hi with
  | 0, _ => have h : d.f0 = some f := hf; simp [refC, Dk.put, h, synO, txtO]
  | 1, _ => have h : d.f1 = some f := hf; simp [refC, Dk.put, h, synO, txtO]
  | 2, _ => have h : d.f2 = some f := hf; simp [refC, Dk.put, h, synO, txtO]
theorem refC_put2 {d : Dk} {q : RfP} {i : Nat} {f : Fl} (hi : i < 3) (hf : d.file i = some f) (n : Nat) : (refC d q).setIfInBounds (2 + i * 3 + 2) (.int .i64 (n : Int)) = refC (d.put i (some ⟨f.text, n⟩)) q := by
  match i, hi with
  | 0, _ => have h : d.f0 = some f := hf; simp [refC, Dk.put, h, synO, txtO]
  | 1, _ => have h : d.f1 = some f := hf; simp [refC, Dk.put, h, synO, txtO]
  | 2, _ => have h : d.f2 = some f := hf; simp [refC, Dk.put, h, synO, txtO]
theorem refC_put3 {d : Dk} {q : RfP} {i : Nat} (hi : i < 3) : (((refC d q).setIfInBounds (2 + i * 3) (.bool true)).setIfInBounds (2 + i * 3 + 1) (.string ⟨#[]⟩)).setIfInBounds (2 + i * 3 + 2) (.int .i64 0) = refC (d.put i (some ⟨[], 0⟩)) q := by
  match i, hi with
  | 0, _ => rfl
  | 1, _ => rfl
  | 2, _ => rfl
theorem RefAt.file {W W' : World} {G : Nat → Prop} {b : Nat} {d : Dk} {q : RfP} {i : Nat} {f : Option Fl} (h : RefAt W G b d q) (hb : Bx W' b (refC (d.put i f) q) 273) (hg : W.grownBy W' (some b)) : RefAt W' G b (d.put i f) q := by
  obtain ⟨p1, p2, p3, p4, p5⟩ := put_same d i f
  refine ⟨hb, ?_, h.ne, by rw [p3]; exact h.left, h.keep, by rw [p4]; exact h.blk, h.gb, h.gv⟩
  rw [p5]
  exact own_chg h.row (chg_one (F := fun k => k = b) hg rfl) (fun g e hk => h.ne (by rw [e, hk]))
theorem RefAt.text {W : World} {G : Nat → Prop} {b : Nat} {d : Dk} {q : RfP} {i : Nat} {f : Fl} (h : RefAt W G b d q) (hi : i < 3) (hf : d.file i = some f) (t : List UInt8) : RefAt (W.setCell ⟨b, 2 + i * 3 + 1, none⟩ (.string (S t))) G b (d.put i (some ⟨t, f.sync⟩)) q :=
  h.file (by have := h.box.setj (2 + i * 3 + 1) (.string (S t)); rw [refC_put1 hi hf] at this; exact this) (grown_setB _ _ _ _)
theorem RefAt.synced {W : World} {G : Nat → Prop} {b : Nat} {d : Dk} {q : RfP} {i : Nat} {f : Fl} (h : RefAt W G b d q) (hi : i < 3) (hf : d.file i = some f) (n : Nat) : RefAt (W.setCell ⟨b, 2 + i * 3 + 2, none⟩ (.int .i64 (n : Int))) G b (d.put i (some ⟨f.text, n⟩)) q :=
  h.file (by have := h.box.setj (2 + i * 3 + 2) (.int .i64 (n : Int)); rw [refC_put2 hi hf] at this; exact this) (grown_setB _ _ _ _)
theorem RefAt.made {W : World} {G : Nat → Prop} {b : Nat} {d : Dk} {q : RfP} {i : Nat} (h : RefAt W G b d q) (hi : i < 3) : RefAt (((W.setCell ⟨b, 2 + i * 3, none⟩ (.bool true)).setCell ⟨b, 2 + i * 3 + 1, none⟩ (.string ⟨#[]⟩)).setCell ⟨b, 2 + i * 3 + 2, none⟩ (.int .i64 0)) G b (d.put i (some ⟨[], 0⟩)) q :=
  h.file (by have := ((h.box.setj (2 + i * 3) (.bool true)).setj (2 + i * 3 + 1) (.string ⟨#[]⟩)).setj (2 + i * 3 + 2) (.int .i64 0); rw [refC_put3 hi] at this; exact this) (grown_trans (grown_trans (grown_setB _ _ _ _) (grown_setB _ _ _ _)) (grown_setB _ _ _ _))
theorem count_file {d d' : Dk} (h : d.count = (true, d')) (i : Nat) : d'.file i = d.file i := by
  rw [count_ok h]; rfl
theorem RDone.at {G : Nat → Prop} {b : Nat} {w w1 : World} {d' d2 : Dk} {q : RfP} {w2 : World} (h : RDone G b w d' w1) (h2 : RefAt w2 (Fx G w w1) b d2 q) (hg : w1.grownBy w2 (some b)) (hb : G b) (hs : w2.heap.size = w1.heap.size) : RDone G b w d2 w2 := by
  refine ⟨⟨q, h2.mono ?_⟩, h.2.grown hg (fun k e => by cases e; exact .inl hb)⟩
  rintro k (hk | hk)
  · exact .inl hk
  · exact .inr ⟨hk.1, by omega⟩
theorem used_txt (d : Dk) : d.used = (txtO d.f0).length + (txtO d.f1).length + (txtO d.f2).length := by
  have e : ∀ f : Option Fl, (txtO f).length = lenF f := fun f => by cases f <;> rfl
  rw [e, e, e]; rfl
set_option maxRecDepth 100000 in
set_option maxHeartbeats 1600000 in
theorem appends_any (G : Nat → Prop) (b : Nat) (d : Dk) (q : RfP) (i : Nat) (t : List UInt8) (w : World) (hR : RefAt w G b d q) (hok : DkOk d) (hi : i < 3) (hf : (d.file i).isSome = true) (ht : t.length ≤ 1000000) :
    Calls Tryz.prog 199 #[.pointer (some ⟨b, 0, none⟩), .int .i64 (i : Int), .string (S t)] w fun e w' => e = .returned (.int .i64 (d.one (stAppend i t)).1) ∧ RDone G b w (d.one (stAppend i t)).2 w' := by
  have HST := rstep_any G b d q w hR hok
  have hgb := hR.gb
  have hok' := hok.count
  obtain ⟨bb, d', hct⟩ : ∃ b d', d.count = (b, d') := ⟨_, _, rfl⟩
  rw [hct] at HST hok'
  change DkOk d' at hok'
  cases bb with
  | false =>
    have HE := one_no (st := stAppend i t) hct
    clear hR hok hct hok'
    go_enter Tryz.func199, Tryz.ntmps199
    go_wp2_with (first | (go_at_call 176; refine HST.mono ?_; rintro e w1 ⟨rfl, hd⟩; have HD : Hid (RDone G b w d' w1) := hd; clear hd))
    go_ret
    exact ⟨by rw [HE]; rfl, by rw [HE]; exact HD.out⟩
  | true =>
    have HE := one_yes (st := stAppend i t) hct
    have hfi := count_file hct i
    rw [← hfi] at hf
    obtain ⟨f, hf'⟩ : ∃ f, d'.file i = some f := Option.isSome_iff_exists.1 hf
    have hu := used_txt d'
    have hu2 := hok'.used
    have hu3 := hok'.room
    have HT0 := txt_le hok' i
    have ht1 : txtO (d'.file i) = f.text := by rw [hf']; rfl
    have HCL : Hid (∀ (w1 : World) (q' : RfP), RefAt w1 (Fx G w w1) b d' q' → (w1.cell? ⟨b, 0, none⟩ = some (.int .i64 (d'.room : Int)) ∧ w1.cell? ⟨b, 3, none⟩ = some (.string (S (txtO d'.f0))) ∧ w1.cell? ⟨b, 6, none⟩ = some (.string (S (txtO d'.f1))) ∧ w1.cell? ⟨b, 9, none⟩ = some (.string (S (txtO d'.f2))) ∧ w1.cell? ⟨b, 2 + i * 3 + 1, none⟩ = some (.string (S f.text)) ∧ w1.frozen? ⟨b, 2 + i * 3 + 1, none⟩ = false)) := fun w1 q' h => by
      have h1 := (file_cells h.box hi).2.1
      rw [ht1] at h1
      exact ⟨h.box.cell (j := 0) rfl, h.box.cell (j := 3) rfl, h.box.cell (j := 6) rfl, h.box.cell (j := 9) rfl, h1, h.box.frozen _⟩
    rw [ht1] at HT0
    have b0 : (txtO d'.f0).length ≤ 100000 := txt_le hok' 0
    have b1 : (txtO d'.f1).length ≤ 100000 := txt_le hok' 1
    have b2 : (txtO d'.f2).length ≤ 100000 := txt_le hok' 2
    have z0 : (S (txtO d'.f0)).size = (txtO d'.f0).length := S_size _
    have z1 : (S (txtO d'.f1)).size = (txtO d'.f1).length := S_size _
    have z2 : (S (txtO d'.f2)).size = (txtO d'.f2).length := S_size _
    have z3 : (S t).size = t.length := S_size _
    have z4 : (S f.text).size = f.text.length := S_size _
    by_cases hroom : d'.room < d'.used + t.length
    · have HE2 : Hid (d.one (stAppend i t) = (6, d')) := by
        show d.one (stAppend i t) = (6, d')
        rw [HE]; unfold Dk.take
        rw [if_neg (by simp [stAppend]), show (stAppend i t).i = i from rfl, hf']
        show (if (1 : Nat) = 1 then (if d'.room < d'.used + t.length then ((6 : Int), d') else (0, d'.put i (some ⟨f.text ++ t, f.sync⟩))) else _) = _
        rw [if_pos rfl, if_pos hroom]
      have hr2 : (d'.room : Int) < ((txtO d'.f0).length : Int) + ((txtO d'.f1).length : Int) + ((txtO d'.f2).length : Int) + (t.length : Int) := by omega
      clear hR hok hct hok' HE hu hroom hfi hf
      generalize txtO d'.f0 = t0 at *
      generalize txtO d'.f1 = t1 at *
      generalize txtO d'.f2 = t2 at *
      go_enter Tryz.func199, Tryz.ntmps199
      go_wp2_with (first | (go_at_call 176; refine HST.mono ?_; rintro e w1 ⟨rfl, hd⟩; have HD : Hid (RDone G b w d' w1) := hd; obtain ⟨⟨q', hq'⟩, hc'⟩ := hd; obtain ⟨k0, k3, k6, k9, ki, kf⟩ := HCL.out w1 q' hq'; clear hq' hc'))
      go_region
      all_goals
        go_wp2
        go_ret
        exact ⟨by rw [HE2.out]; rfl, by rw [HE2.out]; exact HD.out.below (Below.refl _ _).drew⟩
    · have HE2 : Hid (d.one (stAppend i t) = (0, d'.put i (some ⟨f.text ++ t, f.sync⟩))) := by
        show d.one (stAppend i t) = (0, d'.put i (some ⟨f.text ++ t, f.sync⟩))
        rw [HE]; unfold Dk.take
        rw [if_neg (by simp [stAppend]), show (stAppend i t).i = i from rfl, hf']
        show (if (1 : Nat) = 1 then (if d'.room < d'.used + t.length then ((6 : Int), d') else (0, d'.put i (some ⟨f.text ++ t, f.sync⟩))) else _) = _
        rw [if_pos rfl, if_neg hroom]
      have hr2 : ¬ (d'.room : Int) < ((txtO d'.f0).length : Int) + ((txtO d'.f1).length : Int) + ((txtO d'.f2).length : Int) + (t.length : Int) := by omega
      have HPT : Hid (∀ (w1 : World) (q' : RfP), RefAt w1 (Fx G w w1) b d' q' → RefAt (w1.setCell ⟨b, 2 + i * 3 + 1, none⟩ (.string (S (f.text ++ t)))) (Fx G w w1) b (d'.put i (some ⟨f.text ++ t, f.sync⟩)) q') := fun w1 q' h => h.text hi hf' _
      have ht2 : t.length ≤ 100000 := by omega
      clear hR hok hct hok' HE hu hroom hfi hf ht1 hf'
      generalize txtO d'.f0 = t0 at *
      generalize txtO d'.f1 = t1 at *
      generalize txtO d'.f2 = t2 at *
      generalize f.text = ft at *
      go_enter Tryz.func199, Tryz.ntmps199
      go_wp2_with (first | (go_at_call 176; refine HST.mono ?_; rintro e w1 ⟨rfl, hd⟩; have HD : Hid (RDone G b w d' w1) := hd; obtain ⟨⟨q', hq'⟩, hc'⟩ := hd; obtain ⟨k0, k3, k6, k9, ki, kf⟩ := HCL.out w1 q' hq'; have HQ := HPT.out w1 q' hq'; clear hq' hc'))
      go_region
      all_goals
        go_wp2_with fail
        go_region
        all_goals
          go_wp2
          go_ret
          refine ⟨by rw [HE2.out]; rfl, ?_⟩
          rw [HE2.out, S_append]
          exact (HD.out.at HQ (grown_setB _ _ _ _) hgb (by simp)).below (Below.refl _ _).drew.drew
end Go.Proofs.YtdhgebdbiehchaaGreatDoor
