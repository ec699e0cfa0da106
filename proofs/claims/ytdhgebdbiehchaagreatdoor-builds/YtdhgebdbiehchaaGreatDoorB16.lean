/- The contract of record.readEntry where the entry's bytes are all there; and of record.Entry.IsRight. -/
import Derived.Test.YtdhgebdbiehchaaGreatDoorB12
import Derived.Deep.DeepCutAuto
namespace Go.Proofs.YtdhgebdbiehchaaGreatDoor
open Go.RowKit
set_option linter.unusedSimpArgs false
set_option linter.unusedVariables false

set_option maxHeartbeats 800000 in
theorem isRight_any (pb : Bool) (ky vl : ByteArray) (w : World) :
    Calls Tryz.prog 99 #[.agg #[.bool pb, .string ky, .string vl]] w fun e w' => e = .returned (.bool (keyB ky && decide (vl.size ≤ 30))) ∧ Below w.heap.size w w' := by
  cases h : keyB ky
  all_goals
    go_enter Tryz.func99, Tryz.ntmps99
    go_wp2_with (first | (go_at_call 153; refine (isKey_any _ _).mono ?_; rintro e w' ⟨rfl, rfl⟩; rw [h]) | (go_at_call 154; refine (isValue_any _ _).mono ?_; rintro e w' ⟨rfl, rfl⟩))
    go_ret
    refine ⟨ret_bool (by simp), (Below.refl _ _).alloc (Nat.le_refl _) _⟩

theorem far3 (w2 : World) {n m : Nat} (h : n ≠ m) (a b c : Value) (j : Nat) : (((w2.setCell ⟨n, 0, none⟩ a).setCell ⟨n, 1, none⟩ b).setCell ⟨n, 2, none⟩ c).drew.cell? ⟨m, j, none⟩ = w2.cell? ⟨m, j, none⟩ := by
  show (((w2.setCell ⟨n, 0, none⟩ a).setCell ⟨n, 1, none⟩ b).setCell ⟨n, 2, none⟩ c).cell? ⟨m, j, none⟩ = _
  rw [World.cell?_setCell_far _ _ _ _ h, World.cell?_setCell_far _ _ _ _ h, World.cell?_setCell_far _ _ _ _ h]
def Keep3 (w W : World) : Prop := (W.cell? ⟨w.heap.size, 0, none⟩ = some (.bool false) ∧ W.cell? ⟨w.heap.size, 1, none⟩ = some (.string ⟨#[]⟩) ∧ W.cell? ⟨w.heap.size, 2, none⟩ = some (.string ⟨#[]⟩)) ∧ (∀ i, W.frozen? ⟨w.heap.size, i, none⟩ = false) ∧ Below w.heap.size w W ∧ w.heap.size < W.heap.size
theorem keep3_new (w : World) (q : Nat) : Keep3 w ((w.alloc (.cells #[.bool false, .string ⟨#[]⟩, .string ⟨#[]⟩] 106)).drewN q) :=
  ⟨⟨by simp, by simp, by simp⟩, fun i => by simp, below_drewN ((Below.refl _ _).alloc (Nat.le_refl _) _) _, by simp⟩
theorem Keep3.below {w W W' : World} (h : Keep3 w W) (hb : Below W.heap.size W W') : Keep3 w W' := by
  obtain ⟨⟨h0, h1, h2⟩, hf, hB, hz⟩ := h
  exact ⟨⟨(hb.cell (p := ⟨w.heap.size, 0, none⟩) hz).trans h0, (hb.cell (p := ⟨w.heap.size, 1, none⟩) hz).trans h1, (hb.cell (p := ⟨w.heap.size, 2, none⟩) hz).trans h2⟩, fun i => (hb.frozen (p := ⟨w.heap.size, i, none⟩) hz).trans (hf i), hB.trans (hb.mono (Nat.le_of_lt hz)), Nat.lt_of_lt_of_le hz hb.size⟩

set_option maxRecDepth 100000 in
set_option maxHeartbeats 3200000 in
theorem readEntry_good (s : ByteArray) (w : World) (hs : s.size ≤ 140737488351232) (h3 : 3 ≤ s.size) (pb : Bool) (hk : if pb then s[0] = 112 else (s[0] ≠ 112 ∧ s[0] = 100)) (g1 : 3 + s[1].toNat + s[2].toNat ≤ s.size) (g2 : pb = true ∨ s[2].toNat = 0) :
    Calls Tryz.prog 205 #[.string s] w fun e w' => e = .returned (entR s.data.toList) ∧ Below w.heap.size w w' := by
  have hl : s.data.toList.length = s.size := by simp
  have t1 : ((s[0].toNat : Int) != 112) = !pb := by
    cases pb
    · have : s[0] = 100 := hk.2
      rw [this]; rfl
    · have : s[0] = 112 := hk
      rw [this]; rfl
  have t2 : pb = false → ((s[0].toNat : Int) != 100) = false := by
    intro hp; subst hp
    have : s[0] = 100 := hk.2
    rw [this]; rfl
  have t3 : ((s[0].toNat : Int) == 112) = pb := by
    cases pb
    · have : s[0] = 100 := hk.2
      rw [this]; rfl
    · have : s[0] = 112 := hk
      rw [this]; rfl
  have hw1 := w64b s[1]
  have hw2 := w64b s[2]
  have hb1 := s[1].toNat_lt
  have hb2 := s[2].toNat_lt
  have c0 := idx_run s 0 (by omega) 0 rfl
  have c1 := idx_run s 1 (by omega) 1 rfl
  have c2 := idx_run s 2 (by omega) 2 rfl
  have c3 := cut_from s 3 (by omega) 3 rfl
  have HE : Hid (ent1 s.data.toList = if s.size < 3 + s[1].toNat + s[2].toNat ∨ s[1].toNat < 1 ∨ 20 < s[1].toNat ∨ 30 < s[2].toNat then none else if pb = true then some (⟨true, (s.data.toList.drop 3).take s[1].toNat, (s.data.toList.drop (3 + s[1].toNat)).take s[2].toNat⟩, 3 + s[1].toNat + s[2].toNat) else if s[2].toNat = 0 then some (⟨false, (s.data.toList.drop 3).take s[1].toNat, []⟩, 3 + s[1].toNat) else none) := by
    have hz : ent1 s.data.toList = if s.size < 3 + s[1].toNat + s[2].toNat ∨ s[1].toNat < 1 ∨ 20 < s[1].toNat ∨ 30 < s[2].toNat then none else if s[0] = 112 then some (⟨true, (s.data.toList.drop 3).take s[1].toNat, (s.data.toList.drop (3 + s[1].toNat)).take s[2].toNat⟩, 3 + s[1].toNat + s[2].toNat) else if s[0] = 100 ∧ s[2].toNat = 0 then some (⟨false, (s.data.toList.drop 3).take s[1].toNat, []⟩, 3 + s[1].toNat) else none := ent1_zero hl (by omega)
    show _ = _
    rw [hz]
    cases pb
    · rw [if_neg (c := s[0] = 112) hk.1, if_neg (c := false = true) (by decide)]
      by_cases hv : s[2].toNat = 0
      · rw [if_pos (c := s[0] = 100 ∧ s[2].toNat = 0) ⟨hk.2, hv⟩, if_pos (c := s[2].toNat = 0) hv]
      · rw [if_neg (c := s[0] = 100 ∧ s[2].toNat = 0) (fun h => hv h.2), if_neg (c := s[2].toNat = 0) hv]
    · rw [if_pos (c := s[0] = 112) hk, if_pos (c := true = true) rfl]
  clear hk
  go_enter Tryz.func205, Tryz.ntmps205
  obtain ⟨r, hr⟩ : ∃ r, r = S (s.data.toList.drop 3) := ⟨_, rfl⟩
  rw [← hr] at c3
  have hrs : r.size = s.size - 3 := by rw [hr, S_size]; simp
  have HRL : Hid (r.data.toList = s.data.toList.drop 3) := by show _ = _; rw [hr, S_data]
  clear hr
  have u1 := cut_upto r s[1].toNat (by omega) (s[1].toNat : Int) rfl
  have u2 := cut_run r s[1].toNat s[2].toNat (by omega) (s[1].toNat : Int) ((s[1].toNat : Int) + (s[2].toNat : Int)) rfl (by omega)
  have u3 := cut_from r (s[1].toNat + s[2].toNat) (by omega) ((s[1].toNat : Int) + (s[2].toNat : Int)) (by omega)
  rw [HRL.out] at u1 u2 u3
  obtain ⟨ky, hky⟩ : ∃ t, t = S ((s.data.toList.drop 3).take s[1].toNat) := ⟨_, rfl⟩
  obtain ⟨vl, hvl⟩ : ∃ t, t = S (((s.data.toList.drop 3).drop s[1].toNat).take s[2].toNat) := ⟨_, rfl⟩
  obtain ⟨rs, hrs2⟩ : ∃ t, t = S ((s.data.toList.drop 3).drop (s[1].toNat + s[2].toNat)) := ⟨_, rfl⟩
  rw [← hky] at u1
  rw [← hvl] at u2
  rw [← hrs2] at u3
  have kz : ky.size = s[1].toNat := by rw [hky, S_size]; simp; omega
  have vz : vl.size = s[2].toNat := by rw [hvl, S_size]; simp; omega
  have HGO : Hid (entR s.data.toList = if (keyB ky && decide (vl.size ≤ 30)) = true then .tuple #[.agg #[.bool pb, .string ky, .string vl], .string rs, .bool true] else .tuple #[.agg #[.bool false, .string ⟨#[]⟩, .string ⟨#[]⟩], .string ⟨#[]⟩, .bool false]) := by
    show _ = _
    have hkb : (keyB ky && decide (vl.size ≤ 30)) = true ↔ (1 ≤ s[1].toNat ∧ s[1].toNat ≤ 20) ∧ s[2].toNat ≤ 30 := by
      rw [keyB, kz, vz]; simp
    by_cases hq : (1 ≤ s[1].toNat ∧ s[1].toNat ≤ 20) ∧ s[2].toNat ≤ 30
    · rw [if_pos (hkb.2 hq)]
      have hno : ¬ (s.size < 3 + s[1].toNat + s[2].toNat ∨ s[1].toNat < 1 ∨ 20 < s[1].toNat ∨ 30 < s[2].toNat) := by omega
      cases pb
      · have hv : s[2].toNat = 0 := g2.resolve_left (by decide)
        rw [entR_some (show ent1 s.data.toList = some ((⟨false, (s.data.toList.drop 3).take s[1].toNat, []⟩ : Ent), 3 + s[1].toNat) by rw [HE.out, if_neg hno, if_neg (by decide), if_pos hv]), hky, hvl, hrs2, hv, Nat.add_zero, List.drop_drop]
        rfl
      · rw [entR_some (by rw [HE.out, if_neg hno, if_pos rfl]), hky, hvl, hrs2, List.drop_drop, List.drop_drop, Nat.add_assoc]
    · rw [if_neg (fun h => hq (hkb.1 h))]
      exact entR_none (by rw [HE.out, if_pos (by omega)])
  have m1 : IntKind.i64.wrap ((s[1].toNat : Int) + (s[2].toNat : Int)) = (s[1].toNat : Int) + (s[2].toNat : Int) := by rw [IntKind.wrap_i64]; omega
  have t4 : pb = false → ((s[2].toNat : Int) != 0) = false := by
    intro hp
    rcases g2 with g2 | g2
    · rw [hp] at g2; cases g2
    · rw [bne_eq_false_iff_eq]; omega
  clear HE HRL hky hvl hrs2 kz vz g2
  obtain ⟨pq, hpq⟩ : ∃ pq, pq = pb := ⟨_, rfl⟩
  have HPQ : Hid (pq = pb) := hpq
  clear hpq
  cases pb
  all_goals
    first | have t2' := t2 rfl | skip
    first | have t4' := t4 rfl | skip
    clear t2 t4
    go_wp2_with fail
    go_quiet (fail)
    go_wp2_with fail
    have hz3 : ((w.alloc (.cells #[.bool false, .string ⟨#[]⟩, .string ⟨#[]⟩] 106)).drewN nq).heap.size = w.heap.size + 1 := by simp
    have HC3 : Hid (Keep3 w ((w.alloc (.cells #[.bool false, .string ⟨#[]⟩, .string ⟨#[]⟩] 106)).drewN nq)) := keep3_new w nq
    generalize (w.alloc (.cells #[.bool false, .string ⟨#[]⟩, .string ⟨#[]⟩] 106)).drewN nq = W3 at *
    go_cut [8] (fun c wx => c = .pointer (some ⟨w.heap.size + 1, 0, none⟩) ∧ (wx.cell? ⟨w.heap.size + 1, 0, none⟩ = some (.bool pq) ∧ wx.cell? ⟨w.heap.size + 1, 1, none⟩ = some (.string ky) ∧ wx.cell? ⟨w.heap.size + 1, 2, none⟩ = some (.string vl)) ∧ Below W3.heap.size W3 wx ∧ w.heap.size + 1 < wx.heap.size)
    case first =>
      go_region_held3 (fun w' => W3.heap.size ≤ w'.heap.size) (first | (simp) | (simp; omega)) (first | (fail))
      all_goals
        go_wp2_with fail
        go_meet
        refine ⟨rfl, ⟨?_, ?_, ?_⟩, ?_, ?_⟩
        · rw [HPQ.out, ← hz3]; simp
        · rw [← hz3]; simp
        · rw [← hz3]; simp
        · first | exact ((Below.refl _ _).alloc (Nat.le_refl _) _).drew | exact (((Below.refl _ _).alloc (Nat.le_refl _) _).setCell (by simp) _).drew
        · simp; omega
    case rest =>
      obtain ⟨rfl, ⟨c0', c1', c2'⟩, hb2, hzz⟩ := hcut
      have HK := HC3.out.below hb2
      clear HC3 hb2 c0 c1 c2 c3 u1 u2
      rw [HPQ.out] at c0'
      go_wp2_with fail
      refine (isRight_any _ _ _ _).mono ?_
      rintro e w2 ⟨rfl, hb3⟩
      have HK2 := HK.below hb3
      obtain ⟨⟨r0, r1, r2⟩, rf, hB, hzr⟩ := HK2
      have f0 := rf 0
      have f1 := rf 1
      have f2 := rf 2
      have d0 := (hb3.cell (p := ⟨w.heap.size + 1, 0, none⟩) hzz).trans c0'
      have d1 := (hb3.cell (p := ⟨w.heap.size + 1, 1, none⟩) hzz).trans c1'
      have d2 := (hb3.cell (p := ⟨w.heap.size + 1, 2, none⟩) hzz).trans c2'
      have HB : Hid (Below w.heap.size w w2) := hB
      clear HK hb3 c0' c1' c2' rf hB
      generalize (keyB ky && decide (vl.size ≤ 30)) = q at *
      cases q
      · have HR : Hid (entR s.data.toList = .tuple #[.agg #[.bool false, .string ⟨#[]⟩, .string ⟨#[]⟩], .string ⟨#[]⟩, .bool false]) := HGO.out
        clear HGO u3
        go_wp2
        exact bodyPost_ret (v := .tuple #[.agg #[.bool false, .string ⟨#[]⟩, .string ⟨#[]⟩], .string ⟨#[]⟩, .bool false]) (by simp [results, Tryz.results205, go_sem, r0, r1, r2]) rfl ⟨by rw [HR.out], ((HB.out.setCell (Nat.le_refl _) _).setCell (Nat.le_refl _) _).setCell (Nat.le_refl _) _⟩
      · have HR : Hid (entR s.data.toList = _) := HGO.out
        clear HGO
        go_wp2_with fail
        go_region_held3 (fun w' => w'.cell? ⟨w.heap.size + 1, 0, none⟩ = w2.cell? ⟨w.heap.size + 1, 0, none⟩ ∧ w'.cell? ⟨w.heap.size + 1, 1, none⟩ = w2.cell? ⟨w.heap.size + 1, 1, none⟩ ∧ w'.cell? ⟨w.heap.size + 1, 2, none⟩ = w2.cell? ⟨w.heap.size + 1, 2, none⟩) (first | (exact ⟨far3 _ (by omega) _ _ _ 0, far3 _ (by omega) _ _ _ 1, far3 _ (by omega) _ _ _ 2⟩) | (exact ⟨rfl, rfl, rfl⟩)) (first | (fail))
        all_goals
          go_wp2
          exact bodyPost_ret (v := .tuple #[.agg #[.bool pq, .string ky, .string vl], .string rs, .bool true]) (by rw [HPQ.out]; simp [results, Tryz.results205, go_sem, r0, r1, r2]) rfl ⟨by rw [HR.out, HPQ.out]; rfl, (((HB.out.setCell (Nat.le_refl _) _).setCell (Nat.le_refl _) _).setCell (Nat.le_refl _) _).drew⟩

theorem readEntry_any (s : ByteArray) (w : World) (hs : s.size ≤ 140737488351232) :
    Calls Tryz.prog 205 #[.string s] w fun e w' => e = .returned (entR s.data.toList) ∧ Below w.heap.size w w' := by
  by_cases h3 : 3 ≤ s.size
  · by_cases hp : s[0] = 112
    · by_cases hb : s.size < 3 + s[1].toNat + s[2].toNat
      · exact readEntry_bad s w hs h3 true hp (.inl hb)
      · exact readEntry_good s w hs h3 true hp (by omega) (.inl rfl)
    · by_cases hd : s[0] = 100
      · by_cases hb : s.size < 3 + s[1].toNat + s[2].toNat
        · exact readEntry_bad s w hs h3 false ⟨hp, hd⟩ (.inl hb)
        · by_cases hv : s[2].toNat = 0
          · exact readEntry_good s w hs h3 false ⟨hp, hd⟩ (by omega) (.inr hv)
          · exact readEntry_bad s w hs h3 false ⟨hp, hd⟩ (.inr ⟨by omega, rfl, hv⟩)
      · exact readEntry_early s w hs (.inr ⟨h3, hp, hd⟩)
  · exact readEntry_early s w hs (.inl (by omega))

end Go.Proofs.YtdhgebdbiehchaaGreatDoor
