/- On the way: Found, Wrote, Dk, DkOk, RefLook. -/
import Derived.Test.YtdhgebdbiehchaaGreatDoorB08
import Derived.Test.YtdhgebdbiehchaaGreatDoorB03
namespace Go.Proofs.YtdhgebdbiehchaaGreatDoor
open Go.RowKit
set_option linter.unusedSimpArgs false
set_option linter.unusedVariables false
def Full (t : List (Option Slt)) (p : Nat) : Prop := ∃ x,t[p]? = some (some x)
def Stored (t : List (Option Slt)) (z : Slt) : Prop := ∃ p : Nat,t[p]? = some (some z)
def Path (t : List (Option Slt)) (x : Slt) (a : Nat) : Prop := ∀ j,j < awayN t.length x a -> Full t ((x.num % t.length + j) % t.length)
def Run (t : List (Option Slt)) : Prop := ∀ (p : Nat) (x : Slt),t[p]? = some (some x) -> Path t x p
theorem full_set {t : List (Option Slt)} {a p : Nat} (x : Slt) (h : Full t p) : Full (t.set a (some x)) p := by
 obtain ⟨y,hy⟩ := h
 have hp := (List.getElem?_eq_some_iff.1 hy).1
 by_cases e : a = p
 ·subst e; exact ⟨x,by rw [List.getElem?_set_self hp]⟩
 ·exact ⟨y,by rw [List.getElem?_set_ne e]; exact hy⟩
theorem path_set {t : List (Option Slt)} {a p : Nat} {z : Slt} (x : Slt) (h : Path t z p) : Path (t.set a (some x)) z p := by
 intro j hj
 rw [List.length_set] at hj ⊢
 exact full_set x (h j hj)
theorem away_home {n a : Nat} {x : Slt} (ha : a < n) : (x.num % n + awayN n x a) % n = a := by
 have hx := Nat.mod_lt x.num (show 0 < n by omega)
 rw [awayN_ref x ha]
 split
 ·rw [show x.num % n + (a + n - x.num % n) = a + n by omega,Nat.add_mod_right,Nat.mod_eq_of_lt ha]
 ·rw [show x.num % n + (a - x.num % n) = a by omega,Nat.mod_eq_of_lt ha]
theorem away_next {n a : Nat} {x : Slt} (ha : a < n) {j : Nat} (hj : j < awayN n x ((a + 1) % n)) : j <= awayN n x a := by
 have hx := Nat.mod_lt x.num (show 0 < n by omega)
 have hb := Nat.mod_lt (a + 1) (show 0 < n by omega)
 rw [awayN_ref x hb] at hj
 rw [awayN_ref x ha]
 by_cases h : a + 1 < n
 ·rw [Nat.mod_eq_of_lt h] at hj
  split at hj <;> split <;> omega
 ·have e : a + 1 = n := by omega
  rw [e,Nat.mod_self] at hj
  split at hj <;> split <;> omega
theorem path_next {t : List (Option Slt)} {a : Nat} {x : Slt} (ha : a < t.length) (h : Path t x a) (hf : Full t a) : Path t x ((a + 1) % t.length) := by
 intro j hj
 have := away_next ha hj
 by_cases e : j = awayN t.length x a
 ·subst e; rw [away_home ha]; exact hf
 ·exact h j (by omega)
theorem run_set {t : List (Option Slt)} {a : Nat} {x : Slt} (h : Run t) (hp : Path t x a) (ha : a < t.length) : Run (t.set a (some x)) := by
 intro p z hz
 by_cases e : a = p
 ·subst e
  rw [List.getElem?_set_self ha] at hz
  cases hz
  exact path_set x hp
 ·rw [List.getElem?_set_ne e] at hz
  exact path_set x (h p z hz)
theorem stored_set {t : List (Option Slt)} {a : Nat} {x : Slt} (ha : a < t.length) (z : Slt) : Stored (t.set a (some x)) z ↔ z = x \/ ∃ p : Nat,p ≠ a /\ t[p]? = some (some z) := by
 constructor
 ·rintro ⟨p,hp⟩
  by_cases e : a = p
  ·subst e; rw [List.getElem?_set_self ha] at hp; cases hp; exact .inl rfl
  ·rw [List.getElem?_set_ne e] at hp; exact .inr ⟨p,fun h => e h.symm,hp⟩
 ·rintro (rfl | ⟨p,hp,h⟩)
  ·exact ⟨a,by rw [List.getElem?_set_self ha]⟩
  ·exact ⟨p,by rw [List.getElem?_set_ne (fun h => hp h.symm)]; exact h⟩
theorem put_run (n e : Nat) (he : e < n) : ∀ (f : Nat) (t : List (Option Slt)) (x : Slt) (a : Nat),t.length = n -> a < n -> t[e]? = some none -> gap n e a < f -> Run t -> Path t x a ->
  Run (putF f t x a) /\ ∀ z,Stored (putF f t x a) z ↔ z = x \/ Stored t z := by
 intro f
 induction f with
 | zero => intro t x a _ _ _ h; omega
 | succ f ih =>
  intro t x a hn ha hfree hg hr hp
  rw [putF]
  cases ht : t[a]? with
  | none => exfalso; rw [List.getElem?_eq_none_iff] at ht; omega
  | some o =>
   cases o with
   | none =>
    simp only
    refine ⟨run_set hr hp (by omega),fun z => ?_⟩
    rw [stored_set (by omega)]
    constructor
    ·rintro (h | ⟨p,_,h⟩)
     ·exact .inl h
     ·exact .inr ⟨p,h⟩
    ·rintro (h | ⟨p,h⟩)
     ·exact .inl h
     ·exact .inr ⟨p,(fun e => by subst e; rw [ht] at h; cases h),h⟩
   | some y =>
    simp only
    have hae : a ≠ e := fun h => by subst h; rw [ht] at hfree; cases hfree
    have hgs := gap_step ha he hae
    have hnx : (a + 1) % n < n := Nat.mod_lt _ (by omega)
    rw [hn]
    split
    ·have hr2 := run_set (x := x) hr hp (by omega)
     have hpy : Path (t.set a (some x)) y ((a + 1) % n) := by
      have h1 : Path t y ((a + 1) % t.length) := path_next (by omega) (hr a y ht) ⟨y,ht⟩
      rw [hn] at h1
      exact path_set x h1
     obtain ⟨h1,h2⟩ := ih (t.set a (some x)) y ((a + 1) % n) (by simp [hn]) hnx (by rw [List.getElem?_set_ne hae]; exact hfree) (by omega) hr2 hpy
     refine ⟨h1,fun z => ?_⟩
     rw [h2,stored_set (by omega)]
     constructor
     ·rintro (rfl | rfl | ⟨p,_,h⟩)
      ·exact .inr ⟨a,ht⟩
      ·exact .inl rfl
      ·exact .inr ⟨p,h⟩
     ·rintro (rfl | ⟨p,h⟩)
      ·exact .inr (.inl rfl)
      ·by_cases e : p = a
       ·subst e; rw [ht] at h; cases h; exact .inl rfl
       ·exact .inr (.inr ⟨p,e,h⟩)
    ·have h1 : Path t x ((a + 1) % t.length) := path_next (by omega) hp ⟨y,ht⟩
     rw [hn] at h1
     exact ih t x ((a + 1) % n) hn hnx hfree (by omega) hr h1
theorem path_home {t : List (Option Slt)} (x : Slt) (h : 0 < t.length) : Path t x (x.num % t.length) := by
 intro j hj
 rw [awayN_ref x (Nat.mod_lt _ h),if_neg (by omega),Nat.sub_self] at hj
 omega
theorem fill_run {n : Nat} (xs : List Slt) (h : xs.length < n) : Run (fillL n xs) /\ ∀ z,Stored (fillL n xs) z ↔ z ∈ xs := by
 have gen : ∀ (k : Nat),k <= xs.length -> Run (fillL n (xs.take k)) /\ ∀ z,Stored (fillL n (xs.take k)) z ↔ z ∈ xs.take k := by
  intro k
  induction k with
  | zero =>
   intro _
   refine ⟨fun p x hx => ?_,fun z => ⟨?_,fun hz => by simp at hz⟩⟩
   ·have := List.mem_of_getElem? hx; simp [fillL] at this
   ·rintro ⟨p,hp⟩; have := List.mem_of_getElem? hp; simp [fillL] at this
  | succ k ih =>
   intro hk
   obtain ⟨h1,h2⟩ := ih (by omega)
   rw [List.take_succ_eq_append_getElem (show k < xs.length by omega),fillL_snoc]
   obtain ⟨e,he,hf⟩ := fillL_free (n := n) (xs := xs.take k) (by simp; omega)
   have hl := fillL_length n (xs.take k)
   have := put_run n e he n (fillL n (xs.take k)) xs[k] (xs[k].num % n) hl (Nat.mod_lt _ (by omega)) hf (gap_lt (by omega)) h1 (by have := path_home (t := fillL n (xs.take k)) xs[k] (by omega); rwa [hl] at this)
   unfold putL
   rw [hl]
   refine ⟨this.1,fun z => ?_⟩
   rw [this.2,h2,List.mem_append]
   simp [or_comm]
 have := gen xs.length (Nat.le_refl _)
 rwa [List.take_length] at this
theorem far_ge {n : Nat} {t : List (Option Slt)} {x : Slt} {p m : Nat} (h : t[p]? = some (some x)) (hp : p < m) : awayN n x p <= farP n t m := by
 induction m with
 | zero => omega
 | succ m ih =>
  by_cases e : p = m
  ·subst e; rw [farP_some h]; omega
  ·have := ih (by omega)
   rw [farP]
   split
   ·exact this
   ·omega
theorem tab_slot (t : List (Option Slt)) (pre post : List UInt8) (hpre : pre.length = 20) (i : Nat) (h : i < t.length) : slotL (pre ++ (tabB t ++ post)) i = sltB t[i] := by
 unfold slotL
 have e0 : (pre ++ (tabB t ++ post)).drop 20 = tabB t ++ post := by rw [<- hpre,List.drop_left]
 rw [<- List.drop_drop,e0]
 have e : tabB t = tabB (t.take i) ++ (sltB t[i] ++ tabB (t.drop (i + 1))) := by
  have h1 : t = t.take i ++ (t[i] :: t.drop (i + 1)) := by rw [<- List.drop_eq_getElem_cons h,List.take_append_drop]
  calc tabB t = tabB (t.take i ++ (t[i] :: t.drop (i + 1))) := congrArg tabB h1
   _ = _ := by simp only [tabB,List.flatMap_append,List.flatMap_cons]
 have l1 : (tabB (t.take i)).length = 10 * i := by rw [tabB_length]; simp; omega
 have e2 : (tabB (t.take i) ++ ((sltB t[i] ++ tabB (t.drop (i + 1))) ++ post)).drop (10 * i) = (sltB t[i] ++ tabB (t.drop (i + 1))) ++ post := by rw [<- l1,List.drop_left]
 rw [e,List.append_assoc,e2,List.append_assoc,List.take_append_of_le_length (by rw [sltB_length]; omega),List.take_of_length_le (by rw [sltB_length]; omega)]
theorem slt_parts {x : Slt} (h1 : x.num < 4294967296) (h2 : x.blk < 4294967296) (h3 : x.no < 256) :
  ((sltB (some x)).getD 0 0).toNat = 1 /\ highL (((sltB (some x)).drop 1).take 4) = x.num /\ highL (((sltB (some x)).drop 5).take 4) = x.blk /\ ((sltB (some x)).getD 9 0).toNat = x.no := by
 have e : sltB (some x) = [1] ++ (lowL x.num 4 ++ (lowL x.blk 4 ++ lowL x.no 1)) := by simp [sltB,lowL]
 have l1 := lowL_len x.num 4
 have l2 := lowL_len x.blk 4
 rw [e]
 refine ⟨rfl,?_,?_,?_⟩
 ·rw [List.drop_append_of_le_length (by simp),List.drop_of_length_le (by simp),List.nil_append,List.take_append_of_le_length (by omega),List.take_of_length_le (by omega),highL_lowL _ _ (by omega)]
 ·have : ([1] ++ (lowL x.num 4 ++ (lowL x.blk 4 ++ lowL x.no 1))).drop 5 = lowL x.blk 4 ++ lowL x.no 1 := by
   rw [<- List.append_assoc,List.drop_append_of_le_length (by simp [l1]),List.drop_of_length_le (by simp [l1]),List.nil_append]
  rw [this,List.take_append_of_le_length (by omega),List.take_of_length_le (by omega),highL_lowL _ _ (by omega)]
 ·have : ([1] ++ (lowL x.num 4 ++ (lowL x.blk 4 ++ lowL x.no 1)))[9]? = some (UInt8.ofNat (x.no % 256)) := by
   rw [<- List.append_assoc,<- List.append_assoc,List.getElem?_append_right (by simp [l1,l2])]
   simp [l1,l2,lowL]
  rw [List.getD_eq_getElem?_getD,this]
  simp
  omega
theorem slt_none : ((sltB none).getD 0 0).toNat = 0 := by decide
def PlaceIs (log : List UInt8) (blk : Int) (x : Sd) : Prop := ∃ es k,blockP log x.blk blk = some (es,k) /\ es[x.no]? = some ⟨x.put,x.key,x.val⟩
theorem saids_get {a i : Nat} {es : List Ent} {x : Sd} (h : x ∈ saids a i es) : x.blk = a /\ i <= x.no /\ es[x.no - i]? = some ⟨x.put,x.key,x.val⟩ := by
 induction es generalizing i with
 | nil => simp [saids] at h
 | cons e es ih =>
  rw [saids] at h
  rcases List.mem_cons.1 h with rfl | h
  ·exact ⟨rfl,Nat.le_refl _,by simp⟩
  ·obtain ⟨h1,h2,h3⟩ := ih h
   refine ⟨h1,by omega,?_⟩
   rw [show x.no - i = (x.no - (i + 1)) + 1 by omega,List.getElem?_cons_succ]
   exact h3
theorem read_place (log : List UInt8) (blk : Int) (n a : Nat) : ∀ x ∈ (readF n log blk a).1,PlaceIs log blk x := by
 induction n generalizing a with
 | zero => intro x hx; simp [readF] at hx
 | succ n ih =>
  intro x hx
  rw [readF] at hx
  split at hx
  ·simp at hx
  ·rename_i es k hb
   rcases List.mem_append.1 hx with hx | hx
   ·obtain ⟨h1,h2,h3⟩ := saids_get hx
    refine ⟨es,k,by rw [h1]; exact hb,by simpa using h3⟩
   ·exact ih _ x hx
theorem slot_says {log key : List UInt8} {blk : Int} {want k : Nat} {z : Slt} {x : Sd} (hp : PlaceIs log blk x) (hput : x.put = true) (hb : z.blk = x.blk) (hno : z.no = x.no) (hn : z.num < 4294967296) (hbl : z.blk < 4294967296) (hn2 : z.no < 256) :
  slotStep log key want blk k (sltB (some z)) = if z.num = want /\ x.key = key then some ⟨x.val,k + 1,0⟩ else none := by
 obtain ⟨p0,p1,p2,p3⟩ := slt_parts hn hbl hn2
 obtain ⟨es,kk,e1,e2⟩ := hp
 unfold slotStep
 rw [p0,p1,p2,p3,if_neg (by omega),hb,hno,e1]
 by_cases h : z.num = want
 ·rw [if_neg (by simp [h])]
  unfold entStep
  simp only [e2]
  rw [hput]
  by_cases hk : x.key = key <;> simp [h,hk]
 ·rw [if_pos (.inr h),if_neg (by simp [h])]
structure TabHolds (log : List UInt8) (seed bits : Int) (blk : Int) (live : List Sd) (t : List (Option Slt)) : Prop where
 run : Run t
 all : ∀ z,Stored t z ↔ z ∈ live.map (sltOf seed bits)
 keys : live.Pairwise (fun x y => x.key ≠ y.key)
 place : ∀ x ∈ live,PlaceIs log blk x /\ x.put = true /\ x.blk < 4294967296 /\ x.no < 256
 bits : 0 <= bits /\ bits <= 32
 pos : 0 < t.length
theorem TabHolds.slot {log : List UInt8} {seed bits blk : Int} {live : List Sd} {t : List (Option Slt)} (h : TabHolds log seed bits blk live t) {key : List UInt8} {p : Nat} {z : Slt} (hz : t[p]? = some (some z)) (want k : Nat) :
  ∃ x ∈ live,z = sltOf seed bits x /\ slotStep log key want blk k (sltB (some z)) = if z.num = want /\ x.key = key then some ⟨x.val,k + 1,0⟩ else none := by
 obtain ⟨x,hx,rfl⟩ := List.mem_map.1 ((h.all z).1 ⟨p,hz⟩)
 obtain ⟨h1,h2,h3,h4⟩ := h.place x hx
 have hr := numberI_range seed bits x.key h.bits.1 h.bits.2
 exact ⟨x,hx,rfl,slot_says h1 h2 rfl rfl (by show (numberI seed bits x.key).toNat < _; omega) h3 h4⟩
theorem look_there {log ix : List UInt8} {seed bits blk : Int} {live : List Sd} {t : List (Option Slt)} (h : TabHolds log seed bits blk live t) (hix : ∀ i (hi : i < t.length),slotL ix i = sltB t[i]) {x : Sd} (hx : x ∈ live) {p : Nat} (hp : t[p]? = some (some (sltOf seed bits x))) :
  ∀ (m k : Nat),k <= awayN t.length (sltOf seed bits x) p -> awayN t.length (sltOf seed bits x) p < k + m -> ∃ c,lookGo log ix x.key (numberI seed bits x.key).toNat t.length blk m k = ⟨x.val,c,0⟩ /\ 1 <= c /\ c <= k + m := by
 have hpl : p < t.length := (List.getElem?_eq_some_iff.1 hp).1
 intro m
 induction m with
 | zero => intro k h1 h2; omega
 | succ m ih =>
  intro k hk hkm
  have hi : ((numberI seed bits x.key).toNat + k) % t.length < t.length := Nat.mod_lt _ h.pos
  have hfull : Full t (((numberI seed bits x.key).toNat + k) % t.length) := by
   have e1 : ((numberI seed bits x.key).toNat + k) % t.length = ((sltOf seed bits x).num % t.length + k) % t.length := by
    show _ = ((numberI seed bits x.key).toNat % t.length + k) % t.length
    rw [Nat.mod_add_mod]
   rw [e1]
   by_cases e : k = awayN t.length (sltOf seed bits x) p
   ·rw [e,away_home hpl]; exact ⟨_,hp⟩
   ·exact h.run p _ hp k (by omega)
  obtain ⟨z,hz⟩ := hfull
  have hzi : t[((numberI seed bits x.key).toNat + k) % t.length] = some z := (List.getElem?_eq_some_iff.1 hz).2
  obtain ⟨y,hy,hyz,hs⟩ := h.slot (key := x.key) hz (numberI seed bits x.key).toNat k
  rw [<- hzi,<- hix _ hi] at hs
  by_cases hc : z.num = (numberI seed bits x.key).toNat /\ y.key = x.key
  ·rw [if_pos hc] at hs
   have : y = x := by
    by_cases e : y = x
    ·exact e
    ·exfalso
     rcases List.mem_iff_getElem.1 hy with ⟨i,hi1,e1⟩
     rcases List.mem_iff_getElem.1 hx with ⟨j,hj1,e2⟩
     have hpw := List.pairwise_iff_getElem.1 h.keys
     rcases Nat.lt_trichotomy i j with g | g | g
     ·have := hpw i j hi1 hj1 g; rw [e1,e2] at this; exact this hc.2
     ·subst g; exact e (e1.symm.trans e2)
     ·have := hpw j i hj1 hi1 g; rw [e1,e2] at this; exact this hc.2.symm
   subst this
   exact ⟨k + 1,lookGo_some hs,by omega,by omega⟩
  ·rw [if_neg hc] at hs
   by_cases e : k = awayN t.length (sltOf seed bits x) p
   ·exfalso
    have hpos : ((numberI seed bits x.key).toNat + k) % t.length = p := by
     have e1 : ((numberI seed bits x.key).toNat + k) % t.length = ((sltOf seed bits x).num % t.length + k) % t.length := by
      show _ = ((numberI seed bits x.key).toNat % t.length + k) % t.length
      rw [Nat.mod_add_mod]
     rw [e1,e,away_home hpl]
    rw [hpos,hp] at hz
    cases hz
    obtain ⟨p1,p2,p3,p4⟩ := h.place x hx
    have hr := numberI_range seed bits x.key h.bits.1 h.bits.2
    have hs2 := slot_says (key := x.key) (want := (numberI seed bits x.key).toNat) (k := k) (z := sltOf seed bits x) p1 p2 rfl rfl (by show (numberI seed bits x.key).toNat < _; omega) p3 p4
    rw [if_pos ⟨rfl,rfl⟩] at hs2
    rw [hix _ hi,hzi] at hs
    rw [hs] at hs2
    cases hs2
   ·obtain ⟨c,h1,h2,h3⟩ := ih (k + 1) (by omega) (by omega)
    exact ⟨c,by rw [lookGo_none hs]; exact h1,h2,by omega⟩
theorem look_not {log ix key : List UInt8} {seed bits blk : Int} {live : List Sd} {t : List (Option Slt)} (h : TabHolds log seed bits blk live t) (hix : ∀ i (hi : i < t.length),slotL ix i = sltB t[i]) (hno : ∀ x ∈ live,x.key ≠ key) (want : Nat) :
  ∀ (m k : Nat),1 <= m + k -> ∃ c,lookGo log ix key want t.length blk m k = ⟨[],c,2⟩ /\ 1 <= c /\ c <= k + m := by
 intro m
 induction m with
 | zero => intro k hk; exact ⟨k,rfl,by omega,by omega⟩
 | succ m ih =>
  intro k _
  have hi : (want + k) % t.length < t.length := Nat.mod_lt _ h.pos
  cases hz : t[(want + k) % t.length] with
  | none =>
   refine ⟨k + 1,lookGo_some ?_,by omega,by omega⟩
   rw [hix _ hi,hz]
   unfold slotStep
   rw [if_pos slt_none]
  | some z =>
   obtain ⟨y,hy,hyz,hs⟩ := h.slot (key := key) (p := (want + k) % t.length) (z := z) (by rw [List.getElem?_eq_getElem hi,hz]) want k
   rw [if_neg (fun hc => hno y hy hc.2)] at hs
   obtain ⟨c,h1,h2,h3⟩ := ih (k + 1) (by omega)
   exact ⟨c,by rw [lookGo_none (by rw [hix _ hi,hz]; exact hs)]; exact h1,h2,by omega⟩
theorem low_cut (pre mid post : List UInt8) (k n : Nat) (hk : pre.length = k) (hm : mid.length = n) : ((pre ++ (mid ++ post)).drop k).take n = mid := by
 rw [List.drop_append_of_le_length (by omega),List.drop_of_length_le (by omega),List.nil_append,List.take_append_of_le_length (by omega),List.take_of_length_le (by omega)]
theorem sealL_sealed (l : List UInt8) : sealedB (sealL l) = true := by
 unfold sealedB
 rw [sealL_length,show l.length + 4 - 4 = l.length by omega]
 have : (sealL l).take l.length = l := by unfold sealL; rw [List.take_append_of_le_length (by omega),List.take_of_length_le (by omega)]
 rw [this]
 simp
theorem sumI_lt (l : List UInt8) : 0 <= sumI l /\ sumI l < 4294967296 := by unfold sumI; omega
theorem front_back {a b c d e : Nat} (post : List UInt8) (hb : b < 65536) (hc : c < 65536) (hd : d < 4294967296) (he : e < 4294967296) :
  ixN (sealL (frontB a b c d e) ++ post) = b /\ ixFar (sealL (frontB a b c d e) ++ post) = c /\ ixSize (sealL (frontB a b c d e) ++ post) = d /\ ixSum (sealL (frontB a b c d e) ++ post) = e /\
  (sealL (frontB a b c d e) ++ post).take 20 = sealL (frontB a b c d e) /\ (sealL (frontB a b c d e) ++ post).take 2 = [73,88] := by
 have la := lowL_len a 2
 have lb := lowL_len b 2
 have lc := lowL_len c 2
 have ld := lowL_len d 4
 have le := lowL_len e 4
 have f1 := low_cut ([73,88] ++ lowL a 2) (lowL b 2) (lowL c 2 ++ (lowL d 4 ++ (lowL e 4 ++ (lowL (crcN (frontB a b c d e)) 4 ++ post)))) 4 2 (by simp [la]) lb
 have f2 := low_cut ([73,88] ++ lowL a 2 ++ lowL b 2) (lowL c 2) (lowL d 4 ++ (lowL e 4 ++ (lowL (crcN (frontB a b c d e)) 4 ++ post))) 6 2 (by simp [la,lb]) lc
 have f3 := low_cut ([73,88] ++ lowL a 2 ++ lowL b 2 ++ lowL c 2) (lowL d 4) (lowL e 4 ++ (lowL (crcN (frontB a b c d e)) 4 ++ post)) 8 4 (by simp [la,lb,lc]) ld
 have f4 := low_cut ([73,88] ++ lowL a 2 ++ lowL b 2 ++ lowL c 2 ++ lowL d 4) (lowL e 4) (lowL (crcN (frontB a b c d e)) 4 ++ post) 12 4 (by simp [la,lb,lc,ld]) le
 have e1 : sealL (frontB a b c d e) ++ post = [73,88] ++ lowL a 2 ++ (lowL b 2 ++ (lowL c 2 ++ (lowL d 4 ++ (lowL e 4 ++ (lowL (crcN (frontB a b c d e)) 4 ++ post))))) := by simp [sealL,frontB]
 refine ⟨?_,?_,?_,?_,?_,?_⟩
 ·unfold ixN; rw [e1,f1,highL_lowL _ _ (by omega)]
 ·unfold ixFar; rw [e1,show ([73,88] ++ lowL a 2 ++ (lowL b 2 ++ (lowL c 2 ++ (lowL d 4 ++ (lowL e 4 ++ (lowL (crcN (frontB a b c d e)) 4 ++ post)))))) = ([73,88] ++ lowL a 2 ++ lowL b 2 ++ (lowL c 2 ++ (lowL d 4 ++ (lowL e 4 ++ (lowL (crcN (frontB a b c d e)) 4 ++ post))))) by simp,f2,highL_lowL _ _ (by omega)]
 ·unfold ixSize; rw [e1,show ([73,88] ++ lowL a 2 ++ (lowL b 2 ++ (lowL c 2 ++ (lowL d 4 ++ (lowL e 4 ++ (lowL (crcN (frontB a b c d e)) 4 ++ post)))))) = ([73,88] ++ lowL a 2 ++ lowL b 2 ++ lowL c 2 ++ (lowL d 4 ++ (lowL e 4 ++ (lowL (crcN (frontB a b c d e)) 4 ++ post)))) by simp,f3,highL_lowL _ _ (by omega)]
 ·unfold ixSum; rw [e1,show ([73,88] ++ lowL a 2 ++ (lowL b 2 ++ (lowL c 2 ++ (lowL d 4 ++ (lowL e 4 ++ (lowL (crcN (frontB a b c d e)) 4 ++ post)))))) = ([73,88] ++ lowL a 2 ++ lowL b 2 ++ lowL c 2 ++ lowL d 4 ++ (lowL e 4 ++ (lowL (crcN (frontB a b c d e)) 4 ++ post))) by simp,f4,highL_lowL _ _ (by omega)]
 ·rw [List.take_append_of_le_length (by rw [sealL_length,frontB_length]; omega),List.take_of_length_le (by rw [sealL_length,frontB_length]; omega)]
 ·rw [e1]; rfl
theorem look_index {log ix : List UInt8} (h : indexS log = some ix) :
  20 <= ix.length /\ 1 <= ixFar ix + 1 /\ ixFar ix < 65536 /\ (∀ x ∈ liveL (readL log (hdBlk log) 14).1,∃ c,lookS log ix x.key = ⟨x.val,c,0⟩ /\ 1 <= c /\ c <= ixFar ix + 1) /\
  (∀ key,(∀ x ∈ liveL (readL log (hdBlk log) 14).1,x.key ≠ key) -> ∃ c,lookS log ix key = ⟨[],c,2⟩ /\ 1 <= c /\ c <= ixFar ix + 1) := by
 unfold indexS at h
 split at h
 ·cases h
 rename_i hl
 split at h
 ·cases h
 rename_i hh
 split at h
 ·cases h
 rename_i he
 split at h
 ·cases h
 rename_i h2
 have h := Option.some.inj h
 have hrise := readF_rise log (hdBlk log) (log.length - 14) 14
 have hplace := read_place log (hdBlk log) (log.length - 14) 14
 change _ /\ (∀ x ∈ (readL log (hdBlk log) 14).1,_) /\ _ at hrise
 change ∀ x ∈ (readL log (hdBlk log) 14).1,_ at hplace
 obtain ⟨_,hb,_⟩ := hrise
 generalize hL : liveL (readL log (hdBlk log) 14).1 = live at *
 have hmem : ∀ x ∈ live,PlaceIs log (hdBlk log) x /\ x.put = true /\ x.blk < 4294967296 /\ x.no < 256 := by
  intro x hx
  rw [<- hL] at hx
  have hm := liveL_mem hx
  have h1 := hb x hm.1
  exact ⟨hplace x hm.1,hm.2,by omega,by omega⟩
 have hkeys : live.Pairwise (fun x y => x.key ≠ y.key) := by rw [<- hL]; exact liveL_keys _
 have hbits : (0 : Int) <= (hdBits log : Int) /\ (hdBits log : Int) <= 32 := by
  have : headB log = true := by cases hq : headB log with | true => rfl | false => exact absurd hq hh
  unfold headB wellB at this
  simp at this
  omega
 have hsz := sizeL_bound (n := live.length) (by omega)
 have hbig := sizeL_big (n := live.length) (by omega)
 have hfr := fill_run (n := sizeL live.length) (live.map (sltOf (hdSeed log) (hdBits log))) (by simp; omega)
 have htl : (tableOf (hdSeed log) (hdBits log) live).length = sizeL live.length := fillL_length _ _
 have hfar := farP_lt (n := sizeL live.length) (by omega) (tableOf (hdSeed log) (hdBits log) live) (sizeL live.length)
 have hs := sumI_lt log
 have HH : TabHolds log (hdSeed log) (hdBits log) (hdBlk log) live (tableOf (hdSeed log) (hdBits log) live) := ⟨hfr.1,hfr.2,hkeys,hmem,hbits,by omega⟩
 unfold indexB at h
 obtain ⟨b1,b2,b3,b4,b5,b6⟩ := front_back (a := live.length) (b := sizeL live.length) (c := farP (sizeL live.length) (tableOf (hdSeed log) (hdBits log) live) (sizeL live.length)) (d := log.length) (e := (sumI log).toNat) (sealL (tabB (tableOf (hdSeed log) (hdBits log) live))) (by omega) (by omega) (by omega) (by omega)
 have hpl : (sealL (frontB live.length (sizeL live.length) (farP (sizeL live.length) (tableOf (hdSeed log) (hdBits log) live) (sizeL live.length)) log.length (sumI log).toNat)).length = 20 := by rw [sealL_length,frontB_length]
 rw [h] at b1 b2 b3 b4 b5 b6
 have hlen : ix.length = 20 + 10 * sizeL live.length + 4 := by
  rw [<- h,List.length_append,hpl,sealL_length,tabB_length,htl]; omega
 have hbeg : beginsE log ix = 0 := by
  unfold beginsE
  rw [if_neg (by
   rintro (h1 | h1 | h1 | h1 | h1)
   ·omega
   ·rw [b5,sealL_sealed] at h1; cases h1
   ·rw [b6] at h1; simp at h1
   ·omega
   ·exact h1 (by rw [b1]; exact hlen)),if_neg (by
   rintro (h1 | h1)
   ·exact h1 b3
   ·rw [b4] at h1; omega),if_neg hh]
 have hslot : ∀ i (hi : i < (tableOf (hdSeed log) (hdBits log) live).length),slotL ix i = sltB (tableOf (hdSeed log) (hdBits log) live)[i] := by
  intro i hi
  rw [<- h]
  unfold sealL
  exact tab_slot _ _ _ hpl i hi
 refine ⟨by omega,by omega,by omega,fun x hx => ?_,fun key hk => ?_⟩
 ·have hst : Stored (tableOf (hdSeed log) (hdBits log) live) (sltOf (hdSeed log) (hdBits log) x) := (HH.all _).2 (List.mem_map.2 ⟨x,hx,rfl⟩)
  obtain ⟨p,hp⟩ := hst
  have hpl2 := (List.getElem?_eq_some_iff.1 hp).1
  have hfg := far_ge (n := sizeL live.length) (m := sizeL live.length) hp (by omega)
  obtain ⟨c,h1,h2,h3⟩ := look_there HH hslot hx hp (ixFar ix + 1) 0 (Nat.zero_le _) (by rw [htl,b2]; omega)
  refine ⟨c,?_,h2,by omega⟩
  unfold lookS
  rw [if_pos hbeg,b1,<- htl]
  exact h1
 ·obtain ⟨c,h1,h2,h3⟩ := look_not HH hslot hk (numberI (hdSeed log) (hdBits log) key).toNat (ixFar ix + 1) 0 (by omega)
  refine ⟨c,?_,h2,by omega⟩
  unfold lookS
  rw [if_pos hbeg,b1,<- htl]
  exact h1
def entB (e : Ent) : List UInt8 := (if e.put = true then 112 else 100) :: UInt8.ofNat e.key.length :: UInt8.ofNat e.val.length :: (e.key ++ e.val)
def entsB (es : List Ent) : List UInt8 := es.flatMap entB
def blockB (es : List Ent) : List UInt8 := sealL (lowL es.length 1 ++ lowL (entsB es).length 2 ++ entsB es)
def headL (blk seed bits : Nat) : List UInt8 := sealL ([76,71] ++ lowL blk 2 ++ lowL seed 4 ++ lowL bits 2)
def EntOk (e : Ent) : Prop := 1 <= e.key.length /\ e.key.length <= 20 /\ e.val.length <= 30 /\ (e.put = false -> e.val = [])
structure BlkOk (blk : Nat) (es : List Ent) : Prop where
 some : es ≠ []
 most : es.length <= 255
 ok : ∀ e ∈ es,EntOk e
 size : 1 < es.length -> (entsB es).length <= blk
theorem entB_length (e : Ent) : (entB e).length = 3 + e.key.length + e.val.length := by simp [entB]; omega
theorem entsB_snoc (es : List Ent) (e : Ent) : entsB (es ++ [e]) = entsB es ++ entB e := by simp [entsB]
theorem entsB_le {es : List Ent} (h : ∀ e ∈ es,EntOk e) : (entsB es).length <= 53 * es.length := by
 induction es with
 | nil => simp [entsB]
 | cons e es ih =>
  have h1 := h e (by simp)
  have h2 := ih (fun x hx => h x (by simp [hx]))
  have h3 : (entsB (e :: es)).length = (entB e).length + (entsB es).length := by simp [entsB]
  have := h1.2.1
  have := h1.2.2.1
  rw [h3,entB_length,List.length_cons]
  omega
theorem headL_length (blk seed bits : Nat) : (headL blk seed bits).length = 14 := by simp [headL,sealL_length,lowL_len]
theorem blockB_length (es : List Ent) : (blockB es).length = 7 + (entsB es).length := by simp [blockB,sealL_length,lowL_len]; omega
theorem ent1_back {e : Ent} (h : EntOk e) (post : List UInt8) : ent1 (entB e ++ post) = some (e,(entB e).length) := by
 obtain ⟨h1,h2,h3,h4⟩ := h
 obtain ⟨put,key,val⟩ := e
 simp only at h1 h2 h3 h4
 have e1 : (UInt8.ofNat key.length).toNat = key.length := by simp; omega
 have e2 : (UInt8.ofNat val.length).toNat = val.length := by simp; omega
 rw [entB_length]
 show ent1 ((if put = true then 112 else 100) :: UInt8.ofNat key.length :: UInt8.ofNat val.length :: (key ++ val ++ post)) = _
 rw [ent1,e1,e2,if_neg (by rw [List.length_append,List.length_append]; omega)]
 have t1 : (key ++ val ++ post).take key.length = key := by rw [List.append_assoc,List.take_append_of_le_length (by omega),List.take_of_length_le (by omega)]
 have t2 : ((key ++ val ++ post).drop key.length).take val.length = val := by rw [List.append_assoc,List.drop_left,List.take_append_of_le_length (by omega),List.take_of_length_le (by omega)]
 rw [t1,t2]
 cases put
 ·have hv : val = [] := h4 rfl
  subst hv
  rw [if_neg (by decide),if_pos (by exact ⟨by decide,rfl⟩)]
  simp
 ·rw [if_pos (by decide)]
theorem ents_back {es : List Ent} (h : ∀ e ∈ es,EntOk e) : ents (entsB es) = some es := by
 induction es with
 | nil => rfl
 | cons e es ih =>
  have h1 : entsB (e :: es) = entB e ++ entsB es := by simp [entsB]
  rw [h1,ents_some (ent1_back (h e (by simp)) _),List.drop_left,ih (fun x hx => h x (by simp [hx]))]
  rfl
theorem drop_pre {α : Type} (pre l : List α) (k j : Nat) (h : pre.length = k) : (pre ++ l).drop (k + j) = l.drop j := by
 rw [<- h,<- List.drop_drop,List.drop_left]
theorem block_size {es : List Ent} (pre post : List UInt8) (h : (entsB es).length < 65536) : blkSize (pre ++ (blockB es ++ post)) pre.length = (entsB es).length := by
 unfold blkSize
 rw [drop_pre _ _ _ _ rfl]
 have e : blockB es ++ post = lowL es.length 1 ++ (lowL (entsB es).length 2 ++ (entsB es ++ (lowL (crcN (lowL es.length 1 ++ lowL (entsB es).length 2 ++ entsB es)) 4 ++ post))) := by simp [blockB,sealL]
 rw [e,low_cut _ _ _ 1 2 (lowL_len _ _) (lowL_len _ _),highL_lowL _ _ (by omega)]
theorem block_back {blk : Nat} {es : List Ent} (h : BlkOk blk es) (pre post : List UInt8) (hp : 14 <= pre.length) : blockP (pre ++ (blockB es ++ post)) pre.length blk = some (es,(blockB es).length) := by
 have hle := entsB_le h.ok
 have hm := h.most
 have hs := block_size (es := es) pre post (by omega)
 have hl := blockB_length es
 have hlen : (pre ++ (blockB es ++ post)).length = pre.length + (7 + (entsB es).length + post.length) := by simp [hl]
 unfold blockP
 rw [hs,if_neg (by omega),if_neg (by omega)]
 have c1 : ((pre ++ (blockB es ++ post)).drop pre.length).take (7 + (entsB es).length) = blockB es := by
  rw [List.drop_left,List.take_append_of_le_length (by omega),List.take_of_length_le (by omega)]
 have c2 : ((pre ++ (blockB es ++ post)).drop (pre.length + 3)).take (entsB es).length = entsB es := by
  rw [drop_pre _ _ _ _ rfl]
  have e : blockB es ++ post = (lowL es.length 1 ++ lowL (entsB es).length 2) ++ (entsB es ++ (lowL (crcN (lowL es.length 1 ++ lowL (entsB es).length 2 ++ entsB es)) 4 ++ post)) := by simp [blockB,sealL]
  rw [e,low_cut _ _ _ 3 _ (by simp [lowL_len]) rfl]
 have c3 : ((pre ++ (blockB es ++ post)).getD pre.length 0).toNat = es.length := by
  rw [List.getD_eq_getElem?_getD,List.getElem?_append_right (Nat.le_refl _),Nat.sub_self]
  have e : blockB es ++ post = UInt8.ofNat (es.length % 256) :: (lowL (entsB es).length 2 ++ (entsB es ++ (lowL (crcN (lowL es.length 1 ++ lowL (entsB es).length 2 ++ entsB es)) 4 ++ post))) := by simp [blockB,sealL,lowL]
  rw [e]
  simp
  omega
 rw [c1,c2,c3,ents_back h.ok,show sealedB (blockB es) = true from sealL_sealed _]
 unfold blkTail
 have hn := h.some
 have hl0 : es.length ≠ 0 := fun e => hn (List.length_eq_zero_iff.1 e)
 simp only
 rw [if_neg (by
  rintro (h1 | h1 | ⟨h1,h2⟩)
  ·exact hl0 h1
  ·exact h1 rfl
  ·have := h.size h1
   omega),hl]
def blocksB (bs : List (List Ent)) : List UInt8 := bs.flatMap blockB
def sdsB : Nat -> List (List Ent) -> List Sd
 | _,[] => []
 | a,es :: bs => saids a 0 es ++ sdsB (a + (blockB es).length) bs
theorem blocksB_cons (es : List Ent) (bs : List (List Ent)) : blocksB (es :: bs) = blockB es ++ blocksB bs := by simp [blocksB]
theorem blocksB_snoc (es : List Ent) (bs : List (List Ent)) : blocksB (bs ++ [es]) = blocksB bs ++ blockB es := by simp [blocksB]
theorem read_back {blk : Nat} (bs : List (List Ent)) (h : ∀ es ∈ bs,BlkOk blk es) (pre rest : List UInt8) (hp : 14 <= pre.length) (hr : blockP (pre ++ (blocksB bs ++ rest)) (pre.length + (blocksB bs).length) blk = none) :
  readL (pre ++ (blocksB bs ++ rest)) blk pre.length = (sdsB pre.length bs,pre.length + (blocksB bs).length) := by
 induction bs generalizing pre with
 | nil => simp only [blocksB,List.flatMap_nil,List.length_nil,Nat.add_zero] at hr ⊢; exact readL_none hr
 | cons es bs ih =>
  have hb := h es (by simp)
  have e1 : pre ++ (blocksB (es :: bs) ++ rest) = pre ++ (blockB es ++ (blocksB bs ++ rest)) := by simp [blocksB_cons]
  have e2 : pre ++ (blocksB (es :: bs) ++ rest) = (pre ++ blockB es) ++ (blocksB bs ++ rest) := by simp [blocksB_cons]
  have e3 : pre.length + (blocksB (es :: bs)).length = (pre ++ blockB es).length + (blocksB bs).length := by simp [blocksB_cons]; omega
  have hbk := block_back hb pre (blocksB bs ++ rest) hp
  rw [<- e1] at hbk
  rw [readL_some hbk]
  have := ih (fun x hx => h x (by simp [hx])) (pre ++ blockB es) (by simp; omega) (by rw [<- e2,<- e3]; exact hr)
  rw [<- e2] at this
  rw [show pre.length + (blockB es).length = (pre ++ blockB es).length by simp,this,<- e3]
  rw [sdsB]
  simp
theorem head_back {blk seed bits : Nat} (h1 : 1 <= blk) (h2 : blk <= 400) (h3 : seed <= 4294967295) (h4 : bits <= 32) (post : List UInt8) :
  headB (headL blk seed bits ++ post) = true /\ hdBlk (headL blk seed bits ++ post) = blk /\ hdSeed (headL blk seed bits ++ post) = seed /\ hdBits (headL blk seed bits ++ post) = bits := by
 have la := lowL_len blk 2
 have lb := lowL_len seed 4
 have lc := lowL_len bits 2
 have e1 : headL blk seed bits ++ post = [76,71] ++ (lowL blk 2 ++ (lowL seed 4 ++ (lowL bits 2 ++ (lowL (crcN ([76,71] ++ lowL blk 2 ++ lowL seed 4 ++ lowL bits 2)) 4 ++ post)))) := by simp [headL,sealL]
 have f1 := low_cut [76,71] (lowL blk 2) (lowL seed 4 ++ (lowL bits 2 ++ (lowL (crcN ([76,71] ++ lowL blk 2 ++ lowL seed 4 ++ lowL bits 2)) 4 ++ post))) 2 2 rfl la
 have f2 := low_cut ([76,71] ++ lowL blk 2) (lowL seed 4) (lowL bits 2 ++ (lowL (crcN ([76,71] ++ lowL blk 2 ++ lowL seed 4 ++ lowL bits 2)) 4 ++ post)) 4 4 (by simp [la]) lb
 have f3 := low_cut ([76,71] ++ lowL blk 2 ++ lowL seed 4) (lowL bits 2) (lowL (crcN ([76,71] ++ lowL blk 2 ++ lowL seed 4 ++ lowL bits 2)) 4 ++ post) 8 2 (by simp [la,lb]) lc
 have g1 : hdBlk (headL blk seed bits ++ post) = blk := by unfold hdBlk; rw [e1,f1,highL_lowL _ _ (by omega)]
 have g2 : hdSeed (headL blk seed bits ++ post) = seed := by
  unfold hdSeed
  rw [e1,show ([76,71] ++ (lowL blk 2 ++ (lowL seed 4 ++ (lowL bits 2 ++ (lowL (crcN ([76,71] ++ lowL blk 2 ++ lowL seed 4 ++ lowL bits 2)) 4 ++ post))))) = ([76,71] ++ lowL blk 2 ++ (lowL seed 4 ++ (lowL bits 2 ++ (lowL (crcN ([76,71] ++ lowL blk 2 ++ lowL seed 4 ++ lowL bits 2)) 4 ++ post)))) by simp only [List.append_assoc],f2,highL_lowL _ _ (by omega)]
 have g3 : hdBits (headL blk seed bits ++ post) = bits := by
  unfold hdBits
  rw [e1,show ([76,71] ++ (lowL blk 2 ++ (lowL seed 4 ++ (lowL bits 2 ++ (lowL (crcN ([76,71] ++ lowL blk 2 ++ lowL seed 4 ++ lowL bits 2)) 4 ++ post))))) = ([76,71] ++ lowL blk 2 ++ lowL seed 4 ++ (lowL bits 2 ++ (lowL (crcN ([76,71] ++ lowL blk 2 ++ lowL seed 4 ++ lowL bits 2)) 4 ++ post))) by simp only [List.append_assoc],f3,highL_lowL _ _ (by omega)]
 refine ⟨?_,g1,g2,g3⟩
 have hl := headL_length blk seed bits
 have t1 : (headL blk seed bits ++ post).take 14 = headL blk seed bits := by rw [List.take_append_of_le_length (by omega),List.take_of_length_le (by omega)]
 have t2 : (headL blk seed bits ++ post).take 2 = [76,71] := by rw [e1]; rfl
 unfold headB wellB
 rw [g1,g2,g3,t1,t2,show sealedB (headL blk seed bits) = true from sealL_sealed _]
 simp
 omega
structure Fl where
 text : List UInt8
 sync : Nat
structure Dk where
 room : Nat
 down : Bool
 f0 : Option Fl
 f1 : Option Fl
 f2 : Option Fl
 left : Option (Nat × Nat)
 opn : Option Nat
 waits : List Ent
def Dk.file (d : Dk) (i : Nat) : Option Fl := if i = 0 then d.f0 else if i = 1 then d.f1 else if i = 2 then d.f2 else none
def Dk.put (d : Dk) (i : Nat) (f : Option Fl) : Dk := if i = 0 then { d with f0 := f } else if i = 1 then { d with f1 := f } else if i = 2 then { d with f2 := f } else d
def lenF (f : Option Fl) : Nat := match f with | none => 0 | some f => f.text.length
def Dk.used (d : Dk) : Nat := lenF d.f0 + lenF d.f1 + lenF d.f2
def Fl.fall (keep : Nat) (f : Fl) : Fl := ⟨f.text.take (f.sync + min keep (f.text.length - f.sync)),f.sync + min keep (f.text.length - f.sync)⟩
def Dk.falls (d : Dk) (keep : Nat) : Dk := { d with down := true,f0 := d.f0.map (Fl.fall keep),f1 := d.f1.map (Fl.fall keep),f2 := d.f2.map (Fl.fall keep),left := none,opn := none,waits := [] }
def Dk.count (d : Dk) : Bool × Dk := match d.left with
 | none => (true,d)
 | some (0,k) => (false,d.falls k)
 | some (n + 1,k) => (true,{ d with left := some (n,k) })
structure St where
 tag : Nat
 i : Nat
 n : Nat
 text : List UInt8
def stMake (i : Nat) : St := ⟨0,i,0,[]⟩
def stAppend (i : Nat) (t : List UInt8) : St := ⟨1,i,0,t⟩
def stSync (i : Nat) : St := ⟨3,i,0,[]⟩
def stRename (i j : Nat) : St := ⟨4,i,j,[]⟩
def Dk.take (d : Dk) (s : St) : Int × Dk :=
 if s.tag = 0 then (0,d.put s.i (some ⟨[],0⟩))
 else match d.file s.i with
 | none => (2,d)
 | some f =>
  if s.tag = 1 then (if d.room < d.used + s.text.length then (6,d) else (0,d.put s.i (some ⟨f.text ++ s.text,f.sync⟩)))
  else if s.tag = 2 then (0,d.put s.i (some ⟨f.text.take s.n,min f.sync (min s.n f.text.length)⟩))
  else if s.tag = 3 then (0,d.put s.i (some ⟨f.text,f.text.length⟩))
  else if s.tag = 4 then (0,(d.put s.i none).put s.n (some f))
  else (0,d.put s.i none)
def Dk.steps (d : Dk) : List St -> Int × Dk
 | [] => (0,d)
 | s :: ss => match d.count with
  | (false,d') => (8,d')
  | (true,d') => match d'.take s with
   | (e,d'') => if e = 0 then d''.steps ss else (e,d'')
def Dk.opens (d : Dk) (blk : Nat) : Dk := { d with opn := some blk,waits := [] }
def diskD (room : Int) : Option Dk := if room < 0 \/ 100000 < room then none else some ⟨room.toNat,false,none,none,none,none,none,[]⟩
def Dk.opening (d : Dk) (blk : Nat) (ss : List St) : Int × Dk := match d.steps ss with
 | (e,d') => if e = 0 then (0,d'.opens blk) else (e,d')
def Dk.create (d : Dk) (blk seed bits : Int) : Int × Dk :=
 if wellB blk seed bits = false then (1,d)
 else if d.down = true then (7,d)
 else if d.f0.isSome = true then (5,d)
 else d.opening blk.toNat [stMake 0,stAppend 0 (headL blk.toNat seed.toNat bits.toNat),stSync 0]
def Dk.write (d : Dk) : Int × Dk := match d.steps [stAppend 0 (blockB d.waits)] with
 | (e,d') => if e = 0 then (0,{ d' with waits := [] }) else (e,d')
def Dk.fits (d : Dk) (blk : Nat) (e : Ent) : Bool := d.waits.isEmpty || (decide (d.waits.length < 255) && decide ((entsB d.waits).length + (entB e).length <= blk))
def Dk.add (d : Dk) (e : Ent) : Int × Dk :=
 if e.key.length < 1 \/ 20 < e.key.length \/ 30 < e.val.length then (1,d)
 else if d.down = true then (7,d)
 else match d.opn with
 | none => (2,d)
 | some blk =>
  if d.fits blk e = true then (0,{ d with waits := d.waits ++ [e] })
  else match d.write with
  | (r,d') => if r = 0 then (0,{ d' with waits := d'.waits ++ [e] }) else (r,d')
def Dk.flush (d : Dk) : Int × Dk :=
 if d.down = true then (7,d)
 else match d.opn with
 | none => (2,d)
 | some _ =>
  if d.waits.isEmpty = true then d.steps [stSync 0]
  else match d.write with
  | (r,d') => if r = 0 then d'.steps [stSync 0] else (r,d')
def Dk.build (d : Dk) : Int × Dk :=
 if d.down = true then (7,d)
 else match d.f0 with
 | none => (2,d)
 | some f => match indexS f.text with
  | none => (3,d)
  | some ix => d.steps [stMake 1,stAppend 1 ix,stSync 1,stRename 1 2]
def Dk.both (d : Dk) : Option (List UInt8 × List UInt8) := match d.f0,d.f2 with
 | some f,some g => some (f.text,g.text)
 | _,_ => none
def Dk.get (d : Dk) (key : List UInt8) : List UInt8 × Int :=
 if d.down = true then ([],7)
 else match d.both with
 | none => ([],2)
 | some (log,ix) => ((lookS log ix key).val,(lookS log ix key).err)
def saidE (log ix : List UInt8) : Int := if beginsE log ix ≠ 0 then beginsE log ix else if indexS log = some ix then 0 else 3
def Dk.all (d : Dk) (called : Bool) : List Sd × Int :=
 if d.down = true then ([],7)
 else match d.both with
 | none => ([],2)
 | some (log,ix) => if saidE log ix = 0 then (if called = true then [] else liveL (readL log (hdBlk log) 14).1,0) else ([],saidE log ix)
def Dk.fail (d : Dk) (steps keep : Int) : Int × Dk :=
 if steps < 0 \/ keep < 0 then (1,d)
 else if d.down = true then (7,d)
 else if steps = 0 then (0,d.falls keep.toNat)
 else (0,{ d with left := some (steps.toNat,keep.toNat) })
def Dk.start (d : Dk) : Int × Dk := if d.down = true then (0,{ d with down := false }) else (1,d)
def nameN (name : List UInt8) : Nat := if name = [108,111,103] then 0 else if name = [110,101,119] then 1 else if name = [105,110,100,101,120] then 2 else 3
def Dk.fileR (d : Dk) (name : List UInt8) : List UInt8 × Int :=
 if d.down = true then ([],7)
 else match d.file (nameN name) with
 | none => ([],2)
 | some f => (f.text,0)
structure DkOk (d : Dk) : Prop where
 room : d.room <= 100000
 used : d.used <= d.room
 sync : ∀ i f,d.file i = some f -> f.sync <= f.text.length
 opn : ∀ blk,d.opn = some blk -> d.f0.isSome = true /\ 1 <= blk /\ blk <= 400 /\ d.down = false
 waits : d.opn = none -> d.waits = []
 ents : ∀ e ∈ d.waits,EntOk e
 most : d.waits.length <= 255
 size : ∀ blk,d.opn = some blk -> 1 < d.waits.length -> (entsB d.waits).length <= blk
def StFine (s : St) : Prop := (s.tag = 4 -> s.i ≠ 0) /\ (s.tag = 5 -> s.i ≠ 0) /\ s.tag <= 5
theorem dk_cases (d : Dk) (i : Nat) (f : Option Fl) : (i = 0 /\ d.put i f = { d with f0 := f }) \/ (i = 1 /\ d.put i f = { d with f1 := f }) \/ (i = 2 /\ d.put i f = { d with f2 := f }) \/ (3 <= i /\ d.put i f = d) := by
 unfold Dk.put
 by_cases h0 : i = 0
 ·left; simp [h0]
 ·by_cases h1 : i = 1
  ·right; left; simp [h1]
  ·by_cases h2 : i = 2
   ·right; right; left; simp [h2]
   ·right; right; right; simp [h0,h1,h2]; omega
theorem file_put (d : Dk) (i j : Nat) (f : Option Fl) (hi : i <= 2) : (d.put i f).file j = if j = i then f else d.file j := by
 rcases dk_cases d i f with ⟨rfl,h⟩ | ⟨rfl,h⟩ | ⟨rfl,h⟩ | ⟨h3,_⟩
 ·rw [h]; unfold Dk.file; by_cases h0 : j = 0 <;> simp [h0]
 ·rw [h]; unfold Dk.file; by_cases h0 : j = 0 <;> by_cases h1 : j = 1 <;> simp [h0,h1]
 ·rw [h]; unfold Dk.file; by_cases h0 : j = 0 <;> by_cases h1 : j = 1 <;> by_cases h2 : j = 2 <;> simp [h0,h1,h2]
 ·omega
theorem file_le {d : Dk} {i : Nat} {f : Fl} (h : d.file i = some f) : i <= 2 := by
 unfold Dk.file at h
 split at h
 ·omega
 ·split at h
  ·omega
  ·split at h
   ·omega
   ·cases h
theorem used_put (d : Dk) (i : Nat) (f : Option Fl) (hi : i <= 2) : (d.put i f).used + lenF (d.file i) = d.used + lenF f := by
 rcases dk_cases d i f with ⟨rfl,h⟩ | ⟨rfl,h⟩ | ⟨rfl,h⟩ | ⟨h3,_⟩
 ·rw [h]; unfold Dk.used Dk.file; simp; omega
 ·rw [h]; unfold Dk.used Dk.file; simp; omega
 ·rw [h]; unfold Dk.used Dk.file; simp; omega
 ·omega
theorem put_same (d : Dk) (i : Nat) (f : Option Fl) : (d.put i f).room = d.room /\ (d.put i f).down = d.down /\ (d.put i f).left = d.left /\ (d.put i f).opn = d.opn /\ (d.put i f).waits = d.waits := by
 rcases dk_cases d i f with ⟨rfl,h⟩ | ⟨rfl,h⟩ | ⟨rfl,h⟩ | ⟨h3,h⟩ <;> rw [h] <;> exact ⟨rfl,rfl,rfl,rfl,rfl⟩
theorem file_0 (d : Dk) : d.file 0 = d.f0 := rfl
theorem file_2 (d : Dk) : d.file 2 = d.f2 := rfl
theorem file_1 (d : Dk) : d.file 1 = d.f1 := rfl
theorem DkOk.put {d : Dk} (h : DkOk d) {i : Nat} (hi : i <= 2) {f : Option Fl} (hu : lenF f + d.used <= d.room + lenF (d.file i)) (hs : ∀ g,f = some g -> g.sync <= g.text.length) (h0 : i = 0 -> f.isSome = true) : DkOk (d.put i f) := by
 obtain ⟨p1,p2,p3,p4,p5⟩ := put_same d i f
 have hup := used_put d i f hi
 refine ⟨by rw [p1]; exact h.room,by rw [p1]; omega,fun j g hj => ?_,fun blk hb => ?_,?_,?_,?_,?_⟩
 ·rw [file_put d i j f hi] at hj
  split at hj
  ·exact hs g hj
  ·exact h.sync j g hj
 ·rw [p4] at hb
  obtain ⟨a,b,c,e⟩ := h.opn blk hb
  refine ⟨?_,b,c,by rw [p2]; exact e⟩
  rw [<- file_0,file_put d i 0 f hi]
  split
  ·rename_i e0; exact h0 e0.symm
  ·exact a
 ·rw [p4,p5]; exact h.waits
 ·rw [p5]; exact h.ents
 ·rw [p5]; exact h.most
 ·rw [p4,p5]; exact h.size
theorem fall_len (k : Nat) (f : Option Fl) : lenF (f.map (Fl.fall k)) <= lenF f := by
 cases f with
 | none => exact Nat.le_refl _
 | some f => simp [lenF,Fl.fall]; omega
theorem DkOk.falls {d : Dk} (h : DkOk d) (k : Nat) : DkOk (d.falls k) := by
 have l0 := fall_len k d.f0
 have l1 := fall_len k d.f1
 have l2 := fall_len k d.f2
 have hu := h.used
 refine ⟨h.room,?_,fun i f hf => ?_,(fun blk hb => by cases hb),fun _ => rfl,(fun e he => by cases he),by simp [Dk.falls],(fun blk hb => by cases hb)⟩
 ·unfold Dk.used at hu ⊢
  show lenF (d.f0.map _) + lenF (d.f1.map _) + lenF (d.f2.map _) <= d.room
  omega
 ·have e : (d.falls k).file i = (d.file i).map (Fl.fall k) := by
   unfold Dk.file Dk.falls
   split
   ·rfl
   ·split
    ·rfl
    ·split
     ·rfl
     ·rfl
  rw [e] at hf
  cases hg : d.file i with
  | none => rw [hg] at hf; cases hf
  | some g =>
   rw [hg] at hf
   simp at hf
   have := h.sync i g hg
   subst hf
   simp [Fl.fall]
   omega
theorem DkOk.count {d : Dk} (h : DkOk d) : DkOk d.count.2 := by
 unfold Dk.count
 split
 ·exact h
 ·exact h.falls _
 ·exact ⟨h.room,h.used,h.sync,h.opn,h.waits,h.ents,h.most,h.size⟩
theorem DkOk.take {d : Dk} (h : DkOk d) {s : St} (hs : StFine s) : DkOk (d.take s).2 := by
 have hu := h.used
 unfold Dk.take
 split
 ·rename_i ht
  by_cases hi : s.i <= 2
  ·exact h.put hi (by simp [lenF]; omega) (fun g e => by cases e; exact Nat.le_refl _) (fun _ => rfl)
  ·rcases dk_cases d s.i (some ⟨[],0⟩) with ⟨e,_⟩ | ⟨e,_⟩ | ⟨e,_⟩ | ⟨_,e⟩
   ·omega
   ·omega
   ·omega
   ·show DkOk (d.put s.i (some ⟨[],0⟩))
    rw [e]; exact h
 ·split
  ·exact h
  ·rename_i f hf
   have hi := file_le hf
   have hsy := h.sync _ _ hf
   have hlf : lenF (d.file s.i) = f.text.length := by rw [hf]; rfl
   split
   ·split
    ·exact h
    ·exact h.put hi (by rw [hlf]; simp [lenF]; omega) (fun g e => by cases e; simp; omega) (fun _ => rfl)
   ·split
    ·exact h.put hi (by rw [hlf]; simp [lenF]; omega) (fun g e => by cases e; simp; omega) (fun _ => rfl)
    ·split
     ·exact h.put hi (by rw [hlf]; simp [lenF]; omega) (fun g e => by cases e; exact Nat.le_refl _) (fun _ => rfl)
     ·split
      ·rename_i ht
       have h1 : DkOk (d.put s.i none) := h.put hi (by simp [lenF]; omega) (fun g e => by cases e) (fun e => absurd e (hs.1 ht))
       have u1 := used_put d s.i none hi
       rw [hlf] at u1
       simp only [lenF] at u1
       by_cases hn : s.n <= 2
       ·obtain ⟨p1,_⟩ := put_same d s.i none
        exact h1.put hn (by rw [p1]; simp [lenF]; omega) (fun g e => by cases e; exact hsy) (fun _ => rfl)
       ·rcases dk_cases (d.put s.i none) s.n (some f) with ⟨e,_⟩ | ⟨e,_⟩ | ⟨e,_⟩ | ⟨_,e⟩
        ·omega
        ·omega
        ·omega
        ·show DkOk ((d.put s.i none).put s.n (some f))
         rw [e]; exact h1
      ·exact h.put hi (by simp [lenF]; omega) (fun g e => by cases e) (fun e => absurd e (hs.2.1 (by have := hs.2.2; omega)))
theorem DkOk.steps {d : Dk} (h : DkOk d) (ss : List St) (hs : ∀ s ∈ ss,StFine s) : DkOk (d.steps ss).2 := by
 induction ss generalizing d with
 | nil => exact h
 | cons s ss ih =>
  have hc := h.count
  rw [Dk.steps]
  split
  ·rename_i d' e; rw [e] at hc; exact hc
  ·rename_i d' e
   rw [e] at hc
   have ht := DkOk.take hc (hs s (by simp))
   simp only at ht
   cases hk : d'.take s with
   | mk r d'' =>
    rw [hk] at ht
    simp only at ht ⊢
    split
    ·exact ih ht (fun x hx => hs x (by simp [hx]))
    ·exact ht
theorem take_same {d : Dk} (s : St) : (d.take s).2.down = d.down /\ (d.take s).2.opn = d.opn /\ (d.take s).2.waits = d.waits /\ (d.take s).2.room = d.room /\ (d.take s).2.left = d.left := by
 unfold Dk.take
 split
 ·obtain ⟨p1,p2,p3,p4,p5⟩ := put_same d s.i (some ⟨[],0⟩); exact ⟨p2,p4,p5,p1,p3⟩
 ·split
  ·exact ⟨rfl,rfl,rfl,rfl,rfl⟩
  ·rename_i f _
   split
   ·split
    ·exact ⟨rfl,rfl,rfl,rfl,rfl⟩
    ·obtain ⟨p1,p2,p3,p4,p5⟩ := put_same d s.i (some ⟨f.text ++ s.text,f.sync⟩); exact ⟨p2,p4,p5,p1,p3⟩
   ·split
    ·obtain ⟨p1,p2,p3,p4,p5⟩ := put_same d s.i (some ⟨f.text.take s.n,min f.sync (min s.n f.text.length)⟩); exact ⟨p2,p4,p5,p1,p3⟩
    ·split
     ·obtain ⟨p1,p2,p3,p4,p5⟩ := put_same d s.i (some ⟨f.text,f.text.length⟩); exact ⟨p2,p4,p5,p1,p3⟩
     ·split
      ·obtain ⟨p1,p2,p3,p4,p5⟩ := put_same d s.i none
       obtain ⟨q1,q2,q3,q4,q5⟩ := put_same (d.put s.i none) s.n (some f)
       exact ⟨q2.trans p2,q4.trans p4,q5.trans p5,q1.trans p1,q3.trans p3⟩
      ·obtain ⟨p1,p2,p3,p4,p5⟩ := put_same d s.i none; exact ⟨p2,p4,p5,p1,p3⟩
theorem count_same {d : Dk} (h : d.count.1 = true) : d.count.2.down = d.down /\ d.count.2.opn = d.opn /\ d.count.2.waits = d.waits /\ d.count.2.room = d.room /\ d.count.2.f0 = d.f0 /\ d.count.2.f1 = d.f1 /\ d.count.2.f2 = d.f2 := by
 unfold Dk.count at h ⊢
 split at h
 ·exact ⟨rfl,rfl,rfl,rfl,rfl,rfl,rfl⟩
 ·cases h
 ·exact ⟨rfl,rfl,rfl,rfl,rfl,rfl,rfl⟩
theorem steps_same {d : Dk} (ss : List St) : ((d.steps ss).1 ≠ 8 -> (d.steps ss).2.down = d.down /\ (d.steps ss).2.opn = d.opn /\ (d.steps ss).2.waits = d.waits) /\ ((d.steps ss).1 = 8 -> (d.steps ss).2.down = true /\ (d.steps ss).2.opn = none /\ (d.steps ss).2.waits = []) := by
 induction ss generalizing d with
 | nil => exact ⟨fun _ => ⟨rfl,rfl,rfl⟩,fun h => by simp [Dk.steps] at h⟩
 | cons s ss ih =>
  rw [Dk.steps]
  cases hc : d.count with
  | mk b d' =>
   cases b with
   | false =>
    simp only
    refine ⟨fun h => absurd rfl h,fun _ => ?_⟩
    unfold Dk.count at hc
    split at hc
    ·cases hc
    ·cases hc; exact ⟨rfl,rfl,rfl⟩
    ·cases hc
   | true =>
    simp only
    have c := count_same (d := d) (by rw [hc])
    rw [hc] at c
    obtain ⟨c1,c2,c3,_⟩ := c
    obtain ⟨t1,t2,t3,_⟩ := take_same (d := d') s
    cases ht : d'.take s with
    | mk e d'' =>
     rw [ht] at t1 t2 t3
     simp only at *
     split
     ·obtain ⟨i1,i2⟩ := ih (d := d'')
      exact ⟨fun h => by obtain ⟨a,b,c⟩ := i1 h; exact ⟨a.trans (t1.trans c1),b.trans (t2.trans c2),c.trans (t3.trans c3)⟩,i2⟩
     ·refine ⟨fun _ => ⟨t1.trans c1,t2.trans c2,t3.trans c3⟩,fun h => ?_⟩
      exfalso
      simp only at h
      subst h
      have : (d'.take s).1 = 0 \/ (d'.take s).1 = 2 \/ (d'.take s).1 = 6 := by
       unfold Dk.take
       split
       ·exact .inl rfl
       ·split
        ·exact .inr (.inl rfl)
        ·split
         ·split
          ·exact .inr (.inr rfl)
          ·exact .inl rfl
         ·split
          ·exact .inl rfl
          ·split
           ·exact .inl rfl
           ·split
            ·exact .inl rfl
            ·exact .inl rfl
      rw [ht] at this
      simp at this
def ansV (a : Ans) : Value := .tuple #[.string (S a.val),.int .i64 a.num,.int .i64 a.err]
theorem begins_zero {log ix : List UInt8} (h : beginsE log ix = 0) : ix.length = 20 + 10 * ixN ix + 4 /\ ixN ix ≠ 0 /\ headB log = true := by
 unfold beginsE at h
 by_cases h1 : ix.length < 20 \/ sealedB (ix.take 20) = false \/ (ix.take 2 == [73,88]) = false \/ ixN ix = 0 \/ ix.length ≠ 20 + 10 * ixN ix + 4
 ·rw [if_pos h1] at h; exact absurd h (by decide)
 ·rw [if_neg h1] at h
  by_cases h2 : ixSize ix ≠ log.length \/ (ixSum ix : Int) ≠ sumI log
  ·rw [if_pos h2] at h; exact absurd h (by decide)
  ·rw [if_neg h2] at h
   by_cases h3 : headB log = false
   ·rw [if_pos h3] at h; exact absurd h (by decide)
   ·simp only [not_or] at h1
    exact ⟨by omega,h1.2.2.2.1,by simpa using h3⟩
theorem head_well {l : List UInt8} (h : headB l = true) : (1 <= (hdBlk l : Int) /\ (hdBlk l : Int) <= 400) /\ (hdSeed l : Int) <= 4294967295 /\ (hdBits l : Int) <= 32 := by
 simp only [headB,wellB,Bool.and_eq_true,decide_eq_true_eq] at h
 omega
end Go.Proofs.YtdhgebdbiehchaaGreatDoor
