/- On the way: Chain, TabPut. -/
import Derived.Test.YtdhgebdbiehchaaGreatDoorB14
import Derived.Test.YtdhgebdbiehchaaGreatDoorB15
namespace Go.Proofs.YtdhgebdbiehchaaGreatDoor
open Go.RowKit
set_option linter.unusedSimpArgs false
set_option linter.unusedVariables false
set_option maxRecDepth 100000
set_option maxHeartbeats 3200000
structure Tb where
 a : Nat
 v : Value
 es : List Ent
 k : Nat
def Tb.sd (x : Tb) : List Sd := saids x.a 0 x.es
def sds (xs : List Tb) : List Sd := xs.flatMap Tb.sd
theorem sds_snoc (xs : List Tb) (x : Tb) : sds (xs ++ [x]) = sds xs ++ x.sd := by simp [sds]
def chain (log : List UInt8) (blk : Int) : Nat -> List Tb -> Nat -> Prop
 | a,[],e => e = a
 | a,x :: xs,e => x.a = a /\ blockP log a blk = some (x.es,x.k) /\ chain log blk (a + x.k) xs e
theorem chain_snoc {log : List UInt8} {blk : Int} {xs : List Tb} {x : Tb} : ∀ {a e : Nat},chain log blk a xs e -> x.a = e -> blockP log e blk = some (x.es,x.k) -> chain log blk a (xs ++ [x]) (e + x.k) := by
 induction xs with
 | nil =>
  intro a e h h1 h2
  have : e = a := h
  subst this
  exact ⟨h1,h2,rfl⟩
 | cons y xs ih =>
  intro a e h h1 h2
  exact ⟨h.1,h.2.1,ih h.2.2 h1 h2⟩
theorem chain_read {log : List UInt8} {blk : Int} {xs : List Tb} : ∀ {a e : Nat},chain log blk a xs e -> blockP log e blk = none -> readL log blk a = (sds xs,e) := by
 induction xs with
 | nil =>
  intro a e h hn
  have : e = a := h
  subst this
  exact readL_none hn
 | cons x xs ih =>
  intro a e h hn
  obtain ⟨h1,h2,h3⟩ := h
  rw [readL_some h2,ih h3 hn]
  show _ = (x.sd ++ sds xs,e)
  rw [Tb.sd,h1]
theorem chain_rise {log : List UInt8} {blk : Int} {xs : List Tb} : ∀ {a e : Nat},chain log blk a xs e -> (sds xs).Pairwise placeLt /\ (∀ y ∈ sds xs,a <= y.blk /\ y.blk < e /\ y.no < 255 /\ y.key.length <= 20) /\ a <= e /\ (a <= log.length -> e <= log.length) /\ (sds xs).length <= 255 * (e - a) := by
 induction xs with
 | nil =>
  intro a e h
  have : e = a := h
  subst this
  exact ⟨List.Pairwise.nil,by simp [sds],Nat.le_refl _,fun h => h,by simp [sds]⟩
 | cons x xs ih =>
  intro a e h
  obtain ⟨h1,h2,h3⟩ := h
  obtain ⟨i1,i2,i3,i4,i5⟩ := ih h3
  have hb := blockP_some h2
  obtain ⟨s1,s2⟩ := saids_rise x.a 0 x.es
  have s3 := saids_keys (a := x.a) (i := 0) (blockP_keys h2)
  have e1 : sds (x :: xs) = saids x.a 0 x.es ++ sds xs := rfl
  rw [e1]
  refine ⟨?_,?_,by omega,fun _ => i4 (by omega),?_⟩
  ·rw [List.pairwise_append]
   refine ⟨s1,i1,fun y hy z hz => .inl ?_⟩
   have := s2 y hy
   have := i2 z hz
   omega
  ·intro y hy
   rcases List.mem_append.1 hy with hy | hy
   ·have := s2 y hy
    have := s3 y hy
    omega
   ·have := i2 y hy
    omega
  ·rw [List.length_append,saids_length]
   omega
theorem lives_of {l : List Sd} (h : l.Pairwise placeLt) (hs : ∀ y ∈ l,y.blk < 4294967296 /\ y.no < 4294967296) : Lives (liveL l) :=
 ⟨liveL_keys l,liveL_rise h,fun x hx => hs x (liveL_mem hx).1⟩
def put4 (w : World) (g k : Nat) (a b c d : Value) : World := (((w.setCell ⟨g,k,none⟩ a).setCell ⟨g,k + 1,none⟩ b).setCell ⟨g,k + 2,none⟩ c).setCell ⟨g,k + 3,none⟩ d
theorem put4_far (w : World) {g m : Nat} (h : g ≠ m) (k : Nat) (a b c d : Value) (j : Nat) : (put4 w g k a b c d).cell? ⟨m,j,none⟩ = w.cell? ⟨m,j,none⟩ := by
 unfold put4
 rw [World.cell?_setCell_far _ _ _ _ h,World.cell?_setCell_far _ _ _ _ h,World.cell?_setCell_far _ _ _ _ h,World.cell?_setCell_far _ _ _ _ h]
theorem put4_size (w : World) (g k : Nat) (a b c d : Value) : (put4 w g k a b c d).heap.size = w.heap.size := by simp [put4]
theorem own_store4 {w : World} {base g cap n : Nat} {t : List (Option Slt)} {a : Nat} (x : Slt) (h : w.ownsRow base 175 4 (.slice (some ⟨g,0,none⟩) n cap) n (cellsP t)) (hl : t.length = n) (ha : a < n) :
  (put4 w g (a * 4) (.int .u8 1) (.int .i64 x.num) (.int .i64 x.blk) (.int .i64 x.no)).ownsRow base 175 4 (.slice (some ⟨g,0,none⟩) n cap) n (cellsP (t.set a (some x))) := by
 rw [<- cellsP_set (by omega) x]
 exact ((((h.stored _ _).1.stored _ _).1.stored _ _).1.stored _ _).1
theorem own_put4_other {w : World} {base e size g cap n : Nat} {xs : List Value} (h : w.ownsRow base e size (.slice (some ⟨g,0,none⟩) n cap) n xs) {b : Nat} (hb : g ≠ b) (k : Nat) (v0 v1 v2 v3 : Value) : (put4 w b k v0 v1 v2 v3).ownsRow base e size (.slice (some ⟨g,0,none⟩) n cap) n xs :=
 own_set_other (own_set_other (own_set_other (own_set_other h hb _ _) hb _ _) hb _ _) hb _ _
def PBox (w : World) (g : Nat) (x : Slt) : Prop := (w.cell? ⟨g,0,none⟩ = some (.int .u8 1) /\ w.cell? ⟨g,1,none⟩ = some (.int .i64 x.num) /\ w.cell? ⟨g,2,none⟩ = some (.int .i64 x.blk) /\ w.cell? ⟨g,3,none⟩ = some (.int .i64 x.no)) /\ ∀ i,w.frozen? ⟨g,i,none⟩ = false
theorem PBox.below {w w' : World} {g m : Nat} {x : Slt} (h : PBox w g x) (hb : Below m w w') (hg : g < m) : PBox w' g x :=
 ⟨⟨(hb.cell (p := ⟨g,0,none⟩) hg).trans h.1.1,(hb.cell (p := ⟨g,1,none⟩) hg).trans h.1.2.1,(hb.cell (p := ⟨g,2,none⟩) hg).trans h.1.2.2.1,(hb.cell (p := ⟨g,3,none⟩) hg).trans h.1.2.2.2⟩,fun i => (hb.frozen (p := ⟨g,i,none⟩) hg).trans (h.2 i)⟩
theorem pbox_put4 {w : World} {b : Nat} {x : Slt} (h : PBox w b x) (y : Slt) : PBox (put4 w b 0 (.int .u8 1) (.int .i64 y.num) (.int .i64 y.blk) (.int .i64 y.no)) b y := by
 obtain ⟨⟨h0,h1,h2,h3⟩,hf⟩ := h
 unfold put4
 simp only [Nat.zero_add]
 refine ⟨⟨?_,?_,?_,?_⟩,fun i => by simp [hf i]⟩
 ·rw [off_ne (by decide),off_ne (by decide),off_ne (by decide),World.cell?_setCell_same _ _ _ h0]
 ·rw [off_ne (by decide),off_ne (by decide),World.cell?_setCell_same _ _ _ (by rw [off_ne (by decide)]; exact h1)]
 ·rw [off_ne (by decide),World.cell?_setCell_same _ _ _ (by rw [off_ne (by decide),off_ne (by decide)]; exact h2)]
 ·rw [World.cell?_setCell_same _ _ _ (by rw [off_ne (by decide),off_ne (by decide),off_ne (by decide)]; exact h3)]
theorem pbox_put4_other {w : World} {b g : Nat} {x : Slt} (h : PBox w b x) (hg : g ≠ b) (k : Nat) (v0 v1 v2 v3 : Value) : PBox (put4 w g k v0 v1 v2 v3) b x := by
 obtain ⟨⟨h0,h1,h2,h3⟩,hf⟩ := h
 exact ⟨⟨(put4_far w hg _ _ _ _ _ _).trans h0,(put4_far w hg _ _ _ _ _ _).trans h1,(put4_far w hg _ _ _ _ _ _).trans h2,(put4_far w hg _ _ _ _ _ _).trans h3⟩,fun i => by simp [put4,hf i]⟩
def BelowG (base g : Nat) (w w' : World) : Prop := Below base w w' /\ Turn2 g g w w'
theorem BelowG.set {base g b : Nat} {w w' : World} (h : BelowG base g w w') (hb : b = g \/ w.heap.size <= b) (hbb : base <= b) (j : Nat) (v : Value) : BelowG base g w (w'.setCell ⟨b,j,none⟩ v) :=
 ⟨h.1.setCell hbb _,⟨h.2.os,h.2.tape,h.2.output,by simpa [World.setCell] using h.2.size,fun k hk h1 h2 => (Below.heap_setCell w' ⟨b,j,none⟩ v k (by show k ≠ b; omega)).trans (h.2.block k hk h1 h2)⟩⟩
theorem BelowG.put4 {base g b : Nat} {w w' : World} (h : BelowG base g w w') (hb : b = g \/ w.heap.size <= b) (hbb : base <= b) (k : Nat) (v0 v1 v2 v3 : Value) : BelowG base g w (put4 w' b k v0 v1 v2 v3) :=
 (((h.set hb hbb _ _).set hb hbb _ _).set hb hbb _ _).set hb hbb _ _
theorem BelowG.drew {base g : Nat} {w w' : World} (h : BelowG base g w w') : BelowG base g w w'.drew := ⟨h.1.drew,h.2.os,h.2.tape,h.2.output,h.2.size,h.2.block⟩
theorem swap4_all {w wd : World} {base g b n cap a : Nat} {t : List (Option Slt)} {x y : Slt} (hot : wd.ownsRow base 175 4 (.slice (some ⟨g,0,none⟩) n cap) n (cellsP t)) (htl : t.length = n) (ha : a < n) (hbx : PBox wd b x) (hgb : g ≠ b) (hbg : base <= g) (hbb : base <= b) (hz : b < wd.heap.size) (hB : BelowG base g w wd) (hbw : w.heap.size <= b) (W : World)
  (hW : W = ((((((((wd.setCell ⟨g,a * 4,none⟩ (.int .u8 1)).setCell ⟨g,a * 4 + 1,none⟩ (.int .i64 x.num)).setCell ⟨g,a * 4 + 2,none⟩ (.int .i64 x.blk)).setCell ⟨g,a * 4 + 3,none⟩ (.int .i64 x.no)).setCell ⟨b,0,none⟩ (.int .u8 1)).setCell ⟨b,1,none⟩ (.int .i64 y.num)).setCell ⟨b,2,none⟩ (.int .i64 y.blk)).setCell ⟨b,3,none⟩ (.int .i64 y.no)).drew) :
  W.ownsRow base 175 4 (.slice (some ⟨g,0,none⟩) n cap) n (cellsP (t.set a (some x))) /\ PBox W b y /\ BelowG base g w W /\ b < W.heap.size := by
 obtain ⟨Z,hZ⟩ : ∃ Z,Z = put4 (put4 wd g (a * 4) (.int .u8 1) (.int .i64 x.num) (.int .i64 x.blk) (.int .i64 x.no)) b 0 (.int .u8 1) (.int .i64 y.num) (.int .i64 y.blk) (.int .i64 y.no) := ⟨_,rfl⟩
 have e : W = Z.drew := by
  rw [hW,hZ]
  simp only [put4,Nat.zero_add]
 have hP : PBox Z b y := by
  rw [hZ]
  exact pbox_put4 (x := x) (pbox_put4_other hbx hgb (a * 4) (.int .u8 1) (.int .i64 x.num) (.int .i64 x.blk) (.int .i64 x.no)) y
 have hz2 : b < Z.heap.size := by
  rw [hZ,put4_size,put4_size]; exact hz
 have hO : Z.ownsRow base 175 4 (.slice (some ⟨g,0,none⟩) n cap) n (cellsP (t.set a (some x))) := by
  rw [hZ]
  exact own_put4_other (own_store4 x hot htl ha) hgb 0 (.int .u8 1) (.int .i64 y.num) (.int .i64 y.blk) (.int .i64 y.no)
 have hD : BelowG base g w Z := by
  rw [hZ]
  exact (hB.put4 (.inl rfl) hbg (a * 4) (.int .u8 1) (.int .i64 x.num) (.int .i64 x.blk) (.int .i64 x.no)).put4 (.inr hbw) hbb 0 (.int .u8 1) (.int .i64 y.num) (.int .i64 y.blk) (.int .i64 y.no)
 clear hZ hW
 subst e
 exact ⟨hO.drew,hP.below (Below.refl (b + 1) Z).drew (Nat.lt_succ_self b),hD.drew,hz2⟩
theorem pslots_next {W wx w' : World} {g k b : Nat} {y0 y1 y2 y3 x0 x1 x2 x3 : Option Value} (h : ((wx.cell? ⟨g,k,none⟩ = y0 /\ wx.cell? ⟨g,k + 1,none⟩ = y1 /\ wx.cell? ⟨g,k + 2,none⟩ = y2 /\ wx.cell? ⟨g,k + 3,none⟩ = y3) /\ (wx.cell? ⟨b,0,none⟩ = x0 /\ wx.cell? ⟨b,1,none⟩ = x1 /\ wx.cell? ⟨b,2,none⟩ = x2 /\ wx.cell? ⟨b,3,none⟩ = x3)) /\ Below W.heap.size W wx) (hb : Below wx.heap.size wx w') (hg : g < W.heap.size) (hbb : b < W.heap.size) : ((w'.cell? ⟨g,k,none⟩ = y0 /\ w'.cell? ⟨g,k + 1,none⟩ = y1 /\ w'.cell? ⟨g,k + 2,none⟩ = y2 /\ w'.cell? ⟨g,k + 3,none⟩ = y3) /\ (w'.cell? ⟨b,0,none⟩ = x0 /\ w'.cell? ⟨b,1,none⟩ = x1 /\ w'.cell? ⟨b,2,none⟩ = x2 /\ w'.cell? ⟨b,3,none⟩ = x3)) /\ Below W.heap.size W w' := by
 obtain ⟨⟨⟨h0,h1,h2,h3⟩,g0,g1,g2,g3⟩,hB⟩ := h
 have hg' : g < wx.heap.size := Nat.lt_of_lt_of_le hg hB.size
 have hb' : b < wx.heap.size := Nat.lt_of_lt_of_le hbb hB.size
 exact ⟨⟨⟨(hb.cell (p := ⟨g,k,none⟩) hg').trans h0,(hb.cell (p := ⟨g,k + 1,none⟩) hg').trans h1,(hb.cell (p := ⟨g,k + 2,none⟩) hg').trans h2,(hb.cell (p := ⟨g,k + 3,none⟩) hg').trans h3⟩,(hb.cell (p := ⟨b,0,none⟩) hb').trans g0,(hb.cell (p := ⟨b,1,none⟩) hb').trans g1,(hb.cell (p := ⟨b,2,none⟩) hb').trans g2,(hb.cell (p := ⟨b,3,none⟩) hb').trans g3⟩,hB.trans (hb.mono hB.size)⟩
theorem put_any (g n cap base e : Nat) (t : List (Option Slt)) (x0 : Slt) (w : World) (hown : w.ownsRow base 175 4 (.slice (some ⟨g,0,none⟩) n cap) n (cellsP t)) (hbg : base <= g) (hgw : g < w.heap.size) (htl0 : t.length = n) (hn : n <= 5000) (hef : e < n) (hfree : t[e]? = some none) (hnum : ∀ y : Slt,some y ∈ t -> y.num < 4294967296) (hx0 : x0.num < 4294967296) :
  Calls Tryz.prog 92 #[.slice (some ⟨g,0,none⟩) n cap,.agg #[.int .u8 1,.int .i64 x0.num,.int .i64 x0.blk,.int .i64 x0.no]] w fun e w' => e = .returned (.tuple #[]) /\ w'.ownsRow base 175 4 (.slice (some ⟨g,0,none⟩) n cap) n (cellsP (putL t x0)) /\ BelowG base g w w' := by
 have hmod : (x0.num : Int) % (n : Int) = ((x0.num % n : Nat) : Int) := by simp
 have htm : (x0.num : Int).tmod (n : Int) = ((x0.num % n : Nat) : Int) := rfl
 have hNs : x0.num % n < n := Nat.mod_lt _ (by omega)
 have hsne : ¬ n = 0 := by omega
 have HPL : Hid (putL t x0 = putF n t x0 (x0.num % n)) := by show _ = _; rw [putL,htl0]
 have HFREE : Hid (t[e]? = some none) := hfree
 have HBX : Hid (PBox (w.alloc (.cells #[.int .u8 1,.int .i64 (x0.num : Int),.int .i64 (x0.blk : Int),.int .i64 (x0.no : Int)] 175)) w.heap.size x0) := ⟨⟨by simp,by simp,by simp,by simp⟩,fun i => by simp⟩
 generalize x0.num % n = q at *
 clear hfree
 go_enter Tryz.func92,Tryz.ntmps92
 go_wp2
 go_loopw [4] (fun ai wx => ∃ (a f : Nat) (t' : List (Option Slt)) (x : Slt),ai = .int .i64 a /\ (a < n /\ t'.length = n /\ gap n e a < f) /\ (x.num < 4294967296 /\ ∀ y : Slt,some y ∈ t' -> y.num < 4294967296) /\ Hid (t'[e]? = some none) /\ Hid (putL t x0 = putF f t' x a) /\ wx.ownsRow base 175 4 (.slice (some ⟨g,0,none⟩) n cap) n (cellsP t') /\ PBox wx w.heap.size x /\ BelowG base g w wx /\ w.heap.size < wx.heap.size) (fun ai _ => gap n e (intOf ai).toNat)
 case atStart => exact ⟨q,n,t,x0,rfl,⟨hNs,htl0,gap_lt (by omega)⟩,⟨hx0,hnum⟩,HFREE,HPL,hown.alloc _,HBX.out,⟨(Below.refl _ _).alloc (by omega) _,(Turn2.refl _ _ _).alloc _⟩,by simp⟩
 case round =>
  obtain ⟨a,f,t',x,rfl,⟨ha,htl,hgp⟩,⟨hxn,hyn⟩,HE,HT,hot,hbx,hBx,hzx⟩ := hrel
  obtain ⟨wx,rfl⟩ : ∃ wx,wx = wr := ⟨_,rfl⟩
  obtain ⟨f',rfl⟩ : ∃ f',f = f' + 1 := ⟨f - 1,by omega⟩
  clear HFREE HPL HBX hown hnum
  have hta : t'[a]? = some t'[a] := List.getElem?_eq_getElem (by omega)
  obtain ⟨⟨b0,b1,b2,b3⟩,bf⟩ := hbx
  have HBOX : Hid (PBox wx w.heap.size x) := ⟨⟨b0,b1,b2,b3⟩,bf⟩
  obtain ⟨z0,z1,z2,z3⟩ := pslot_at hot hta ha
  have g0 := hot.frozenAt (a * 4)
  have g1 := hot.frozenAt (a * 4 + 1)
  have g2 := hot.frozenAt (a * 4 + 2)
  have g3 := hot.frozenAt (a * 4 + 3)
  have n1 : g ≠ w.heap.size := by omega
  have n2 : w.heap.size ≠ g := by omega
  have HOT : Hid (wx.ownsRow base 175 4 (.slice (some ⟨g,0,none⟩) n cap) n (cellsP t')) := hot
  clear hot
  cases hy : t'[a] with
  | none =>
   rw [hy] at hta z0 z1 z2 z3
   simp only [sltP,List.getElem?_cons_zero,List.getElem?_cons_succ] at z0 z1 z2 z3
   have HT2 : Hid (putL t x0 = t'.set a (some x)) := by
    show _ = _
    rw [HT.out,putF,hta]
   clear HT HE hta hy hyn
   go_wp2
   refine bodyPost_end (v := .tuple #[]) ?_ rfl ⟨rfl,by rw [HT2.out]; exact own_store4 x HOT.out htl ha,hBx.put4 (.inl rfl) hbg (a * 4) _ _ _ _⟩
   simp [results,Tryz.results92,go_sem]
  | some y =>
   have hym : y.num < 4294967296 := hyn y (List.mem_of_getElem? (by rw [hta,hy]))
   rw [hy] at hta z0 z1 z2 z3
   simp only [sltP,List.getElem?_cons_zero,List.getElem?_cons_succ] at z0 z1 z2 z3
   have hne : a ≠ e := by
    intro h
    subst h
    rw [HE.out] at hta
    cases hta
   have hstep := gap_step ha hef hne
   have hax : (a + 1) % n < n := Nat.mod_lt _ (by omega)
   have HT2 : Hid (putL t x0 = if awayN n y a < awayN n x a then putF f' (t'.set a (some x)) y ((a + 1) % n) else putF f' t' x ((a + 1) % n)) := by
    show _ = _
    rw [HT.out,putF,hta]
    simp only [htl]
   have HE2 : Hid ((t'.set a (some x))[e]? = some none) := by
    show _ = _
    rw [List.getElem?_set_ne hne]; exact HE.out
   have hmod2 : ((a : Int) + 1) % (n : Int) = (((a + 1) % n : Nat) : Int) := by simp
   have htm2 : ((a : Int) + 1).tmod (n : Int) = (((a + 1) % n : Nat) : Int) := rfl
   have HGP : Hid (gap n e ((a + 1) % n) < f') := by show _ < _; omega
   have HGM : Hid (gap n e ((a + 1) % n) < gap n e a) := by show _ < _; omega
   have HYN : Hid (∀ z : Slt,some z ∈ t'.set a (some x) -> z.num < 4294967296) := fun z hz => by
    rcases List.mem_or_eq_of_mem_set hz with h | h
    ·exact hyn z h
    ·cases h; exact hxn
   have HYN0 : Hid (∀ z : Slt,some z ∈ t' -> z.num < 4294967296) := hyn
   generalize (a + 1) % n = q2 at *
   have HAY : Hid _ := awayP_any (some ⟨g,0,none⟩) n cap 1 y a
   have HAX : Hid _ := awayP_any (some ⟨g,0,none⟩) n cap 1 x a
   clear hstep hgp HT hy hyn hta hmod htm hNs
   generalize awayN n y a = ay at *
   generalize awayN n x a = ax at *
   have hgx : g < wx.heap.size := by omega
   go_wp2_with fail
   go_cut [27] (fun c wd => c = .bool (decide (ay < ax)) /\ Below wx.heap.size wx wd)
   case first =>
    go_region_held3 (fun w' => ((w'.cell? ⟨g,a * 4,none⟩ = some (.int .u8 1) /\ w'.cell? ⟨g,a * 4 + 1,none⟩ = some (.int .i64 y.num) /\ w'.cell? ⟨g,a * 4 + 2,none⟩ = some (.int .i64 y.blk) /\ w'.cell? ⟨g,a * 4 + 3,none⟩ = some (.int .i64 y.no)) /\ (w'.cell? ⟨w.heap.size,0,none⟩ = some (.int .u8 1) /\ w'.cell? ⟨w.heap.size,1,none⟩ = some (.int .i64 x.num) /\ w'.cell? ⟨w.heap.size,2,none⟩ = some (.int .i64 x.blk) /\ w'.cell? ⟨w.heap.size,3,none⟩ = some (.int .i64 x.no))) /\ Below wx.heap.size wx w') (first | (exact ⟨⟨⟨z0,z1,z2,z3⟩,b0,b1,b2,b3⟩,(Below.refl _ _).drew⟩) | (assumption) | (exact pslots_next (by assumption) (by assumption) hgx hzx)) (first | (go_at_call_of 151 (Value.agg #[.int .u8 1,.int .i64 y.num,.int .i64 y.blk,.int .i64 y.no]); refine (HAY.out _ ha hn hym).mono ?_; rintro e w' ⟨rfl,hb4y⟩) | (go_at_call_of 151 (Value.agg #[.int .u8 1,.int .i64 x.num,.int .i64 x.blk,.int .i64 x.no]); refine (HAX.out _ ha hn hxn).mono ?_; rintro e w' ⟨rfl,hb4x⟩))
    all_goals
     go_wp2_with fail
     go_meet
     refine ⟨rfl,?_⟩
     first | exact ((Below.refl _ _).drew.trans hb4y).trans (hb4x.mono hb4y.size) | exact ((Below.refl _ _).drew.trans hb4x).trans (hb4y.mono hb4x.size)
   case rest =>
    obtain ⟨rfl,hbd⟩ := hcut
    obtain ⟨wd,rfl⟩ : ∃ wd,wd = wc := ⟨_,rfl⟩
    have hszd := hbd.size
    have HOTD : Hid (wd.ownsRow base 175 4 (.slice (some ⟨g,0,none⟩) n cap) n (cellsP t')) := own_below HOT.out hbd (Nat.le_refl _)
    have HBD : Hid (PBox wd w.heap.size x) := HBOX.out.below hbd hzx
    have HBB : Hid (BelowG base g w wd) := ⟨hBx.1.trans (hbd.mono (by omega)),hBx.2.trans (Turn2.of_below hbd)⟩
    replace z0 := (hbd.cell (p := ⟨g,a * 4,none⟩) hgx).trans z0
    replace z1 := (hbd.cell (p := ⟨g,a * 4 + 1,none⟩) hgx).trans z1
    replace z2 := (hbd.cell (p := ⟨g,a * 4 + 2,none⟩) hgx).trans z2
    replace z3 := (hbd.cell (p := ⟨g,a * 4 + 3,none⟩) hgx).trans z3
    replace g0 := (hbd.frozen (p := ⟨g,a * 4,none⟩) hgx).trans g0
    replace g1 := (hbd.frozen (p := ⟨g,a * 4 + 1,none⟩) hgx).trans g1
    replace g2 := (hbd.frozen (p := ⟨g,a * 4 + 2,none⟩) hgx).trans g2
    replace g3 := (hbd.frozen (p := ⟨g,a * 4 + 3,none⟩) hgx).trans g3
    clear b0 b1 b2 b3 bf HAY HAX HOT HBOX hBx
    obtain ⟨⟨b0,b1,b2,b3⟩,bf⟩ := HBD.out
    have v0 := bf 0
    have v1 := bf 1
    have v2 := bf 2
    have v3 := bf 3
    have hzd : w.heap.size < wd.heap.size := by omega
    clear bf hbd
    by_cases hlt : ay < ax
    ·have hd : decide (ay < ax) = true := by simp; omega
     have HT3 : Hid (putL t x0 = putF f' (t'.set a (some x)) y q2) := by
      show _ = _
      rw [HT2.out,if_pos hlt]
     rw [hd]
     clear hd HT2 HE
     go_wp2_with fail
     go_region
     all_goals
      go_wp2
      go_roundw
      case rel =>
       exact ⟨q2,f',t'.set a (some x),y,by first | rfl | go_num,⟨hax,by simp [htl],HGP.out⟩,⟨hym,HYN.out⟩,HE2,HT3,swap4_all HOTD.out htl ha HBD.out n1 hbg (by omega) hzd HBB.out (Nat.le_refl _) _ rfl⟩
      case measure => simp [intOf]; exact HGM.out
    ·have hd : decide (ay < ax) = false := by simp; omega
     have HT3 : Hid (putL t x0 = putF f' t' x q2) := by
      show _ = _
      rw [HT2.out,if_neg hlt]
     rw [hd]
     clear hd HT2 HE2
     go_wp2
     go_roundw
     case rel => exact ⟨q2,f',t',x,by first | rfl | go_num,⟨hax,htl,HGP.out⟩,⟨hxn,HYN0.out⟩,HE,HT3,HOTD.out,HBD.out,HBB.out,hzd⟩
     case measure => simp [intOf]; exact HGM.out
end Go.Proofs.YtdhgebdbiehchaaGreatDoor
