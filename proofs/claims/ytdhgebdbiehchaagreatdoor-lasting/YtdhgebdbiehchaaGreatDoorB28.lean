/- On the way: TabMake, ProgIndex. -/
import Derived.Test.YtdhgebdbiehchaaGreatDoorB25
import Derived.Test.YtdhgebdbiehchaaGreatDoorB14
import Derived.Test.YtdhgebdbiehchaaGreatDoorB16
import Derived.Test.YtdhgebdbiehchaaGreatDoorB27
import Derived.Test.YtdhgebdbiehchaaGreatDoorB15
import Derived.Test.YtdhgebdbiehchaaGreatDoorB08
import Derived.Test.YtdhgebdbiehchaaGreatDoorB19
import Derived.Deep.RegionHeld3
import Derived.Test.YtdhgebdbiehchaaGreatDoorB18
namespace Go.Proofs.YtdhgebdbiehchaaGreatDoor
open Go.RowKit Go.Maps
set_option linter.unusedSimpArgs false
set_option linter.unusedVariables false
set_option maxRecDepth 100000
set_option maxHeartbeats 3200000
theorem info_pslot : ∃ i,Tryz.prog.info? 175 = some i /\ i.zero = some (.agg #[.int .u8 0,.int .i64 0,.int .i64 0,.int .i64 0]) /\ i.size = 4 /\ i.bytes = 32 := by
 have h : ((Tryz.prog.info? 175).bind fun i => if i.size = 4 /\ i.bytes = 32 then i.zero else none) = some (.agg #[.int .u8 0,.int .i64 0,.int .i64 0,.int .i64 0]) := by kernel_rfl
 cases hi : Tryz.prog.info? 175 with
 | none => rw [hi] at h; cases h
 | some i =>
  rw [hi] at h
  simp only [Option.bind_some] at h
  split at h
  ·rename_i hc; exact ⟨i,rfl,h,hc.1,hc.2⟩
  ·cases h
theorem Maps2.below {W W' : World} {bi bp n k : Nat} {L : List Sd} (h : Maps2 W bi bp n L) (hb : Below k W W') (h1 : bi < k) (h2 : bp < k) : Maps2 W' bi bp n L := by
 obtain ⟨DI,DP,⟨⟨es,ck,hb1,r1⟩,h4,h5⟩,⟨es',ck',hb2,r2⟩,h7⟩ := h
 exact ⟨DI,DP,⟨⟨es,ck,(hb.block bi h1).trans hb1,r1⟩,h4,h5⟩,⟨es',ck',(hb.block bp h2).trans hb2,r2⟩,h7⟩
theorem Maps2.drew {W : World} {bi bp n : Nat} {L : List Sd} (h : Maps2 W bi bp n L) : Maps2 W.drew bi bp n L := h
theorem own_belowK {W W' : World} {base e size n k : Nat} {v : Value} {xs : List Value} (h : W.ownsRow base e size v n xs) (hb : Below k W W') (hk : W.heap.size <= k) : W'.ownsRow base e size v n xs := by
 refine ⟨h.1,?_⟩
 rcases h.2 with h0 | ⟨g,cap,cur,e1,h1,h2,r⟩
 ·exact .inl h0
 ·exact .inr ⟨g,cap,cur,e1,h1,(hb.block g (Nat.lt_of_lt_of_le (Array.getElem?_eq_some_iff.1 h2).1 hk)).trans h2,r⟩
theorem own_lt {W : World} {base e size n : Nat} {v : Value} {xs : List Value} (h : W.ownsRow base e size v n xs) : ∀ g,v.ownBlock = some g -> g < W.heap.size := fun g hg => by
 rcases h.2 with ⟨rfl,_⟩ | ⟨g',cap,cur,rfl,_,h2,_⟩
 ·simp [Value.ownBlock] at hg
 ·have : g' = g := by simpa [Value.ownBlock] using hg
  subst this; exact (Array.getElem?_eq_some_iff.1 h2).1
theorem num_lt (seed bits : Int) (key : List UInt8) (h0 : 0 <= bits) (h1 : bits <= 32) : (numberI seed bits key).toNat < 4294967296 := by
 have := numberI_range seed bits key h0 h1; omega
theorem cellsQ_get {L : List Sd} {k : Nat} (h : k < L.length) : (cellsQ L)[k * 2]? = some (.int .i64 L[k].blk) /\ (cellsQ L)[k * 2 + 1]? = some (.int .i64 L[k].no) := by
 have h0 := cellsQ_at L (k * 2) (by omega)
 have h1 := cellsQ_at L (k * 2 + 1) (by omega)
 have e0 : k * 2 / 2 = k := by omega
 have e1 : (k * 2 + 1) / 2 = k := by omega
 have e2 : k * 2 % 2 = 0 := by omega
 have e3 : (k * 2 + 1) % 2 = 1 := by omega
 simp only [e0,e2] at h0
 simp only [e1,e3] at h1
 exact ⟨h0,h1⟩
theorem fieldIt (a b : ByteArray) (w : World) : (Instr.field 54 (.agg #[.string a,.string b]) 0).run Tryz.prog w = .ok (.string a) w := by kernel_rfl
def MkS (W1 : World) (b r : Nat) (blk seed bits bi bp pb pn : Nat) (w' : World) : Prop :=
 (w'.cell? ⟨b,0,none⟩ = some (.int .i64 blk) /\ w'.cell? ⟨b,1,none⟩ = some (.int .i64 seed) /\ w'.cell? ⟨b,2,none⟩ = some (.int .i64 bits) /\ w'.cell? ⟨b,3,none⟩ = some (.map (some bi)) /\ w'.cell? ⟨b,4,none⟩ = some (.map (some bp))) /\
 (w'.cell? ⟨r,0,none⟩ = some (.int .i64 pb) /\ w'.cell? ⟨r,1,none⟩ = some (.int .i64 pn)) /\ Below W1.heap.size W1 w' /\ r < w'.heap.size
theorem MkS.below {W1 wx w' : World} {b r blk seed bits bi bp pb pn : Nat} (h : MkS W1 b r blk seed bits bi bp pb pn wx) (hb : Below wx.heap.size wx w') (h1 : b < W1.heap.size) : MkS W1 b r blk seed bits bi bp pb pn w' := by
 obtain ⟨⟨c0,c1,c2,c3,c4⟩,⟨p0,p1⟩,hB,hr⟩ := h
 have hbx : b < wx.heap.size := Nat.lt_of_lt_of_le h1 hB.size
 exact ⟨⟨(hb.cell (p := ⟨b,0,none⟩) hbx).trans c0,(hb.cell (p := ⟨b,1,none⟩) hbx).trans c1,(hb.cell (p := ⟨b,2,none⟩) hbx).trans c2,(hb.cell (p := ⟨b,3,none⟩) hbx).trans c3,(hb.cell (p := ⟨b,4,none⟩) hbx).trans c4⟩,
  ⟨(hb.cell (p := ⟨r,0,none⟩) hr).trans p0,(hb.cell (p := ⟨r,1,none⟩) hr).trans p1⟩,hB.trans (hb.mono hB.size),Nat.lt_of_lt_of_le hr hb.size⟩
theorem MkS.turn {W1 wx w' : World} {b r blk seed bits bi bp pb pn : Nat} (h : MkS W1 b r blk seed bits bi bp pb pn wx) (hb : BelowG W1.heap.size W1.heap.size wx w') (h1 : b < W1.heap.size) (h2 : r ≠ W1.heap.size) : MkS W1 b r blk seed bits bi bp pb pn w' := by
 obtain ⟨⟨c0,c1,c2,c3,c4⟩,⟨p0,p1⟩,hB,hr⟩ := h
 obtain ⟨hb,ht⟩ := hb
 exact ⟨⟨(hb.cell (p := ⟨b,0,none⟩) h1).trans c0,(hb.cell (p := ⟨b,1,none⟩) h1).trans c1,(hb.cell (p := ⟨b,2,none⟩) h1).trans c2,(hb.cell (p := ⟨b,3,none⟩) h1).trans c3,(hb.cell (p := ⟨b,4,none⟩) h1).trans c4⟩,
  ⟨(ht.cell (p := ⟨r,0,none⟩) hr h2 h2).trans p0,(ht.cell (p := ⟨r,1,none⟩) hr h2 h2).trans p1⟩,hB.trans hb,Nat.lt_of_lt_of_le hr hb.size⟩
theorem make_any (log : ByteArray) (blk seed bits : Nat) (bi bp nn : Nat) (L : List Sd) (w : World) (hm : Maps2 w bi bp nn L) (hL : Lives L) (hlen : L.length <= 2000) (hx : ∀ x ∈ L,x.key.length <= 20 /\ x.blk <= 100000 /\ x.no <= 255) (hseed : seed <= 4294967295) (hbits : bits <= 32) (hlog : log.size <= 100000) (hH : HalvesAt w) :
  Calls Tryz.prog 52 #[.string log,.agg #[.int .i64 blk,.int .i64 seed,.int .i64 bits,.map (some bi),.map (some bp)]] w fun e w' => e = .returned (.string (S (indexB log.data.toList seed bits L))) /\ Below w.heap.size w w' := by
 obtain ⟨i0,hi,hz0,hz1,hz2⟩ := info_pslot
 obtain ⟨hbi,hbp⟩ := hm.lt
 have hn1 := sizeL_bound hlen
 have hn2 : L.length < sizeL L.length := by have := sizeL_big hlen; omega
 have HM : Hid (Maps2 w bi bp nn L) := hm
 have HL : Hid (Lives L) := hL
 have HX : Hid (∀ x ∈ L,x.key.length <= 20 /\ x.blk <= 100000 /\ x.no <= 255) := hx
 have HH : Hid (HalvesAt w) := hH
 have HPL : Hid (∀ wx,Maps2 wx bi bp nn L -> _) := fun wx h => places_any blk seed bits bi bp nn L wx h hL (by omega)
 have HSF : Hid (∀ wx,_) := fun wx => sizeFor_any L.length wx hlen
 have HIX : Hid (indexB log.data.toList seed bits L = sealL (frontB L.length (sizeL L.length) (farP (sizeL L.length) (fillL (sizeL L.length) (L.map (sltOf seed bits))) (sizeL L.length)) log.data.toList.length (sumI log.data.toList).toNat) ++ sealL (tabB (fillL (sizeL L.length) (L.map (sltOf seed bits))))) := rfl
 generalize sizeL L.length = n at *
 generalize indexB log.data.toList seed bits L = IX at *
 clear hm hL hx hH
 go_enter Tryz.func52,Tryz.ntmps52
 go_wp2_with fail
 refine Calls.mono (HPL.out _ (HM.out.alloc _)) ?_
 rintro e w1 ⟨a,cap,rfl,hr1,hb1⟩
 have HR1 : Hid _ := hr1
 clear hr1 HPL
 go_wp2_with fail
 refine Calls.mono (HSF.out _) ?_
 rintro e W1 ⟨rfl,rfl⟩
 clear HSF
 have hB1 : Below w.heap.size w W1 := ((Below.refl _ _).alloc (Nat.le_refl _) _).trans (hb1.mono (by simp))
 have z1 : w.heap.size < W1.heap.size := by have := hb1.size; simp at this; omega
 have q0 : W1.cell? ⟨w.heap.size,0,none⟩ = some (.int .i64 blk) := by rw [hb1.cell (p := ⟨w.heap.size,0,none⟩) (by simp)]; simp
 have q1 : W1.cell? ⟨w.heap.size,1,none⟩ = some (.int .i64 seed) := by rw [hb1.cell (p := ⟨w.heap.size,1,none⟩) (by simp)]; simp
 have q2 : W1.cell? ⟨w.heap.size,2,none⟩ = some (.int .i64 bits) := by rw [hb1.cell (p := ⟨w.heap.size,2,none⟩) (by simp)]; simp
 have q3 : W1.cell? ⟨w.heap.size,3,none⟩ = some (.map (some bi)) := by rw [hb1.cell (p := ⟨w.heap.size,3,none⟩) (by simp)]; simp
 have q4 : W1.cell? ⟨w.heap.size,4,none⟩ = some (.map (some bp)) := by rw [hb1.cell (p := ⟨w.heap.size,4,none⟩) (by simp)]; simp
 have HM1 : Hid (Maps2 W1 bi bp nn L) := HM.out.below hB1 hbi hbp
 go_wp2_with (at_make; refine wpList_make_full _ rfl (.tmp 14) (.tmp 14) 169 rfl W1.heap.size 175 i0 (.agg #[.int .u8 0,.int .i64 0,.int .i64 0,.int .i64 0]) 4 Tryz.underlying169 hi hz0 hz1 .i64 .i64 _ _ n rfl rfl rfl rfl ?_ ?_ ?_ ?_)
 ·first | omega | (rw [hz2]; omega)
 ·unfold maxLen; omega
 ·exact Nat.le_refl _
 intro w3 hown3 hgr
 have hB3 : Below W1.heap.size W1 w3 := Below.grown (Below.refl _ _) hgr (Nat.le_refl _) (fun k e => by cases e)
 have hown4 : w3.ownsRow W1.heap.size 175 4 (.slice (some ⟨W1.heap.size,0,none⟩) n n) n (cellsP (fillL n (([] : List Sd).map (sltOf seed bits)))) := by
  rw [made4 n] at hown3
  simpa [fillL] using hown3
 have HO4 : Hid _ := hown4
 clear hown3 hown4 hgr
 go_wp2
 go_loopw [18] (fun i wr => ∃ k : Nat,k <= L.length /\ i = .int .i64 k /\ Hid (wr.ownsRow W1.heap.size 175 4 (.slice (some ⟨W1.heap.size,0,none⟩) n n) n (cellsP (fillL n ((L.take k).map (sltOf seed bits))))) /\ Below W1.heap.size W1 wr) (fun i _ => L.length - (intOf i).toNat)
 case atStart => exact ⟨0,Nat.zero_le _,rfl,by show World.ownsRow _ _ _ _ _ _ _; rw [List.take_zero]; exact HO4.out,hB3⟩
 case round =>
  obtain ⟨k,hk,rfl,HO,hB⟩ := hrel
  have zr := hB.size
  by_cases hlt : k < L.length
  ·obtain ⟨g,c',he,hg0,hg1,hgc⟩ := own_cellsN HR1.out (by omega)
   simp only [Value.slice.injEq] at he
   obtain ⟨rfl,_,rfl⟩ := he
   have hq := cellsQ_get hlt
   have y0 := (hB.cell (p := ⟨g,k * 2,none⟩) hg1).trans ((hgc (k * 2) (by omega)).trans hq.1)
   have y1 := (hB.cell (p := ⟨g,k * 2 + 1,none⟩) hg1).trans ((hgc (k * 2 + 1) (by omega)).trans hq.2)
   have hrow := HO.out
   have hgr := own_lt hrow W1.heap.size rfl
   have hmem : L[k] ∈ L := List.getElem_mem _
   have hxx := HX.out _ hmem
   obtain ⟨e,hef,hfree⟩ := fillL_free (n := n) (xs := (L.take k).map (sltOf seed bits)) (by simp; omega)
   have HT : Hid (fillL n ((L.take (k + 1)).map (sltOf seed bits)) = putL (fillL n ((L.take k).map (sltOf seed bits))) (sltOf seed bits L[k])) := by
    show _ = _
    rw [List.take_succ_eq_append_getElem hlt,List.map_append,List.map_cons,List.map_nil,fillL_snoc]
   have hnum : ∀ y : Slt,some y ∈ fillL n ((L.take k).map (sltOf seed bits)) -> y.num < 4294967296 := by
    intro y hy
    obtain ⟨p,hp⟩ := List.mem_iff_getElem?.1 hy
    have := ((fill_run (n := n) ((L.take k).map (sltOf seed bits)) (by simp; omega)).2 y).1 ⟨p,hp⟩
    obtain ⟨z,_,rfl⟩ := List.mem_map.1 this
    exact num_lt _ _ _ (by omega) (by omega)
   have HAT : Hid (∀ wx,Maps2 wx bi bp nn L -> _) := fun wx h => at_any blk seed bits bi bp nn L L[k] wx h HL.out hmem
   have HNU : Hid (∀ wx,Calls Tryz.prog 93 #[.agg #[.int .i64 blk,.int .i64 seed,.int .i64 bits],.string (S L[k].key)] wx fun e w' => e = .returned (.int .i64 ((sltOf seed bits L[k]).num : Nat)) /\ Below wx.heap.size wx w') := by
    intro wx
    refine (recNumber_any blk seed bits (S L[k].key) wx (by omega) (by omega) (by omega) (by omega) (by rw [S_size]; omega)).mono ?_
    rintro e w' ⟨rfl,hb⟩
    refine ⟨?_,hb⟩
    have := numberI_range seed bits L[k].key (by omega) (by omega)
    rw [S_data]
    refine ret_int ?_
    show _ = (((numberI seed bits L[k].key).toNat : Nat) : Int)
    omega
   have HPU : Hid (∀ wx : World,wx.ownsRow W1.heap.size 175 4 (.slice (some ⟨W1.heap.size,0,none⟩) n n) n (cellsP (fillL n ((L.take k).map (sltOf seed bits)))) -> W1.heap.size < wx.heap.size -> _) := fun wx h1 h2 => put_any W1.heap.size n n W1.heap.size e _ (sltOf seed bits L[k]) wx h1 (Nat.le_refl _) h2 (fillL_length _ _) (by omega) hef hfree hnum (num_lt _ _ _ (by omega) (by omega))
   have eb : (sltOf seed bits L[k]).blk = L[k].blk := rfl
   have en : (sltOf seed bits L[k]).no = L[k].no := rfl
   rw [eb,en] at HPU
   clear hq hgc hmem hxx hfree hnum eb en hrow
   generalize L[k] = x at *
   obtain ⟨put,ky,vl,xb,xn⟩ := x
   dsimp only at *
   generalize (sltOf seed bits ⟨put,ky,vl,xb,xn⟩).num = sn at *
   have HBr : Hid (Below W1.heap.size W1 wr) := hB
   replace q0 := (hB.cell (p := ⟨w.heap.size,0,none⟩) z1).trans q0
   replace q1 := (hB.cell (p := ⟨w.heap.size,1,none⟩) z1).trans q1
   replace q2 := (hB.cell (p := ⟨w.heap.size,2,none⟩) z1).trans q2
   replace q3 := (hB.cell (p := ⟨w.heap.size,3,none⟩) z1).trans q3
   replace q4 := (hB.cell (p := ⟨w.heap.size,4,none⟩) z1).trans q4
   have hne1 : w.heap.size ≠ wr.heap.size := by omega
   have hlt1 : w.heap.size < wr.heap.size := by omega
   have HMr : Hid (Maps2 wr bi bp nn L) := HM1.out.below hB (by omega) (by omega)
   have hrne : wr.heap.size ≠ W1.heap.size := by omega
   have hfd := fieldIt (S ky) (S vl)
   have HIN : Hid (∀ o : Obj,o = .cells #[.int .i64 (xb : Int),.int .i64 (xn : Int)] 165 -> MkS W1 w.heap.size wr.heap.size blk seed bits bi bp xb xn (wr.alloc o).drew) := by
    rintro o rfl
    exact ⟨⟨(past_drew _ _ hlt1).trans q0,(past_drew _ _ hlt1).trans q1,(past_drew _ _ hlt1).trans q2,(past_drew _ _ hlt1).trans q3,(past_drew _ _ hlt1).trans q4⟩,⟨by simp,by simp⟩,(hB.alloc zr _).drew,by simp⟩
   go_wp2_with fail
   go_region_held3 (fun w' => (w'.cell? ⟨w.heap.size,0,none⟩ = some (.int .i64 (blk : Int)) /\ w'.cell? ⟨w.heap.size,1,none⟩ = some (.int .i64 (seed : Int)) /\ w'.cell? ⟨w.heap.size,2,none⟩ = some (.int .i64 (bits : Int)) /\ w'.cell? ⟨w.heap.size,3,none⟩ = some (.map (some bi)) /\ w'.cell? ⟨w.heap.size,4,none⟩ = some (.map (some bp))) /\ (w'.cell? ⟨wr.heap.size,0,none⟩ = some (.int .i64 (xb : Int)) /\ w'.cell? ⟨wr.heap.size,1,none⟩ = some (.int .i64 (xn : Int))) /\ Below W1.heap.size W1 w' /\ wr.heap.size < w'.heap.size) (first | (exact HIN.out _ rfl) | (exact MkS.below (by assumption) (by assumption) z1) | (exact MkS.turn (by assumption) (by assumption) z1 hrne)) (first | (go_at_call 94; refine (HAT.out _ ?_).mono ?_; exact (HMr.out.alloc _).drew; rintro e wA ⟨rfl,hbA⟩) | (go_at_call 93; refine (HNU.out _).mono ?_; rintro e wB ⟨rfl,hbB⟩) | (go_at_call 92; refine (HPU.out _ ?_ ?_).mono ?_; exact own_belowK (own_belowK (HO.out.alloc _).drew hbA (Nat.le_refl _)) hbB (Nat.le_refl _); have := hbA.size; have := hbB.size; simp at *; omega; rintro e wC ⟨rfl,hrC,hbC⟩))
   all_goals
    have HRC : Hid _ := hrC
    have hBC : Below W1.heap.size W1 wC := by
     have h1 := (hB.alloc zr (.cells #[.int .i64 (xb : Int),.int .i64 (xn : Int)] 165)).drew
     have h2 := h1.trans (hbA.mono h1.size)
     have h3 := h2.trans (hbB.mono h2.size)
     exact h3.trans hbC.1
    clear q0 q1 q2 q3 q4 y0 y1 hrC hbC hbA hbB HAT HNU HPU HO HIN HMr HBr
    go_wp2
    go_roundw
    case rel => exact ⟨k + 1,by omega,by go_num,by rw [HT.out]; exact HRC.out,hBC⟩
    case measure => simp [intOf]; omega
  ·have hkk : k = L.length := by omega
   subst hkk
   have HOE : Hid (wr.ownsRow W1.heap.size 175 4 (.slice (some ⟨W1.heap.size,0,none⟩) n n) n (cellsP (fillL n (L.map (sltOf seed bits))))) := by
    have := HO.out
    rwa [List.take_length] at this
   have HTN : Hid (∀ y : Slt,some y ∈ fillL n (L.map (sltOf seed bits)) -> y.num < 4294967296 /\ y.blk <= 100000 /\ y.no <= 255) := by
    intro y hy
    obtain ⟨p,hp⟩ := List.mem_iff_getElem?.1 hy
    have := ((fill_run (n := n) (L.map (sltOf seed bits)) (by simp; omega)).2 y).1 ⟨p,hp⟩
    obtain ⟨z,hz,rfl⟩ := List.mem_map.1 this
    have := HX.out z hz
    exact ⟨num_lt _ _ _ (by omega) (by omega),this.2.1,this.2.2⟩
   have HTL : Hid ((fillL n (L.map (sltOf seed bits))).length = n) := fillL_length _ _
   clear HO HM HM1 HL HX HR1 hbi hbp
   generalize fillL n (L.map (sltOf seed bits)) = T at *
   have HFA : Hid _ := farthest_any W1.heap.size n n W1.heap.size T wr HOE.out HTL.out (by omega) (by omega) (fun y hy => (HTN.out y hy).1)
   go_wp2_with fail
   refine Calls.mono HFA.out ?_
   rintro e w4 ⟨rfl,hb4⟩
   have hfar := farP_lt (n := n) (by omega) T n
   have hsum := sumI_lt log.data.toList
   have HSU : Hid (∀ wx,Calls Tryz.prog 96 #[.string log] wx fun e w' => e = .returned (.int .i64 ((sumI log.data.toList).toNat : Nat)) /\ Below wx.heap.size wx w') := fun wx => (sumOf_any log wx (by omega)).mono fun e w' h => ⟨h.1.trans (ret_int (by omega)),h.2⟩
   have hsum2 : (sumI log.data.toList).toNat < 4294967296 := by omega
   have HLL : Hid (log.data.toList.length = log.size) := by show _ = _; simp
   rw [HLL.out] at HIX
   clear hsum
   generalize (sumI log.data.toList).toNat = sm at *
   generalize farP n T n = fr at *
   go_wp2_with fail
   refine Calls.mono (HSU.out _) ?_
   rintro e w5 ⟨rfl,hb5⟩
   have hB5 : Below W1.heap.size W1 w5 := (hB.trans (hb4.mono zr)).trans (hb5.mono (by have := hb4.size; omega))
   have HB5 : Hid (Below w.heap.size w w5) := hB1.trans (hB5.mono (by omega))
   have HO5 : Hid (w5.ownsRow W1.heap.size 175 4 (.slice (some ⟨W1.heap.size,0,none⟩) n n) n (cellsP T)) := own_belowK (own_belowK HOE.out hb4 (Nat.le_refl _)) hb5 (Nat.le_refl _)
   have HH5 : Hid (HalvesAt w5) := HH.out.below HB5.out HH.out.1
   have HF : Hid (∀ wx,HalvesAt wx -> _) := fun wx hx => frontBytes_any L.length n fr log.size sm wx (by omega) (by omega) (by omega) (by omega) hsum2 hx
   have z5 := HB5.out.size
   clear HFA HSU hb4 hb5 hB5 HOE q0 q1 q2 q3 q4 hB zr
   go_wp2_with fail
   refine Calls.mono (HF.out _ (HH5.out.below ((Below.refl _ _).alloc (Nat.le_refl _) _) HH5.out.1)) ?_
   rintro e w6 ⟨v6,rfl,hr6,hb6⟩
   obtain ⟨W5,hW5⟩ : ∃ W5,W5 = w5.alloc (.cells #[.int .i64 (L.length : Int),.int .i64 (n : Int),.int .i64 (fr : Int),.int .i64 (log.size : Int),.int .i64 (sm : Int)] 139) := ⟨_,rfl⟩
   rw [<- hW5] at hr6 hb6
   have hzW5 : W5.heap.size = w5.heap.size + 1 := by rw [hW5]; simp
   have z56 := hb6.size
   have hBW5 : Below w5.heap.size w5 W5 := by rw [hW5]; exact (Below.refl _ _).alloc (Nat.le_refl _) _
   have hB6 : Below w5.heap.size w5 w6 := hBW5.trans (hb6.mono (by omega))
   have HB6 : Hid (Below w.heap.size w w6) := HB5.out.trans (hB6.mono z5)
   have HO6 : Hid _ := own_belowK HO5.out hB6 (Nat.le_refl _)
   have HTB : Hid _ := tableBytes_any W1.heap.size n n W1.heap.size T w6 HO6.out HTL.out (by omega) (by omega) HTN.out (HH.out.below HB6.out HH.out.1)
   have HR6 : Hid (w6.ownsRow W5.heap.size 5 1 v6 (sealL (frontB L.length n fr log.size sm)).length (cellsB (sealL (frontB L.length n fr log.size sm)))) := hr6
   have z6 := HB6.out.size
   clear hr6 hW5 HF HO5 HH5
   go_wp2_with fail
   refine Calls.mono HTB.out ?_
   rintro e w7 ⟨v7,rfl,hr7,hb7⟩
   have HB7 : Hid (Below w.heap.size w w7) := HB6.out.trans (hb7.mono z6)
   have hr6' := own_belowK HR6.out hb7 (Nat.le_refl _)
   have hlf : (sealL (frontB L.length n fr log.size sm)).length <= 20 := by rw [sealL_length,frontB_length]; omega
   have hlt2 : (sealL (tabB T)).length <= 10 * n + 4 /\ 1 <= (sealL (tabB T)).length := by rw [sealL_length,tabB_length,HTL.out]; omega
   obtain ⟨i1,hj,hy0,hy1,hy2⟩ := info_parts info_u8
   obtain ⟨g7,c7,rfl,hg70,hg71,hg7c⟩ := own_cellsN hr7 (by omega)
   have HG7 : Hid (∀ j u,(cellsB (sealL (tabB T)))[j]? = some u -> w7.cell? ((⟨g7,0,none⟩ : Addr).add j) = some u) := by
    intro j u hu
    rw [Addr.add_lit,Nat.zero_add,hg7c j (by have := (List.getElem?_eq_some_iff.1 hu).1; rw [cellsB_length] at this; omega)]
    exact hu
   have HR7 : Hid _ := hr6'
   have z7 := HB7.out.size
   have h67 := hb7.size
   clear HTB hr7 hr6' hg7c HR6 HO6 hb7 hB6 hBW5 hb6
   go_wp2_with (at_builtin; refine wpList_append_own _ rfl (.tmp 46) (.tmp 48) 43 rfl W5.heap.size 5 i1 (.int .u8 0) 1 1 Tryz.underlying43 hj hy0 hy1 hy2 rfl (by decide) _ _ _ rfl HR7.out ⟨g7,0,none⟩ (sealL (tabB T)).length c7 (cellsB (sealL (tabB T))) rfl (by rw [cellsB_length,Nat.mul_one]) HG7.out ?c2 ?c3 ?c4 ?c5 ?_)
   case c2 => intro u hu; obtain ⟨y,_,rfl⟩ := List.mem_map.1 hu; rfl
   case c3 => unfold maxLen; omega
   case c4 => omega
   case c5 => omega
   intro v8 w8 hr8 hg8 _
   rw [<- cellsB_append] at hr8
   have hcv := conv_own hr8
   rw [<- HIX.out] at hcv
   have HB8 : Hid (Below w.heap.size w w8) := HB7.out.grown hg8 z7 (fun k e => by have := own_ge HR7.out k e; omega)
   clear hr8 hg8
   go_wp2
   go_ret
   exact ⟨rfl,HB8.out⟩
end Go.Proofs.YtdhgebdbiehchaaGreatDoor
namespace Go.Proofs.YtdhgebdbiehchaaGreatDoor
open Go.RowKit Go.Shelf Go.Maps
set_option linter.unusedSimpArgs false
set_option linter.unusedVariables false
set_option maxRecDepth 100000
set_option maxHeartbeats 1600000
attribute [local go_sem] Oper.semAt_some
theorem said_facts {log : List UInt8} {L : List Sd} (h : saidS log = some L) : Lives L /\ L.length <= 2000 /\ (∀ x ∈ L,x.key.length <= 20 /\ x.blk <= 100000 /\ x.no <= 255) /\ hdSeed log <= 4294967295 /\ hdBits log <= 32 /\ log.length <= 100000 /\ headB log = true := by
 unfold saidS at h
 split at h
 ·cases h
 rename_i h1
 split at h
 ·cases h
 rename_i h2
 split at h
 ·cases h
 rename_i h3
 split at h
 ·cases h
 rename_i h4
 have h := Option.some.inj h
 subst h
 have hh : headB log = true := by cases hq : headB log with | true => rfl | false => exact absurd hq h2
 have hr : (readL log (hdBlk log) 14).1.Pairwise placeLt /\ (∀ x ∈ (readL log (hdBlk log) 14).1,14 <= x.blk /\ x.blk < log.length /\ x.no < 255) /\ _ := readF_rise log (hdBlk log) (log.length - 14) 14
 have hk : ∀ x ∈ (readL log (hdBlk log) 14).1,x.key.length <= 20 := readF_keys log (hdBlk log) (log.length - 14) 14
 refine ⟨lives_of hr.1 (fun y hy => ?_),by omega,fun x hx => ?_,?_,?_,by omega,hh⟩
 ·have := hr.2.1 y hy; omega
 ·have hm := (liveL_mem hx).1
  have := hr.2.1 x hm
  have := hk x hm
  omega
 ·have := highL4 ((log.drop 4).take 4) (by simp; omega)
  unfold hdSeed; omega
 ·unfold headB wellB at hh
  simp at hh
  omega
theorem read_long (log : ByteArray) (h : 100000 < log.size) (hs : log.size <= 140737488351232) (w : World) :
  Calls Tryz.prog 51 #[.string log] w fun e w' => e = .returned (.tuple #[.agg #[.int .i64 0,.int .i64 0,.int .i64 0,.map none,.map none],.bool false]) /\ Below w.heap.size w w' := by
 go_enter Tryz.func51,Tryz.ntmps51
 go_wp2
 refine bodyPost_ret (v := .tuple #[.agg #[.int .i64 0,.int .i64 0,.int .i64 0,.map none,.map none],.bool false]) ?_ rfl ⟨rfl,?_⟩
 ·simp [results,Tryz.results51,go_sem]
 ·first | exact (Below.refl _ _).alloc (Nat.le_refl _) _ | exact (((((((Below.refl _ _).alloc (Nat.le_refl _) _).setCell (Nat.le_refl _) _).setCell (Nat.le_refl _) _).setCell (Nat.le_refl _) _).setCell (Nat.le_refl _) _).setCell (Nat.le_refl _) _)
theorem read_none (log : ByteArray) (h : log.size <= 100000) (w : World) (hH : HalvesAt w) (hh : headB log.data.toList = false) :
  Calls Tryz.prog 51 #[.string log] w fun e w' => e = .returned (.tuple #[.agg #[.int .i64 0,.int .i64 0,.int .i64 0,.map none,.map none],.bool false]) /\ Below w.heap.size w w' := by
 have HR : Hid _ := readHead_any log (w.alloc (.cells #[.int .i64 0,.int .i64 0,.int .i64 0,.map none,.map none] 100)) (by omega) (hH.below ((Below.refl _ _).alloc (Nat.le_refl _) _) hH.1)
 rw [hh,show headV log.data.toList = .agg #[.int .i64 0,.int .i64 0,.int .i64 0] by rw [headV,if_neg (by rw [hh]; simp)]] at HR
 clear hH hh
 go_enter Tryz.func51,Tryz.ntmps51
 go_wp2_with fail
 refine Calls.mono HR.out ?_
 rintro e w1 ⟨rfl,hb⟩
 have hz : w.heap.size < w1.heap.size := by have := hb.size; simp at this; omega
 have c0 : w1.cell? ⟨w.heap.size,0,none⟩ = some (.int .i64 0) := by rw [hb.cell (p := ⟨w.heap.size,0,none⟩) (by simp)]; simp
 have c1 : w1.cell? ⟨w.heap.size,1,none⟩ = some (.int .i64 0) := by rw [hb.cell (p := ⟨w.heap.size,1,none⟩) (by simp)]; simp
 have c2 : w1.cell? ⟨w.heap.size,2,none⟩ = some (.int .i64 0) := by rw [hb.cell (p := ⟨w.heap.size,2,none⟩) (by simp)]; simp
 have c3 : w1.cell? ⟨w.heap.size,3,none⟩ = some (.map none) := by rw [hb.cell (p := ⟨w.heap.size,3,none⟩) (by simp)]; simp
 have c4 : w1.cell? ⟨w.heap.size,4,none⟩ = some (.map none) := by rw [hb.cell (p := ⟨w.heap.size,4,none⟩) (by simp)]; simp
 have f0 : w1.frozen? ⟨w.heap.size,0,none⟩ = false := by rw [hb.frozen (p := ⟨w.heap.size,0,none⟩) (by simp)]; simp
 have f1 : w1.frozen? ⟨w.heap.size,1,none⟩ = false := by rw [hb.frozen (p := ⟨w.heap.size,1,none⟩) (by simp)]; simp
 have f2 : w1.frozen? ⟨w.heap.size,2,none⟩ = false := by rw [hb.frozen (p := ⟨w.heap.size,2,none⟩) (by simp)]; simp
 have f3 : w1.frozen? ⟨w.heap.size,3,none⟩ = false := by rw [hb.frozen (p := ⟨w.heap.size,3,none⟩) (by simp)]; simp
 have f4 : w1.frozen? ⟨w.heap.size,4,none⟩ = false := by rw [hb.frozen (p := ⟨w.heap.size,4,none⟩) (by simp)]; simp
 have hB : Below w.heap.size w w1 := ((Below.refl _ _).alloc (Nat.le_refl _) _).trans (hb.mono (by simp))
 have hne : w.heap.size ≠ w1.heap.size := by omega
 clear HR hb
 go_wp2
 refine bodyPost_ret (v := .tuple #[.agg #[.int .i64 0,.int .i64 0,.int .i64 0,.map none,.map none],.bool false]) ?_ rfl ⟨rfl,?_⟩
 ·simp [results,Tryz.results51,go_sem,c0,c1,c2,c3,c4,hz,hne]
 ·exact (((((hB.setCell (p := ⟨w.heap.size,0,none⟩) (Nat.le_refl _) _).setCell (p := ⟨w.heap.size,1,none⟩) (Nat.le_refl _) _).setCell (p := ⟨w.heap.size,2,none⟩) (Nat.le_refl _) _).setCell (p := ⟨w.heap.size,3,none⟩) (Nat.le_refl _) _).setCell (p := ⟨w.heap.size,4,none⟩) (Nat.le_refl _) _).alloc (by simp; omega) _
theorem said_no {w w' : World} {log : List UInt8} (h : saidS log = none) : SaidIs w w' log (.tuple #[.agg #[.int .i64 0,.int .i64 0,.int .i64 0,.map none,.map none],.bool false]) := by
 unfold SaidIs; rw [h]
theorem read_any (log : ByteArray) (w : World) (hs : log.size <= 140737488351232) (hH : HalvesAt w) :
  Calls Tryz.prog 51 #[.string log] w fun e w' => ∃ v,e = .returned v /\ SaidIs w w' log.data.toList v /\ Below w.heap.size w w' := by
 have hlen : log.data.toList.length = log.size := by simp
 by_cases h1 : 100000 < log.size
 ·refine (read_long log h1 hs w).mono fun e w' h => ⟨_,h.1,said_no ?_,h.2⟩
  unfold saidS; rw [if_pos (by omega)]
 ·cases hh : headB log.data.toList with
  | true => exact callsIn_wide.1 (read_in 6 (by omega) log (by omega) w hH hh)
  | false =>
   refine (read_none log (by omega) w hH hh).mono fun e w' h => ⟨_,h.1,said_no ?_,h.2⟩
   unfold saidS; rw [if_neg (by omega),if_pos hh]
theorem progIndex_any (log : ByteArray) (w : World) (hs : log.size <= 140737488351232) (hH : HalvesAt w) :
  Calls Tryz.prog 20 #[.string log] w fun e w' => e = .returned (indexV (indexS log.data.toList)) /\ Below w.heap.size w w' := by
 have HR : Hid _ := read_any log w hs hH
 have HH : Hid (HalvesAt w) := hH
 have HI : Hid (indexS log.data.toList = (saidS log.data.toList).map (indexB log.data.toList (hdSeed log.data.toList) (hdBits log.data.toList))) := indexS_said _
 clear hH
 go_enter Tryz.func20,Tryz.ntmps20
 go_wp2_with fail
 refine Calls.mono HR.out ?_
 rintro e w1 ⟨v,rfl,hS,hb⟩
 clear HR
 cases hq : saidS log.data.toList with
 | none =>
  unfold SaidIs at hS
  rw [hq] at hS HI
  simp only at hS
  subst hS
  have HE : Hid (indexS log.data.toList = none) := HI.out
  clear hq HI
  go_wp2
  go_ret2
  exact ⟨by rw [HE.out]; rfl,hb.alloc hb.size _⟩
 | some L =>
  unfold SaidIs at hS
  rw [hq] at hS HI
  obtain ⟨bi,bp,n,hv,hM,hbi⟩ := hS
  subst hv
  obtain ⟨f1,f2,f3,f4,f5,f6,f7⟩ := said_facts hq
  have hlen : log.data.toList.length = log.size := by simp
  have HE : Hid (indexS log.data.toList = some (indexB log.data.toList (hdSeed log.data.toList) (hdBits log.data.toList) L)) := HI.out
  have HM : Hid (∀ wx,Maps2 wx bi bp n L -> HalvesAt wx -> _) := fun wx h1 h2 => make_any log (hdBlk log.data.toList) (hdSeed log.data.toList) (hdBits log.data.toList) bi bp n L wx h1 f1 f2 f3 f4 f5 (by omega) h2
  have HM1 : Hid (Maps2 w1 bi bp n L) := hM
  have HH1 : Hid (HalvesAt w1) := HH.out.below hb HH.out.1
  clear hq HI hM f1 f2 f3 f4 f5 f6 f7 hlen
  generalize indexB log.data.toList (hdSeed log.data.toList) (hdBits log.data.toList) L = I at *
  generalize hdBlk log.data.toList = blk at *
  generalize hdSeed log.data.toList = seed at *
  generalize hdBits log.data.toList = bits at *
  go_wp2_with fail
  refine Calls.mono (HM.out _ (HM1.out.alloc _) (HH1.out.below ((Below.refl _ _).alloc (Nat.le_refl _) _) HH1.out.1)) ?_
  rintro e w2 ⟨rfl,hb2⟩
  go_wp2
  go_ret2
  exact ⟨by rw [HE.out]; rfl,(hb.alloc hb.size _).trans (hb2.mono (by have := hb.size; simp; omega))⟩
end Go.Proofs.YtdhgebdbiehchaaGreatDoor
