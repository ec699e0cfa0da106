/- On the way: LaLast. -/
import Derived.Test.YtdhgebdbiehchaaGreatDoorB10
namespace Go.Proofs.YtdhgebdbiehchaaGreatDoor
open Go.RowKit Go.Maps
set_option linter.unusedSimpArgs false
set_option linter.unusedVariables false
set_option maxRecDepth 100000
set_option maxHeartbeats 1600000
theorem log_ent {blk seed bits : Nat} {bs : List (List Ent)} {m : Nat} (hm : m < bs.length) {j : Nat} (hj : j < bs[m].length) :
  ∃ P Q,headL blk seed bits ++ blocksB bs = P ++ (entB bs[m][j] ++ Q) /\ P.length = 14 + (blocksB (bs.take m)).length + 3 + (entsB (bs[m].take j)).length /\ 4 <= Q.length := by
 have hl := headL_length blk seed bits
 have e : blocksB bs = blocksB (bs.take m) ++ (blockB bs[m] ++ blocksB (bs.drop (m + 1))) := by
  have h1 : bs = bs.take m ++ (bs[m] :: bs.drop (m + 1)) := by rw [<- List.drop_eq_getElem_cons hm,List.take_append_drop]
  have e0 : blocksB (bs.take m ++ (bs[m] :: bs.drop (m + 1))) = blocksB (bs.take m) ++ (blockB bs[m] ++ blocksB (bs.drop (m + 1))) := by unfold blocksB; rw [List.flatMap_append,List.flatMap_cons]
  rw [<- h1] at e0
  exact e0
 generalize hes : bs[m] = es at *
 have e2 : entsB es = entsB (es.take j) ++ (entB es[j] ++ entsB (es.drop (j + 1))) := by
  have h1 : es = es.take j ++ (es[j] :: es.drop (j + 1)) := by rw [<- List.drop_eq_getElem_cons hj,List.take_append_drop]
  have e0 : entsB (es.take j ++ (es[j] :: es.drop (j + 1))) = entsB (es.take j) ++ (entB es[j] ++ entsB (es.drop (j + 1))) := by unfold entsB; rw [List.flatMap_append,List.flatMap_cons]
  rw [<- h1] at e0
  exact e0
 have e3 : blockB es = (lowL es.length 1 ++ lowL (entsB es).length 2) ++ (entsB es ++ lowL (crcN (lowL es.length 1 ++ lowL (entsB es).length 2 ++ entsB es)) 4) := by
  unfold blockB sealL
  rw [List.append_assoc]
 refine ⟨headL blk seed bits ++ blocksB (bs.take m) ++ (lowL es.length 1 ++ lowL (entsB es).length 2) ++ entsB (es.take j),entsB (es.drop (j + 1)) ++ lowL (crcN (lowL es.length 1 ++ lowL (entsB es).length 2 ++ entsB es)) 4 ++ blocksB (bs.drop (m + 1)),?_,?_,?_⟩
 ·rw [e,e3]
  generalize crcN (lowL es.length 1 ++ lowL (entsB es).length 2 ++ entsB es) = cr
  generalize lowL es.length 1 ++ lowL (entsB es).length 2 = hd
  rw [e2]
  simp [List.append_assoc]
 ·simp only [List.length_append,hl,lowL_len]
 ·simp only [List.length_append,lowL_len]
  omega
theorem ent_byte (P Q : List UInt8) (e : Ent) : (P ++ (entB e ++ Q))[P.length]? = some (if e.put = true then 112 else 100) /\ (P ++ (entB e ++ Q))[P.length + 1]? = some (UInt8.ofNat e.key.length) /\ (P ++ (entB e ++ Q))[P.length + 2]? = some (UInt8.ofNat e.val.length) /\ ((P ++ (entB e ++ Q)).drop (P.length + 3)).take e.key.length = e.key := by
 have h : ∀ i,(P ++ (entB e ++ Q))[P.length + i]? = (entB e ++ Q)[i]? := fun i => by
  rw [List.getElem?_append_right (by omega)]
  congr 1
  omega
 refine ⟨?_,?_,?_,?_⟩
 ·have := h 0
  rw [Nat.add_zero] at this
  rw [this]
  unfold entB
  rfl
 ·rw [h 1]; unfold entB; rfl
 ·rw [h 2]; unfold entB; rfl
 ·rw [drop_pre P _ P.length 3 rfl]
  unfold entB
  simp
theorem plB_snoc (a : Nat) (bs : List (List Ent)) (es : List Ent) : plB a (bs ++ [es]) = plB a bs ++ plE (a + (blocksB bs).length + 3) es := by
 induction bs generalizing a with
 | nil => simp [plB,blocksB]
 | cons b bs ih =>
  rw [List.cons_append,plB,plB,ih,blocksB_cons,List.length_append,List.append_assoc]
  congr 3
  omega
theorem plE_snoc (a : Nat) (es : List Ent) (e : Ent) : plE a (es ++ [e]) = plE a es ++ [⟨e.put,e.key,e.val,a + (entsB es).length,0⟩] := by
 induction es generalizing a with
 | nil => simp [plE,entsB]
 | cons b es ih =>
  have hs : (entsB (b :: es)).length = (entB b).length + (entsB es).length := by simp [entsB]
  rw [List.cons_append,plE,plE,ih,List.cons_append,hs,Nat.add_assoc]
theorem lastF_append (k : List UInt8) (b : Int) (l m : List Sd) : lastF k b (l ++ m) = lastF k (lastF k b l) m := List.foldl_append
theorem lastF_one (k : List UInt8) (b : Int) (x : Sd) : lastF k b [x] = if x.put = true /\ x.key = k then (x.blk : Int) else b := rfl
theorem klast_any (blk seed bits : Nat) (bs : List (List Ent)) (k : List UInt8) (w : World) (hbs : ∀ e ∈ bs,BlkOk blk e) (htl : (headL blk seed bits ++ blocksB bs).length <= 90000) (hkl : k.length <= 100) :
  Calls Tryz.prog 60 #[.string (S (headL blk seed bits ++ blocksB bs)),.string (S k)] w fun e w' => e = .returned (.int .i64 (lastL k (plB 14 bs))) /\ Below w.heap.size w w' := by
 have HBS : Hid (∀ e ∈ bs,BlkOk blk e) := hbs
 have hl := headL_length blk seed bits
 have hTl : (headL blk seed bits ++ blocksB bs).length = 14 + (blocksB bs).length := by rw [List.length_append,hl]
 have zT : (S (headL blk seed bits ++ blocksB bs)).size = (headL blk seed bits ++ blocksB bs).length := S_size _
 clear hbs
 go_enter Tryz.func60,Tryz.ntmps60
 go_wp2
 go_loopw [5,6] (fun bst at' wr => ∃ m : Nat,m <= bs.length /\ at' = .int .i64 ((14 + (blocksB (bs.take m)).length : Nat) : Int) /\ bst = .int .i64 (lastL k (plB 14 (bs.take m))) /\ Below w.heap.size w wr) (fun _ i _ => 200000 - (intOf i).toNat)
 case atStart => exact ⟨0,by omega,rfl,rfl,Below.refl _ _⟩
 case round =>
  obtain ⟨m,hm,rfl,rfl,hb⟩ := hrel
  have HB : Hid (Below w.heap.size w wr) := hb
  clear hb
  by_cases hmlt : m < bs.length
  ·obtain ⟨y1,y2,hy1,hy2,hn,hle,q1,q2⟩ := block_bytes (seed := seed) (bits := bits) HBS.out hmlt
   have hbl7 := blockB_length bs[m]
   have i1 : ∀ wx : World,(Instr.index 9 (.string (S (headL blk seed bits ++ blocksB bs))) (.int .i64 (((14 + (blocksB (bs.take m)).length : Nat) : Int) + 1))).run Tryz.prog wx = .ok (.int .u8 (y1 : Int)) wx := fun wx => by
    have hh : 14 + (blocksB (bs.take m)).length + 1 < (headL blk seed bits ++ blocksB bs).length := by omega
    rw [idx_run (S (headL blk seed bits ++ blocksB bs)) (14 + (blocksB (bs.take m)).length + 1) (by rw [zT]; exact hh) _ (by omega) wx]
    have e : (S (headL blk seed bits ++ blocksB bs))[14 + (blocksB (bs.take m)).length + 1]'(by rw [zT]; exact hh) = UInt8.ofNat y1 := by
     rw [List.getElem?_eq_getElem hh] at q1
     exact Option.some.inj q1
    rw [e,UInt8.toNat_ofNat',Nat.mod_eq_of_lt hy1]
   have i2 : ∀ wx : World,(Instr.index 9 (.string (S (headL blk seed bits ++ blocksB bs))) (.int .i64 (((14 + (blocksB (bs.take m)).length : Nat) : Int) + 2))).run Tryz.prog wx = .ok (.int .u8 (y2 : Int)) wx := fun wx => by
    have hh : 14 + (blocksB (bs.take m)).length + 2 < (headL blk seed bits ++ blocksB bs).length := by omega
    rw [idx_run (S (headL blk seed bits ++ blocksB bs)) (14 + (blocksB (bs.take m)).length + 2) (by rw [zT]; exact hh) _ (by omega) wx]
    have e : (S (headL blk seed bits ++ blocksB bs))[14 + (blocksB (bs.take m)).length + 2]'(by rw [zT]; exact hh) = UInt8.ofNat y2 := by
     rw [List.getElem?_eq_getElem hh] at q2
     exact Option.some.inj q2
    rw [e,UInt8.toNat_ofNat',Nat.mod_eq_of_lt hy2]
   have e5 : bs.take (m + 1) = bs.take m ++ [bs[m]] := List.take_succ_eq_append_getElem hmlt
   have HAT : Hid (((14 + (blocksB (bs.take (m + 1))).length : Nat) : Int) = ((14 + (blocksB (bs.take m)).length : Nat) : Int) + 3 + (y1 : Int) + 256 * (y2 : Int) + 4) := by
    show _ = _
    rw [e5,blocksB_snoc,List.length_append]
    omega
   have HBE : Hid (lastL k (plB 14 (bs.take (m + 1))) = lastF k (lastL k (plB 14 (bs.take m))) (plE (14 + (blocksB (bs.take m)).length + 3) bs[m])) := by
    show _ = _
    unfold lastL
    rw [e5,plB_snoc,lastF_append]
   have HEN : Hid (∀ j (hj : j < bs[m].length),∃ P Q,headL blk seed bits ++ blocksB bs = P ++ (entB bs[m][j] ++ Q) /\ P.length = 14 + (blocksB (bs.take m)).length + 3 + (entsB (bs[m].take j)).length /\ 4 <= Q.length) := fun j hj => log_ent hmlt hj
   have HOK : Hid (∀ e ∈ bs[m],EntOk e) := (HBS.out _ (List.getElem_mem hmlt)).ok
   have hA7 : ((14 + (blocksB (bs.take m)).length : Nat) : Int) + 7 <= ((headL blk seed bits ++ blocksB bs).length : Int) := by omega
   have hend : 14 + (blocksB (bs.take m)).length + 3 + (entsB bs[m]).length + 4 <= (headL blk seed bits ++ blocksB bs).length := by omega
   have HEY : Hid ((entsB bs[m]).length = y1 + 256 * y2) := by
    show _ = _
    omega
   generalize bs[m] = es at *
   clear q1 q2 hle e5 hbl7 hTl hn
   generalize lastL k (plB 14 (bs.take m)) = B0 at *
   generalize 14 + (blocksB (bs.take m)).length = A at *
   generalize headL blk seed bits ++ blocksB bs = T at *
   have hw1 : IntKind.i64.wrap ((A : Int) + 1) = (A : Int) + 1 := by rw [IntKind.wrap_i64]; omega
   have hw2 : IntKind.i64.wrap ((A : Int) + 2) = (A : Int) + 2 := by rw [IntKind.wrap_i64]; omega
   go_wp2_with fail
   go_region
   all_goals
    go_wp2_with fail
    go_loopw [5,8] (fun bst i wr => ∃ j : Nat,j <= es.length /\ i = .int .i64 ((A + 3 + (entsB (es.take j)).length : Nat) : Int) /\ bst = .int .i64 (lastF k B0 (plE (A + 3) (es.take j))) /\ Below w.heap.size w wr) (fun _ i _ => 200000 - (intOf i).toNat)
    case atStart => exact ⟨0,by omega,by simp [entsB],rfl,HB.out.drew⟩
    case round =>
     obtain ⟨j,hj,rfl,rfl,hb⟩ := hrel
     have HBr : Hid (Below w.heap.size w wr) := hb
     clear hb
     by_cases hjlt : j < es.length
     ·obtain ⟨P,Q,hT,hPl,hQ⟩ := HEN.out j hjlt
      have hek := HOK.out es[j] (List.getElem_mem _)
      have e5 : es.take (j + 1) = es.take j ++ [es[j]] := List.take_succ_eq_append_getElem hjlt
      have hlen : T.length = P.length + (3 + es[j].key.length + es[j].val.length) + Q.length := by rw [hT,List.length_append,List.length_append,entB_length]; omega
      have hnx : (entsB (es.take (j + 1))).length = (entsB (es.take j)).length + (3 + es[j].key.length + es[j].val.length) := by rw [e5,entsB_snoc,List.length_append,entB_length]
      have hle2 : (entsB (es.take (j + 1))).length <= (entsB es).length := by
       have h1 : es = es.take (j + 1) ++ es.drop (j + 1) := (List.take_append_drop _ _).symm
       have h2 : entsB (es.take (j + 1) ++ es.drop (j + 1)) = entsB (es.take (j + 1)) ++ entsB (es.drop (j + 1)) := by unfold entsB; rw [List.flatMap_append]
       rw [<- h1] at h2
       rw [h2,List.length_append]; omega
      have HLF : Hid (lastF k B0 (plE (A + 3) (es.take (j + 1))) = if es[j].put = true /\ es[j].key = k then ((A + 3 + (entsB (es.take j)).length : Nat) : Int) else lastF k B0 (plE (A + 3) (es.take j))) := by
       show _ = _
       rw [e5,plE_snoc,lastF_append,lastF_one]
      have hin : ∀ (d : Nat) (b : UInt8) (z : Int),z = ((A + 3 + (entsB (es.take j)).length : Nat) : Int) + d -> A + 3 + (entsB (es.take j)).length + d < T.length -> T[A + 3 + (entsB (es.take j)).length + d]? = some b -> ∀ wx : World,(Instr.index 9 (.string (S T)) (.int .i64 z)).run Tryz.prog wx = .ok (.int .u8 (b.toNat : Int)) wx := fun d b z hz hh hq wx => by
       rw [idx_run (S T) (A + 3 + (entsB (es.take j)).length + d) (by rw [zT]; exact hh) _ (by omega) wx]
       have e : (S T)[A + 3 + (entsB (es.take j)).length + d]'(by rw [zT]; exact hh) = b := by
        rw [List.getElem?_eq_getElem hh] at hq
        exact Option.some.inj hq
       rw [e]
      obtain ⟨b0,b1,b2,b3⟩ := ent_byte P Q es[j]
      rw [<- hT,hPl] at b0 b1 b2 b3
      have x0 := hin 0 _ (((A + 3 + (entsB (es.take j)).length : Nat) : Int)) (by simp) (by omega) b0
      have x1 := hin 1 _ (((A + 3 + (entsB (es.take j)).length : Nat) : Int) + 1) (by omega) (by omega) b1
      have x2 := hin 2 _ (((A + 3 + (entsB (es.take j)).length : Nat) : Int) + 2) (by omega) (by omega) b2
      rw [show (UInt8.ofNat es[j].key.length).toNat = es[j].key.length by have := hek.2.1; simp; omega] at x1
      rw [show (UInt8.ofNat es[j].val.length).toNat = es[j].val.length by have := hek.2.2.1; simp; omega] at x2
      have xc := cut_run (S T) (A + 3 + (entsB (es.take j)).length + 3) es[j].key.length (by rw [zT]; omega) (((A + 3 + (entsB (es.take j)).length : Nat) : Int) + 3) (((A + 3 + (entsB (es.take j)).length : Nat) : Int) + 3 + (es[j].key.length : Int)) (by omega) (by omega)
      rw [show (S T).data.toList = T from rfl,b3] at xc
      have hk1 := hek.2.1
      have hk2 := hek.2.2.1
      have HEY2 := HEY.out
      have HNX : Hid ((entsB (es.take (j + 1))).length = (entsB (es.take j)).length + (3 + es[j].key.length + es[j].val.length)) := hnx
      have hI : A + 3 + (entsB (es.take j)).length + 3 + es[j].key.length + es[j].val.length <= A + 3 + y1 + 256 * y2 := by omega
      clear hin b0 b1 b2 b3 hek e5 hT hPl hQ hlen hnx hle2
      generalize hB1 : lastF k B0 (plE (A + 3) (es.take j)) = B1 at *
      clear hB1
      obtain ⟨I,hIe⟩ : ∃ I,I = A + 3 + (entsB (es.take j)).length := ⟨_,rfl⟩
      rw [<- hIe] at x0 x1 x2 xc hI HLF ⊢
      have HII : Hid (I = A + 3 + (entsB (es.take j)).length) := hIe
      clear hIe
      have hI1 : (I : Int) + 3 <= (A : Int) + 3 + (y1 : Int) + 256 * (y2 : Int) := by omega
      have hI2 : (I : Int) + 3 <= (T.length : Int) := by omega
      generalize es[j] = en at *
      have hI3 : (I : Int) + 3 + (en.key.length : Int) <= (T.length : Int) := by omega
      have hw3 : IntKind.i64.wrap ((I : Int) + 1) = (I : Int) + 1 := by rw [IntKind.wrap_i64]; omega
      have hw4 : IntKind.i64.wrap ((I : Int) + 2) = (I : Int) + 2 := by rw [IntKind.wrap_i64]; omega
      have HIB : Hid (I <= 90000) := show I <= 90000 by omega
      clear i1 i2 hI hw1 hw2 HEY2
      by_cases hput : en.put = true
      ·rw [if_pos hput] at x0
       simp only [show (112 : UInt8).toNat = 112 from rfl] at x0
       by_cases hke : en.key = k
       ·have hcmp : ((S en.key).toList == (S k).toList) = true := by rw [hke]; simp
        rw [if_pos ⟨hput,hke⟩] at HLF
        clear hke hput
        go_wp2
        go_roundw
        case rel => exact ⟨j + 1,by omega,by rw [show ((A + 3 + (entsB (es.take (j + 1))).length : Nat) : Int) = (I : Int) + 3 + (en.key.length : Int) + (en.val.length : Int) by have := HNX.out; have := HII.out; omega],by rw [HLF.out],HBr.out⟩
        case measure => simp [intOf]; have := HIB.out; omega
       ·have hcmp : ((S en.key).toList == (S k).toList) = false := by
         rw [ByteArray.toList_eq,ByteArray.toList_eq,S_data,S_data,beq_eq_false_iff_ne]; exact hke
        rw [if_neg (fun h => hke h.2)] at HLF
        clear hke hput
        go_wp2
        go_roundw
        case rel => exact ⟨j + 1,by omega,by rw [show ((A + 3 + (entsB (es.take (j + 1))).length : Nat) : Int) = (I : Int) + 3 + (en.key.length : Int) + (en.val.length : Int) by have := HNX.out; have := HII.out; omega],by rw [HLF.out],HBr.out⟩
        case measure => simp [intOf]; have := HIB.out; omega
      ·rw [if_neg hput] at x0
       rw [if_neg (fun h => hput h.1)] at HLF
       simp only [show (100 : UInt8).toNat = 100 from rfl] at x0
       clear hput
       go_wp2
       go_roundw
       case rel => exact ⟨j + 1,by omega,by rw [show ((A + 3 + (entsB (es.take (j + 1))).length : Nat) : Int) = (I : Int) + 3 + (en.key.length : Int) + (en.val.length : Int) by have := HNX.out; have := HII.out; omega],by rw [HLF.out],HBr.out⟩
       case measure => simp [intOf]; have := HIB.out; omega
     ·have hje : j = es.length := by omega
      subst hje
      rw [List.take_length]
      have hI1 : ¬ ((A + 3 + (entsB es).length : Nat) : Int) + 3 <= (A : Int) + 3 + (y1 : Int) + 256 * (y2 : Int) := by have := HEY.out; omega
      have hI2 : ((A + 3 + (entsB es).length : Nat) : Int) + 4 <= (T.length : Int) := by omega
      rw [<- HBE.out]
      generalize ((A + 3 + (entsB es).length : Nat) : Int) = I at *
      clear i1 i2
      go_wp2
      go_roundw
      case rel => exact ⟨m + 1,by omega,by rw [HAT.out],rfl,HBr.out⟩
      case measure => simp [intOf]; omega
  ·have hme : m = bs.length := by omega
   subst hme
   rw [List.take_length,<- hTl]
   have hA : ¬ (((headL blk seed bits ++ blocksB bs).length : Nat) : Int) + 7 <= (((headL blk seed bits ++ blocksB bs).length : Nat) : Int) := by omega
   clear hTl
   generalize headL blk seed bits ++ blocksB bs = T at *
   go_wp2
   go_ret
   exact ⟨rfl,HB.out⟩
end Go.Proofs.YtdhgebdbiehchaaGreatDoor
