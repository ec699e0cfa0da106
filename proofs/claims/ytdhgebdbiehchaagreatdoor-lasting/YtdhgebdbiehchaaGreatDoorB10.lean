/- On the way: KpPure, KpPure2, KpPure3, LaPure, LaTold, LaSort, RefLook, RecHead, RecEnt, RecGood, Burst, SpPure, SpBlk. -/
import Derived.Test.YtdhgebdbiehchaaGreatDoorB08
import Derived.Test.YtdhgebdbiehchaaGreatDoorB07
import Derived.Test.YtdhgebdbiehchaaGreatDoorB03
import Derived.Deep.DeepCutAuto
namespace Go.Proofs.YtdhgebdbiehchaaGreatDoor
open Go.RowKit
set_option linter.unusedSimpArgs false
set_option linter.unusedVariables false
set_option maxRecDepth 100000
set_option maxHeartbeats 3200000
def kdk (blk seed bits : Nat) (bs : List (List Ent)) (sy : Nat) (f2 : Option Fl) (ws : List Ent) : Dk := ⟨100000,false,some ⟨headL blk seed bits ++ blocksB bs,sy⟩,none,f2,none,some blk,ws⟩
structure KOk (blk seed bits : Nat) (bs : List (List Ent)) (f2 : Option Fl) (ws : List Ent) (c : Nat) : Prop where
 hblk : 1 <= blk /\ blk <= 400
 hseed : seed <= 4294967295
 hbits : bits <= 32
 hbs : ∀ es ∈ bs,BlkOk blk es
 hws : ∀ e ∈ ws,EntOk e
 most : ws.length <= 255
 size : 1 < ws.length -> (entsB ws).length <= blk
 count : bs.flatten.length + ws.length <= c
 idx : lenF f2 <= 26000
theorem blocks_len {blk : Nat} {bs : List (List Ent)} (h : ∀ es ∈ bs,BlkOk blk es) : (blocksB bs).length <= 60 * bs.flatten.length := by
 induction bs with
 | nil => simp [blocksB]
 | cons es bs ih =>
  have h1 := h es (by simp)
  have h2 := ih (fun x hx => h x (by simp [hx]))
  have h3 := entsB_le h1.ok
  have h4 : 1 <= es.length := by
   have := h1.some
   cases es with
   | nil => exact absurd rfl this
   | cons a l => simp
  rw [blocksB_cons,List.length_append,blockB_length,List.flatten_cons,List.length_append]
  omega
theorem KOk.text {blk seed bits : Nat} {bs : List (List Ent)} {f2 : Option Fl} {ws : List Ent} {c : Nat} (h : KOk blk seed bits bs f2 ws c) : (headL blk seed bits ++ blocksB bs).length <= 14 + 60 * c := by
 have h1 := blocks_len h.hbs
 have h2 := h.count
 rw [List.length_append,headL_length]
 omega
theorem KOk.block {blk seed bits : Nat} {bs : List (List Ent)} {f2 : Option Fl} {ws : List Ent} {c : Nat} (h : KOk blk seed bits bs f2 ws c) (hw : ws ≠ []) : BlkOk blk ws := ⟨hw,h.most,h.hws,h.size⟩
theorem kdk_used (blk seed bits : Nat) (bs : List (List Ent)) (sy : Nat) (f2 : Option Fl) (ws : List Ent) : (kdk blk seed bits bs sy f2 ws).used = (headL blk seed bits ++ blocksB bs).length + lenF f2 := by
 show lenF (some _) + lenF none + lenF f2 = _
 simp [lenF]
theorem KOk.wrote {blk seed bits : Nat} {bs : List (List Ent)} {f2 : Option Fl} {ws : List Ent} {c : Nat} (h : KOk blk seed bits bs f2 ws c) (hw : ws ≠ []) : KOk blk seed bits (bs ++ [ws]) f2 [] c :=
 ⟨h.hblk,h.hseed,h.hbits,fun es hes => by
  rcases List.mem_append.1 hes with hes | hes
  ·exact h.hbs es hes
  ·rw [List.mem_singleton.1 hes]; exact h.block hw,fun e he => by simp at he,by simp,by simp,by have := h.count; simp at this ⊢; omega,h.idx⟩
def pkv (x : Sd) : Bool × List UInt8 × List UInt8 := (x.put,x.key,x.val)
def kv (x : Sd) : List UInt8 × List UInt8 := (x.key,x.val)
theorem live_alike : ∀ (l l' : List Sd),l.map pkv = l'.map pkv -> (liveL l).map kv = (liveL l').map kv := by
 intro l
 induction l with
 | nil =>
  intro l' h
  have : l' = [] := by simpa using h.symm
  subst this; rfl
 | cons x l ih =>
  intro l' h
  cases l' with
  | nil => simp at h
  | cons y l' =>
   simp only [List.map_cons,List.cons.injEq] at h
   obtain ⟨h1,h2⟩ := h
   have e := ih l' h2
   have k1 : x.put = y.put := congrArg (·.1) h1
   have k2 : x.key = y.key := congrArg (·.2.1) h1
   have k3 : x.val = y.val := congrArg (·.2.2) h1
   have hk : (∀ z ∈ l,z.key ≠ x.key) ↔ (∀ z ∈ l',z.key ≠ y.key) := by
    have hm : l.map (·.key) = l'.map (·.key) := by
     have := congrArg (List.map (fun q : Bool × List UInt8 × List UInt8 => q.2.1)) h2
     simpa [List.map_map,Function.comp_def,pkv] using this
    rw [k2]
    constructor
    ·intro h z hz e
     have : z.key ∈ l.map (·.key) := by rw [hm]; exact List.mem_map.2 ⟨z,hz,rfl⟩
     obtain ⟨u,hu,he⟩ := List.mem_map.1 this
     exact h u hu (he.trans e)
    ·intro h z hz e
     have : z.key ∈ l'.map (·.key) := by rw [<- hm]; exact List.mem_map.2 ⟨z,hz,rfl⟩
     obtain ⟨u,hu,he⟩ := List.mem_map.1 this
     exact h u hu (he.trans e)
   rw [liveL,liveL]
   by_cases hc : x.put = true /\ ∀ z ∈ l,z.key ≠ x.key
   ·rw [if_pos hc,if_pos ⟨k1 ▸ hc.1,hk.1 hc.2⟩,List.map_cons,List.map_cons,e]
    unfold kv
    rw [k2,k3]
   ·rw [if_neg hc,if_neg (fun h => hc ⟨k1 ▸ h.1,hk.2 h.2⟩),e]
def entS (e : Ent) : Sd := ⟨e.put,e.key,e.val,0,0⟩
def heldS (es : List Ent) : List Sd := liveL (es.map entS)
theorem heldS_snoc (es : List Ent) (e : Ent) : heldS (es ++ [e]) = (heldS es).filter (fun y => decide (y.key ≠ e.key)) ++ (if e.put = true then [entS e] else []) := by
 unfold heldS
 rw [List.map_append,List.map_singleton,liveL_snoc]
 rfl
theorem saids_pkv (a i : Nat) (es : List Ent) : (saids a i es).map pkv = (es.map entS).map pkv := by
 induction es generalizing i with
 | nil => rfl
 | cons e es ih => simp only [saids,List.map_cons,ih]; rfl
theorem sds_pkv (a : Nat) (bs : List (List Ent)) : (sdsB a bs).map pkv = (bs.flatten.map entS).map pkv := by
 induction bs generalizing a with
 | nil => rfl
 | cons es bs ih => rw [sdsB,List.map_append,saids_pkv,ih,List.flatten_cons,List.map_append,List.map_append]
theorem held_said (bs : List (List Ent)) : (liveL (sdsB 14 bs)).map kv = (heldS bs.flatten).map kv := live_alike _ _ (sds_pkv 14 bs)
theorem sds_length (a : Nat) (bs : List (List Ent)) : (sdsB a bs).length = bs.flatten.length := by
 have := congrArg List.length (sds_pkv a bs)
 rw [List.length_map,List.length_map,List.length_map] at this
 exact this
theorem k_read {blk seed bits : Nat} {bs : List (List Ent)} {f2 : Option Fl} {ws : List Ent} {c : Nat} (h : KOk blk seed bits bs f2 ws c) :
  readL (headL blk seed bits ++ blocksB bs) (blk : Int) 14 = (sdsB 14 bs,(headL blk seed bits ++ blocksB bs).length) := by
 have hl := headL_length blk seed bits
 have := read_back bs h.hbs (headL blk seed bits) [] (by omega) (by
  rw [List.append_nil]
  cases hb : blockP (headL blk seed bits ++ blocksB bs) ((headL blk seed bits).length + (blocksB bs).length) (blk : Int) with
  | none => rfl
  | some r =>
   obtain ⟨es,k⟩ := r
   have := blockP_some hb
   simp at this
   omega)
 rw [List.append_nil,hl] at this
 rw [this]
 simp [hl]
theorem size_200 {n : Nat} (h : n <= 1000) : sizeL n <= 2500 := sizeF_bound 12 n 4 2500 (by omega) (by omega)
theorem k_index {blk seed bits : Nat} {bs : List (List Ent)} {f2 : Option Fl} {ws : List Ent} {c : Nat} (h : KOk blk seed bits bs f2 ws c) (hc : c <= 1000) :
  ∃ ix,indexS (headL blk seed bits ++ blocksB bs) = some ix /\ ix.length <= 26000 /\ 24 <= ix.length := by
 have hb := head_back h.hblk.1 h.hblk.2 h.hseed h.hbits (blocksB bs)
 have hl := h.text
 have hr := k_read h
 have h1 := liveL_le (sdsB 14 bs)
 have h2 := sds_length 14 bs
 have h3 := h.count
 refine ⟨indexB (headL blk seed bits ++ blocksB bs) seed bits (liveL (sdsB 14 bs)),?_,?_,?_⟩
 ·unfold indexS
  rw [if_neg (by omega),if_neg (by rw [hb.1]; simp),hb.2.1,hr,if_neg (by simp),if_neg (by show ¬ 2000 < (liveL (sdsB 14 bs)).length; omega),hb.2.2.1,hb.2.2.2]
 all_goals
  have hz := size_200 (n := (liveL (sdsB 14 bs)).length) (by omega)
  unfold indexB
  rw [List.length_append,sealL_length,sealL_length,frontB_length,tabB_length]
  have : (tableOf (seed : Int) (bits : Int) (liveL (sdsB 14 bs))).length = sizeL (liveL (sdsB 14 bs)).length := fillL_length _ _
  rw [this]
  omega
def findKv (k : List UInt8) : List Sd -> Option (List UInt8)
 | [] => none
 | x :: l => if x.key = k then some x.val else findKv k l
theorem find_no {k : List UInt8} {L : List Sd} (h : ∀ x ∈ L,x.key ≠ k) : findKv k L = none := by
 induction L with
 | nil => rfl
 | cons y L ih => rw [findKv,if_neg (h y (by simp)),ih (fun x hx => h x (by simp [hx]))]
theorem find_alike {k : List UInt8} : ∀ {L M : List Sd},L.map kv = M.map kv -> findKv k L = findKv k M := by
 intro L
 induction L with
 | nil =>
  intro M h
  have : M = [] := by simpa using h.symm
  subst this; rfl
 | cons x L ih =>
  intro M h
  cases M with
  | nil => simp at h
  | cons y M =>
   simp only [List.map_cons,List.cons.injEq] at h
   have k2 : x.key = y.key := congrArg (·.1) h.1
   have k3 : x.val = y.val := congrArg (·.2) h.1
   rw [findKv,findKv,k2,k3,ih h.2]
theorem find_mem {k : List UInt8} {L : List Sd} (h : L.Pairwise (fun x y => x.key ≠ y.key)) {x : Sd} (hx : x ∈ L) (hk : x.key = k) : findKv k L = some x.val := by
 induction L with
 | nil => simp at hx
 | cons y L ih =>
  rw [List.pairwise_cons] at h
  rw [findKv]
  rcases List.mem_cons.1 hx with rfl | hx
  ·rw [if_pos hk]
  ·rw [if_neg (by rw [<- hk]; exact h.1 x hx),ih h.2 hx]
def codeK (o : Option (List UInt8)) : Int := match o with
 | none => 2
 | some _ => 0
theorem k_look {blk seed bits : Nat} {bs : List (List Ent)} {f2 : Option Fl} {ws : List Ent} {c : Nat} (h : KOk blk seed bits bs f2 ws c) {ix : List UInt8} (hix : indexS (headL blk seed bits ++ blocksB bs) = some ix) (k : List UInt8) :
  ∃ n,lookS (headL blk seed bits ++ blocksB bs) ix k = ⟨(findKv k (heldS bs.flatten)).getD [],n,codeK (findKv k (heldS bs.flatten))⟩ /\ 1 <= n /\ n <= ixFar ix + 1 := by
 obtain ⟨_,_,_,hyes,hno⟩ := look_index hix
 have hb := head_back h.hblk.1 h.hblk.2 h.hseed h.hbits (blocksB bs)
 have hr := k_read h
 rw [hb.2.1,hr] at hyes hno
 have ha := find_alike (k := k) (held_said bs)
 by_cases hk : ∃ x ∈ liveL (sdsB 14 bs),x.key = k
 ·obtain ⟨x,hx,rfl⟩ := hk
  obtain ⟨n,e,h1,h2⟩ := hyes x hx
  have hf := find_mem (liveL_keys (sdsB 14 bs)) hx rfl
  rw [<- ha,hf]
  exact ⟨n,e,h1,h2⟩
 ·have hk' : ∀ x ∈ liveL (sdsB 14 bs),x.key ≠ k := fun x hx e => hk ⟨x,hx,e⟩
  obtain ⟨n,e,h1,h2⟩ := hno k hk'
  rw [<- ha,find_no hk']
  exact ⟨n,e,h1,h2⟩
theorem k_begun {blk seed bits : Nat} (h1 : 1 <= blk) (h2 : blk <= 400) (h3 : seed <= 4294967295) (h4 : bits <= 32) :
  (⟨100000,false,none,none,none,none,none,[]⟩ : Dk).create blk seed bits = (0,kdk blk seed bits [] 14 none []) /\ KOk blk seed bits [] none [] 0 := by
 refine ⟨?_,⟨h1,h2⟩,h3,h4,by simp,by simp,by simp,by simp,by simp,by simp [lenF]⟩
 have hw : wellB (blk : Int) (seed : Int) (bits : Int) = true := by unfold wellB; simp; omega
 have hl := headL_length blk seed bits
 unfold Dk.create
 rw [if_neg (by rw [hw]; simp),if_neg (by simp),if_neg (by simp)]
 show Dk.opening _ blk [stMake 0,stAppend 0 (headL blk seed bits),stSync 0] = _
 unfold Dk.opening
 have e : (⟨100000,false,none,none,none,none,none,[]⟩ : Dk).steps [stMake 0,stAppend 0 (headL blk seed bits),stSync 0] = (0,⟨100000,false,some ⟨headL blk seed bits,14⟩,none,none,none,none,[]⟩) := by
  show (match (⟨100000,false,some ⟨[],0⟩,none,none,none,none,[]⟩ : Dk).take (stAppend 0 (headL blk seed bits)) with | (e,d'') => if e = 0 then d''.steps [stSync 0] else (e,d'')) = _
  have e2 : (⟨100000,false,some ⟨[],0⟩,none,none,none,none,[]⟩ : Dk).take (stAppend 0 (headL blk seed bits)) = (0,⟨100000,false,some ⟨headL blk seed bits,0⟩,none,none,none,none,[]⟩) := by
   show (if (100000 : Nat) < 0 + 0 + 0 + (headL blk seed bits).length then ((6 : Int),(⟨100000,false,some ⟨[],0⟩,none,none,none,none,[]⟩ : Dk)) else ((0 : Int),(⟨100000,false,some ⟨[],0⟩,none,none,none,none,[]⟩ : Dk).put 0 (some ⟨[] ++ headL blk seed bits,0⟩))) = _
   rw [if_neg (by omega)]
   rfl
  rw [e2]
  show ((0 : Int),(⟨100000,false,some ⟨headL blk seed bits,(headL blk seed bits).length⟩,none,none,none,none,[]⟩ : Dk)) = _
  rw [hl]
 rw [e]
 show ((0 : Int),(⟨100000,false,some ⟨headL blk seed bits,14⟩,none,none,none,some blk,[]⟩ : Dk)) = _
 unfold kdk
 rw [show blocksB [] = [] from rfl,List.append_nil]
theorem no_block (pre : List UInt8) (blk : Int) : blockP pre pre.length blk = none := by
 cases hb : blockP pre pre.length blk with
 | none => rfl
 | some r =>
  obtain ⟨es,k⟩ := r
  have := blockP_some hb
  omega
theorem cut_logL {blk : Nat} (b1 : List (List Ent)) (h : ∀ es ∈ b1,BlkOk blk es) (pre : List UInt8) (n : Nat) (hn : pre.length <= n) :
  ∃ j rest,j <= b1.length /\ (pre ++ blocksB b1).take n = pre ++ (blocksB (b1.take j) ++ rest) /\ blockP (pre ++ (blocksB (b1.take j) ++ rest)) (pre.length + (blocksB (b1.take j)).length) blk = none := by
 induction b1 generalizing pre with
 | nil =>
  refine ⟨0,[],by simp,?_,?_⟩
  ·simp [blocksB,List.take_of_length_le hn]
  ·simp only [blocksB,List.take_nil,List.flatMap_nil,List.append_nil,List.length_nil,Nat.add_zero]
   exact no_block pre blk
 | cons b bs ih =>
  by_cases hb : pre.length + (blockB b).length <= n
  ·obtain ⟨j,rest,h1,h2,h3⟩ := ih (fun x hx => h x (by simp [hx])) (pre ++ blockB b) (by rw [List.length_append]; exact hb)
   refine ⟨j + 1,rest,by simp; omega,?_,?_⟩
   ·rw [List.take_succ_cons,blocksB_cons,blocksB_cons,<- List.append_assoc,h2]
    simp
   ·rw [List.take_succ_cons,blocksB_cons]
    rw [List.append_assoc,List.length_append] at h3
    rw [List.append_assoc,List.length_append,<- Nat.add_assoc]
    exact h3
  ·refine ⟨0,(blockB b).take (n - pre.length),by simp,?_,?_⟩
   ·rw [blocksB_cons,List.take_append,List.take_of_length_le hn,List.take_append_of_le_length (by omega)]
    simp [blocksB]
   ·simp only [blocksB,List.take_zero,List.flatMap_nil,List.nil_append,List.length_nil,Nat.add_zero]
    exact block_cut (h b (by simp)) pre (by omega)
def KeysOk (es : List Ent) : Prop := ∀ e ∈ es,∃ i,i < 60 /\ e.key = keyK i
def ldk (blk seed bits : Nat) (bs : List (List Ent)) (sy : Nat) (f1 f2 : Option Fl) (lf : Option (Nat × Nat)) (ws : List Ent) : Dk := ⟨100000,false,some ⟨headL blk seed bits ++ blocksB bs,sy⟩,f1,f2,lf,some blk,ws⟩
structure LUpAt (blk seed bits c : Nat) (d : Dk) (all : List (List Sd)) (b0 b1 : List (List Ent)) (f1 f2 : Option Fl) (lf : Option (Nat × Nat)) (ws : List Ent) : Prop where
 eq : d = ldk blk seed bits (b0 ++ b1) (headL blk seed bits ++ blocksB b0).length f1 f2 lf ws
 ok : KOk blk seed bits (b0 ++ b1) f2 ws c
 new : lenF f1 <= 26000
 len : all.length = (b1.flatten ++ ws).length + 1
 alike : ∀ j L,all[j]? = some L -> L.map kv = (heldS (b0.flatten ++ (b1.flatten ++ ws).take j)).map kv
 keys : KeysOk ((b0 ++ b1).flatten ++ ws)
def LUp (blk seed bits c : Nat) (d : Dk) (all : List (List Sd)) : Prop := ∃ b0 b1 f1 f2 lf ws,LUpAt blk seed bits c d all b0 b1 f1 f2 lf ws
structure LDownAt (blk seed bits c : Nat) (d : Dk) (all : List (List Sd)) (bs : List (List Ent)) (rest : List UInt8) (sy : Nat) (f1 f2 : Option Fl) : Prop where
 eq : d = ⟨100000,true,some ⟨headL blk seed bits ++ (blocksB bs ++ rest),sy⟩,f1,f2,none,none,[]⟩
 ok : KOk blk seed bits bs f2 [] c
 new : lenF f1 <= 26000
 stop : blockP (headL blk seed bits ++ (blocksB bs ++ rest)) (14 + (blocksB bs).length) blk = none
 said : ∃ L ∈ all,L.map kv = (heldS bs.flatten).map kv
 keys : KeysOk bs.flatten
def LDown (blk seed bits c : Nat) (d : Dk) (all : List (List Sd)) : Prop := ∃ bs rest sy f1 f2,LDownAt blk seed bits c d all bs rest sy f1 f2
theorem fall_lenO (k : Nat) (f : Option Fl) : lenF (f.map (Fl.fall k)) <= lenF f := by
 cases f with
 | none => exact Nat.le_refl _
 | some f =>
  show (f.text.take _).length <= f.text.length
  rw [List.length_take]; omega
theorem KOk.sub {blk seed bits : Nat} {bs bs' : List (List Ent)} {f2 f2' : Option Fl} {ws : List Ent} {c : Nat} (h : KOk blk seed bits bs f2 ws c) (hs : ∀ e ∈ bs',e ∈ bs) (hl : bs'.flatten.length <= bs.flatten.length) (hf : lenF f2' <= 26000) : KOk blk seed bits bs' f2' [] c :=
 ⟨h.hblk,h.hseed,h.hbits,fun e he => h.hbs e (hs e he),by simp,by simp,by simp,by have := h.count; simp at this ⊢; simp at hl; omega,hf⟩
theorem flat_take (b1 : List (List Ent)) (ws : List Ent) (j : Nat) : (b1.flatten ++ ws).take ((b1.take j).flatten.length) = (b1.take j).flatten := by
 have e : b1.flatten = (b1.take j).flatten ++ (b1.drop j).flatten := by rw [<- List.flatten_append,List.take_append_drop]
 rw [e,List.append_assoc,List.take_left']
 rfl
theorem flat_le (b1 : List (List Ent)) (j : Nat) : (b1.take j).flatten.length <= b1.flatten.length := by
 have e : b1.flatten = (b1.take j).flatten ++ (b1.drop j).flatten := by rw [<- List.flatten_append,List.take_append_drop]
 rw [e,List.length_append]; omega
theorem l_falls {blk seed bits c : Nat} {d : Dk} {all : List (List Sd)} {b0 b1 : List (List Ent)} {f1 f2 : Option Fl} {lf : Option (Nat × Nat)} {ws : List Ent} (h : LUpAt blk seed bits c d all b0 b1 f1 f2 lf ws) (k : Nat) : LDown blk seed bits c (d.falls k) all := by
 have hl := headL_length blk seed bits
 obtain ⟨j,rest,h1,h2,h3⟩ := cut_logL b1 (fun e he => h.ok.hbs e (by simp [he])) (headL blk seed bits ++ blocksB b0) ((headL blk seed bits ++ blocksB b0).length + min k ((headL blk seed bits ++ blocksB (b0 ++ b1)).length - (headL blk seed bits ++ blocksB b0).length)) (by omega)
 have eb : blocksB (b0 ++ b1) = blocksB b0 ++ blocksB b1 := by simp [blocksB]
 have ej : blocksB (b0 ++ b1.take j) = blocksB b0 ++ blocksB (b1.take j) := by simp [blocksB]
 have ef : (b0 ++ b1.take j).flatten = b0.flatten ++ (b1.take j).flatten := by simp
 have et : headL blk seed bits ++ (blocksB (b0 ++ b1.take j) ++ rest) = headL blk seed bits ++ blocksB b0 ++ (blocksB (b1.take j) ++ rest) := by rw [ej]; simp
 have hj := flat_le b1 j
 obtain ⟨L,hL⟩ : ∃ L,all[(b1.take j).flatten.length]? = some L := ⟨_,List.getElem?_eq_getElem (by rw [h.len,List.length_append]; omega)⟩
 refine ⟨b0 ++ b1.take j,rest,(headL blk seed bits ++ blocksB b0).length + min k ((headL blk seed bits ++ blocksB (b0 ++ b1)).length - (headL blk seed bits ++ blocksB b0).length),f1.map (Fl.fall k),f2.map (Fl.fall k),?_,?_,?_,?_,⟨L,List.mem_of_getElem? hL,?_⟩,?_⟩
 ·rw [h.eq]
  unfold ldk Dk.falls
  simp only [Option.map_some]
  unfold Fl.fall
  simp only
  rw [et,<- h2,eb,<- List.append_assoc]
 ·refine h.ok.sub (fun e he => ?_) ?_ (Nat.le_trans (fall_lenO k f2) h.ok.idx)
  ·rcases List.mem_append.1 he with he | he
   ·simp [he]
   ·simp [List.mem_of_mem_take he]
  ·rw [ef,List.flatten_append,List.length_append,List.length_append]; omega
 ·exact Nat.le_trans (fall_lenO k f1) h.new
 ·rw [et,ej,List.length_append,<- hl,<- Nat.add_assoc,<- List.length_append]
  exact h3
 ·rw [h.alike _ L hL,flat_take,ef]
 ·intro e he
  refine h.keys e (List.mem_append_left _ ?_)
  rw [ef] at he
  rw [List.flatten_append]
  rcases List.mem_append.1 he with he | he
  ·exact List.mem_append_left _ he
  ·refine List.mem_append_right _ ?_
   obtain ⟨l,h1,h2⟩ := List.mem_flatten.1 he
   exact List.mem_flatten.2 ⟨l,List.mem_of_mem_take h1,h2⟩
theorem l_count {blk seed bits c : Nat} {d : Dk} {all : List (List Sd)} {b0 b1 : List (List Ent)} {f1 f2 : Option Fl} {lf : Option (Nat × Nat)} {ws : List Ent} (h : LUpAt blk seed bits c d all b0 b1 f1 f2 lf ws) :
  (∃ d' lf',d.count = (true,d') /\ LUpAt blk seed bits c d' all b0 b1 f1 f2 lf' ws) \/ (∃ d',d.count = (false,d') /\ LDown blk seed bits c d' all) := by
 have hd : d.left = lf := by rw [h.eq]; rfl
 unfold Dk.count
 rw [hd]
 rcases lf with _ | ⟨n,k⟩
 ·exact .inl ⟨d,none,rfl,h⟩
 ·cases n with
  | zero => exact .inr ⟨_,rfl,l_falls h k⟩
  | succ n => exact .inl ⟨_,some (n,k),rfl,by rw [h.eq]; rfl,h.ok,h.new,h.len,h.alike,h.keys⟩
theorem l_step {blk seed bits c : Nat} {d : Dk} {all : List (List Sd)} {b0 b1 : List (List Ent)} {f1 f2 : Option Fl} {lf : Option (Nat × Nat)} {ws : List Ent} (h : LUpAt blk seed bits c d all b0 b1 f1 f2 lf ws) (s : St) (ss : List St) :
  (∃ d',d.steps (s :: ss) = (8,d') /\ LDown blk seed bits c d' all) \/ (∃ d' lf',LUpAt blk seed bits c d' all b0 b1 f1 f2 lf' ws /\ d.steps (s :: ss) = (match d'.take s with | (e,d'') => if e = 0 then d''.steps ss else (e,d''))) := by
 rcases l_count h with ⟨d',lf',e,h'⟩ | ⟨d',e,h'⟩
 ·refine .inr ⟨d',lf',h',?_⟩
  rw [Dk.steps,e]
 ·refine .inl ⟨d',?_,h'⟩
  rw [Dk.steps,e]
theorem l_write {blk seed bits c : Nat} {d : Dk} {all : List (List Sd)} {b0 b1 : List (List Ent)} {f1 f2 : Option Fl} {lf : Option (Nat × Nat)} {ws : List Ent} (h : LUpAt blk seed bits c d all b0 b1 f1 f2 lf ws) (hc : c <= 400) (hw : ws ≠ []) :
  (∃ d',d.write = (8,d') /\ LDown blk seed bits c d' all) \/ (∃ d' lf',d.write = (0,d') /\ LUpAt blk seed bits c d' all b0 (b1 ++ [ws]) f1 f2 lf' []) := by
 have hwd : d.waits = ws := by rw [h.eq]; rfl
 unfold Dk.write
 rw [hwd]
 rcases l_step h (stAppend 0 (blockB ws)) [] with ⟨d',e,h'⟩ | ⟨d',lf',h',e⟩
 ·rw [e]
  exact .inl ⟨d',rfl,h'⟩
 ·rw [e,h'.eq]
  have h1 := h.ok.text
  have h2 := h.ok.idx
  have h3 := entsB_le h.ok.hws
  have h4 := h.ok.most
  have h5 := h.new
  have hu : (ldk blk seed bits (b0 ++ b1) (headL blk seed bits ++ blocksB b0).length f1 f2 lf' ws).used = (headL blk seed bits ++ blocksB (b0 ++ b1)).length + lenF f1 + lenF f2 := rfl
  have et : (ldk blk seed bits (b0 ++ b1) (headL blk seed bits ++ blocksB b0).length f1 f2 lf' ws).take (stAppend 0 (blockB ws)) = (0,ldk blk seed bits (b0 ++ (b1 ++ [ws])) (headL blk seed bits ++ blocksB b0).length f1 f2 lf' ws) := by
   show (if (100000 : Nat) < (ldk blk seed bits (b0 ++ b1) (headL blk seed bits ++ blocksB b0).length f1 f2 lf' ws).used + (blockB ws).length then _ else ((0 : Int),(ldk blk seed bits (b0 ++ b1) (headL blk seed bits ++ blocksB b0).length f1 f2 lf' ws).put 0 (some ⟨(headL blk seed bits ++ blocksB (b0 ++ b1)) ++ blockB ws,(headL blk seed bits ++ blocksB b0).length⟩))) = _
   rw [hu,blockB_length,if_neg (by omega),List.append_assoc,<- blocksB_snoc,List.append_assoc]
   rfl
  rw [et]
  refine .inr ⟨ldk blk seed bits (b0 ++ (b1 ++ [ws])) (headL blk seed bits ++ blocksB b0).length f1 f2 lf' [],lf',rfl,rfl,?_,h.new,?_,?_,?_⟩
  ·rw [<- List.append_assoc]
   exact h.ok.wrote hw
  ·have := h.len
   simp at this ⊢
   omega
  ·intro j L hL
   have := h.alike j L hL
   simpa using this
  ·have := h.keys
   simpa using this
theorem LUpAt.last {blk seed bits c : Nat} {d : Dk} {all : List (List Sd)} {b0 b1 : List (List Ent)} {f1 f2 : Option Fl} {lf : Option (Nat × Nat)} {ws : List Ent} (h : LUpAt blk seed bits c d all b0 b1 f1 f2 lf ws) {L : List Sd} (hL : all[all.length - 1]? = some L) : L.map kv = (heldS (b0.flatten ++ (b1.flatten ++ ws))).map kv := by
 have := h.alike _ L hL
 rw [h.len,Nat.add_sub_cancel,List.take_length] at this
 exact this
theorem l_grow {all : List (List Sd)} {es0 since : List Ent} {L' : List Sd} {e : Ent} (hl : all.length = since.length + 1) (h : ∀ j L,all[j]? = some L -> L.map kv = (heldS (es0 ++ since.take j)).map kv) (hL : L'.map kv = (heldS (es0 ++ since ++ [e])).map kv) :
  ∀ j L,(all ++ [L'])[j]? = some L -> L.map kv = (heldS (es0 ++ (since ++ [e]).take j)).map kv := by
 intro j L hj
 by_cases hlt : j < all.length
 ·rw [List.getElem?_append_left hlt] at hj
  rw [h j L hj,List.take_append_of_le_length (by omega)]
 ·rw [List.getElem?_append_right (by omega)] at hj
  have : j = all.length := by
   have := (List.getElem?_eq_some_iff.1 hj).1
   simp at this
   omega
  subst this
  simp at hj
  rw [<- hj,hL,hl,List.take_of_length_le (by simp),List.append_assoc]
theorem l_add {blk seed bits c : Nat} {d : Dk} {all : List (List Sd)} {b0 b1 : List (List Ent)} {f1 f2 : Option Fl} {lf : Option (Nat × Nat)} {ws : List Ent} (h : LUpAt blk seed bits c d all b0 b1 f1 f2 lf ws) (hc : c <= 400) {e : Ent} (he : EntOk e) (hk : ∃ i,i < 60 /\ e.key = keyK i) {L' : List Sd} (hL : L'.map kv = (heldS (b0.flatten ++ (b1.flatten ++ ws) ++ [e])).map kv) :
  ((d.add e).1 = 0 /\ LUp blk seed bits (c + 1) (d.add e).2 (all ++ [L'])) \/ ((d.add e).1 = 8 /\ LDown blk seed bits c (d.add e).2 all) := by
 have hdn : d.down = false := by rw [h.eq]; rfl
 have hop : d.opn = some blk := by rw [h.eq]; rfl
 have hwd : d.waits = ws := by rw [h.eq]; rfl
 unfold Dk.add
 rw [if_neg (by have := he.1; have := he.2.1; have := he.2.2.1; omega),if_neg (by rw [hdn]; simp),hop]
 dsimp only
 by_cases hf : d.fits blk e = true
 ·rw [if_pos hf]
  unfold Dk.fits at hf
  rw [hwd] at hf
  refine .inl ⟨rfl,b0,b1,f1,f2,lf,ws ++ [e],by rw [h.eq]; rfl,⟨h.ok.hblk,h.ok.hseed,h.ok.hbits,h.ok.hbs,?_,?_,?_,?_,h.ok.idx⟩,h.new,?_,?_,?_⟩
  ·intro x hx
   rcases List.mem_append.1 hx with hx | hx
   ·exact h.ok.hws x hx
   ·rw [List.mem_singleton.1 hx]; exact he
  ·rcases Bool.or_eq_true _ _ ▸ hf with hf | hf
   ·have : ws = [] := List.isEmpty_iff.1 hf
    subst this; simp
   ·have := of_decide_eq_true (Bool.and_eq_true _ _ ▸ hf).1
    rw [List.length_append]
    simp; omega
  ·intro h1
   rcases Bool.or_eq_true _ _ ▸ hf with hf | hf
   ·have : ws = [] := List.isEmpty_iff.1 hf
    subst this; simp at h1
   ·have := of_decide_eq_true (Bool.and_eq_true _ _ ▸ hf).2
    rw [entsB_snoc,List.length_append]
    exact this
  ·have := h.ok.count
   simp at this ⊢
   omega
  ·have := h.len
   simp at this ⊢
   omega
  ·have := l_grow h.len h.alike hL
   rw [List.append_assoc] at this
   exact this
  ·intro x hx
   rw [<- List.append_assoc] at hx
   rcases List.mem_append.1 hx with hx | hx
   ·exact h.keys x hx
   ·rw [List.mem_singleton.1 hx]; exact hk
 ·rw [if_neg hf]
  have hw : ws ≠ [] := by
   rintro rfl
   unfold Dk.fits at hf
   rw [hwd] at hf
   exact hf rfl
  rcases l_write h hc hw with ⟨d',e1,h'⟩ | ⟨d',lf',e1,h'⟩
  ·rw [e1]
   exact .inr ⟨rfl,h'⟩
  ·rw [e1]
   refine .inl ⟨rfl,b0,b1 ++ [ws],f1,f2,lf',[e],?_,⟨h'.ok.hblk,h'.ok.hseed,h'.ok.hbits,h'.ok.hbs,?_,by simp,by simp,?_,h'.ok.idx⟩,h'.new,?_,?_,?_⟩
   ·show ({ d' with waits := d'.waits ++ [e] } : Dk) = _
    rw [h'.eq]
    rfl
   ·intro x hx
    rw [List.mem_singleton.1 hx]; exact he
   ·have := h'.ok.count
    simp at this ⊢
    omega
   ·have := h'.len
    simp at this ⊢
    omega
   ·have := l_grow h'.len h'.alike (L' := L') (e := e) (by simpa using hL)
    simpa using this
   ·intro x hx
    rcases List.mem_append.1 hx with hx | hx
    ·exact h'.keys x (by rw [List.append_nil]; exact hx)
    ·rw [List.mem_singleton.1 hx]; exact hk
theorem l_sync {blk seed bits c : Nat} {d : Dk} {all : List (List Sd)} {b0 b1 : List (List Ent)} {f1 f2 : Option Fl} {lf : Option (Nat × Nat)} (h : LUpAt blk seed bits c d all b0 b1 f1 f2 lf []) {L : List Sd} (hL : all[all.length - 1]? = some L) :
  ((d.steps [stSync 0]).1 = 0 /\ LUp blk seed bits c (d.steps [stSync 0]).2 [L]) \/ ((d.steps [stSync 0]).1 = 8 /\ LDown blk seed bits c (d.steps [stSync 0]).2 all) := by
 rcases l_step h (stSync 0) [] with ⟨d',e,h'⟩ | ⟨d',lf',h',e⟩
 ·rw [e]
  exact .inr ⟨rfl,h'⟩
 ·rw [e,h'.eq]
  have hla := h.last hL
  refine .inl ⟨rfl,b0 ++ b1,[],f1,f2,lf',[],?_,?_,h.new,by simp,?_,by simpa using h.keys⟩
  ·rw [List.append_nil]
   rfl
  ·rw [List.append_nil]; exact h.ok
  ·intro j L' hj
   have e0 : L' = L := by
    cases j with
    | zero => simpa using hj.symm
    | succ j => simp at hj
   rw [e0,hla]
   simp
theorem l_flush {blk seed bits c : Nat} {d : Dk} {all : List (List Sd)} (h : LUp blk seed bits c d all) (hc : c <= 400) {L : List Sd} (hL : all[all.length - 1]? = some L) :
  (d.flush.1 = 0 /\ LUp blk seed bits c d.flush.2 [L]) \/ (d.flush.1 = 8 /\ LDown blk seed bits c d.flush.2 all) := by
 obtain ⟨b0,b1,f1,f2,lf,ws,h⟩ := h
 have hdn : d.down = false := by rw [h.eq]; rfl
 have hop : d.opn = some blk := by rw [h.eq]; rfl
 have hwd : d.waits = ws := by rw [h.eq]; rfl
 unfold Dk.flush
 rw [if_neg (by rw [hdn]; simp),hop]
 dsimp only
 rw [hwd]
 by_cases hw : ws = []
 ·subst hw
  rw [if_pos (show ([] : List Ent).isEmpty = true from rfl)]
  exact l_sync h hL
 ·rw [if_neg (by rw [List.isEmpty_iff]; exact hw)]
  rcases l_write h hc hw with ⟨d',e1,h'⟩ | ⟨d',lf',e1,h'⟩
  ·rw [e1]
   exact .inr ⟨rfl,h'⟩
  ·rw [e1]
   exact l_sync h' hL
theorem l_build {blk seed bits c : Nat} {d : Dk} {all : List (List Sd)} (h : LUp blk seed bits c d all) (hc : c <= 400) :
  (d.build.1 = 0 /\ LUp blk seed bits c d.build.2 all) \/ (d.build.1 = 8 /\ LDown blk seed bits c d.build.2 all) := by
 obtain ⟨b0,b1,f1,f2,lf,ws,h⟩ := h
 obtain ⟨ix,hix,hl1,hl2⟩ := k_index h.ok (by omega)
 have hdn : d.down = false := by rw [h.eq]; rfl
 have hf0 : d.f0 = some ⟨headL blk seed bits ++ blocksB (b0 ++ b1),(headL blk seed bits ++ blocksB b0).length⟩ := by rw [h.eq]; rfl
 have h1 := h.ok.text
 have h2 := h.ok.idx
 unfold Dk.build
 rw [if_neg (by rw [hdn]; simp),hf0]
 dsimp only
 rw [hix]
 dsimp only
 rcases l_step h (stMake 1) [stAppend 1 ix,stSync 1,stRename 1 2] with ⟨d',e,h'⟩ | ⟨d',lf',h',e⟩
 ·rw [e]; exact .inr ⟨rfl,h'⟩
 rw [e,h'.eq]
 have g1 : LUpAt blk seed bits c (ldk blk seed bits (b0 ++ b1) (headL blk seed bits ++ blocksB b0).length (some ⟨[],0⟩) f2 lf' ws) all b0 b1 (some ⟨[],0⟩) f2 lf' ws := ⟨rfl,h.ok,by simp [lenF],h.len,h.alike,h.keys⟩
 show (Dk.steps (ldk blk seed bits (b0 ++ b1) (headL blk seed bits ++ blocksB b0).length (some ⟨[],0⟩) f2 lf' ws) [stAppend 1 ix,stSync 1,stRename 1 2]).1 = 0 /\ LUp blk seed bits c (Dk.steps (ldk blk seed bits (b0 ++ b1) (headL blk seed bits ++ blocksB b0).length (some ⟨[],0⟩) f2 lf' ws) [stAppend 1 ix,stSync 1,stRename 1 2]).2 all \/ (Dk.steps (ldk blk seed bits (b0 ++ b1) (headL blk seed bits ++ blocksB b0).length (some ⟨[],0⟩) f2 lf' ws) [stAppend 1 ix,stSync 1,stRename 1 2]).1 = 8 /\ LDown blk seed bits c (Dk.steps (ldk blk seed bits (b0 ++ b1) (headL blk seed bits ++ blocksB b0).length (some ⟨[],0⟩) f2 lf' ws) [stAppend 1 ix,stSync 1,stRename 1 2]).2 all
 rcases l_step g1 (stAppend 1 ix) [stSync 1,stRename 1 2] with ⟨d',e,h'⟩ | ⟨d',lf2,h',e⟩
 ·rw [e]; exact .inr ⟨rfl,h'⟩
 rw [e,h'.eq]
 have et : (ldk blk seed bits (b0 ++ b1) (headL blk seed bits ++ blocksB b0).length (some ⟨[],0⟩) f2 lf2 ws).take (stAppend 1 ix) = (0,ldk blk seed bits (b0 ++ b1) (headL blk seed bits ++ blocksB b0).length (some ⟨ix,0⟩) f2 lf2 ws) := by
  show (if (100000 : Nat) < (headL blk seed bits ++ blocksB (b0 ++ b1)).length + 0 + lenF f2 + ix.length then _ else ((0 : Int),(ldk blk seed bits (b0 ++ b1) (headL blk seed bits ++ blocksB b0).length (some ⟨[],0⟩) f2 lf2 ws).put 1 (some ⟨[] ++ ix,0⟩))) = _
  rw [if_neg (by omega)]
  rfl
 rw [et]
 have g2 : LUpAt blk seed bits c (ldk blk seed bits (b0 ++ b1) (headL blk seed bits ++ blocksB b0).length (some ⟨ix,0⟩) f2 lf2 ws) all b0 b1 (some ⟨ix,0⟩) f2 lf2 ws := ⟨rfl,h.ok,hl1,h.len,h.alike,h.keys⟩
 show (Dk.steps (ldk blk seed bits (b0 ++ b1) (headL blk seed bits ++ blocksB b0).length (some ⟨ix,0⟩) f2 lf2 ws) [stSync 1,stRename 1 2]).1 = 0 /\ LUp blk seed bits c (Dk.steps (ldk blk seed bits (b0 ++ b1) (headL blk seed bits ++ blocksB b0).length (some ⟨ix,0⟩) f2 lf2 ws) [stSync 1,stRename 1 2]).2 all \/ (Dk.steps (ldk blk seed bits (b0 ++ b1) (headL blk seed bits ++ blocksB b0).length (some ⟨ix,0⟩) f2 lf2 ws) [stSync 1,stRename 1 2]).1 = 8 /\ LDown blk seed bits c (Dk.steps (ldk blk seed bits (b0 ++ b1) (headL blk seed bits ++ blocksB b0).length (some ⟨ix,0⟩) f2 lf2 ws) [stSync 1,stRename 1 2]).2 all
 rcases l_step g2 (stSync 1) [stRename 1 2] with ⟨d',e,h'⟩ | ⟨d',lf3,h',e⟩
 ·rw [e]; exact .inr ⟨rfl,h'⟩
 rw [e,h'.eq]
 have g3 : LUpAt blk seed bits c (ldk blk seed bits (b0 ++ b1) (headL blk seed bits ++ blocksB b0).length (some ⟨ix,ix.length⟩) f2 lf3 ws) all b0 b1 (some ⟨ix,ix.length⟩) f2 lf3 ws := ⟨rfl,h.ok,hl1,h.len,h.alike,h.keys⟩
 show (Dk.steps (ldk blk seed bits (b0 ++ b1) (headL blk seed bits ++ blocksB b0).length (some ⟨ix,ix.length⟩) f2 lf3 ws) [stRename 1 2]).1 = 0 /\ LUp blk seed bits c (Dk.steps (ldk blk seed bits (b0 ++ b1) (headL blk seed bits ++ blocksB b0).length (some ⟨ix,ix.length⟩) f2 lf3 ws) [stRename 1 2]).2 all \/ (Dk.steps (ldk blk seed bits (b0 ++ b1) (headL blk seed bits ++ blocksB b0).length (some ⟨ix,ix.length⟩) f2 lf3 ws) [stRename 1 2]).1 = 8 /\ LDown blk seed bits c (Dk.steps (ldk blk seed bits (b0 ++ b1) (headL blk seed bits ++ blocksB b0).length (some ⟨ix,ix.length⟩) f2 lf3 ws) [stRename 1 2]).2 all
 rcases l_step g3 (stRename 1 2) [] with ⟨d',e,h'⟩ | ⟨d',lf4,h',e⟩
 ·rw [e]; exact .inr ⟨rfl,h'⟩
 rw [e,h'.eq]
 refine .inl ⟨rfl,b0,b1,none,some ⟨ix,ix.length⟩,lf4,ws,rfl,⟨h.ok.hblk,h.ok.hseed,h.ok.hbits,h.ok.hbs,h.ok.hws,h.ok.most,h.ok.size,h.ok.count,hl1⟩,by simp [lenF],h.len,h.alike,h.keys⟩
theorem l_fail {blk seed bits c : Nat} {d : Dk} {all : List (List Sd)} (h : LUp blk seed bits c d all) (s k : Nat) :
  (d.fail s k).1 = 0 /\ ((s = 0 /\ LDown blk seed bits c (d.fail s k).2 all) \/ (s ≠ 0 /\ LUp blk seed bits c (d.fail s k).2 all)) := by
 obtain ⟨b0,b1,f1,f2,lf,ws,h⟩ := h
 have hdn : d.down = false := by rw [h.eq]; rfl
 unfold Dk.fail
 rw [if_neg (by omega),if_neg (by rw [hdn]; simp)]
 by_cases hs : s = 0
 ·subst hs
  rw [if_pos (show ((0 : Nat) : Int) = 0 from rfl)]
  exact ⟨rfl,.inl ⟨rfl,by simpa using l_falls h k⟩⟩
 ·rw [if_neg (by omega)]
  exact ⟨rfl,.inr ⟨hs,b0,b1,f1,f2,some (s,k),ws,by rw [h.eq]; rfl,h.ok,h.new,h.len,h.alike,h.keys⟩⟩
theorem LUp.down {blk seed bits c : Nat} {d : Dk} {all : List (List Sd)} (h : LUp blk seed bits c d all) : d.down = false := by
 obtain ⟨b0,b1,f1,f2,lf,ws,h⟩ := h
 rw [h.eq]; rfl
theorem LDown.down {blk seed bits c : Nat} {d : Dk} {all : List (List Sd)} (h : LDown blk seed bits c d all) : d.down = true := by
 obtain ⟨bs,rest,sy,f1,f2,h⟩ := h
 rw [h.eq]
def keepIx (log : List UInt8) (f2 : Option Fl) : Option Fl := match f2 with
 | none => none
 | some g => if saidE log g.text = 0 then some g else none
theorem mend_steps (T log : List UInt8) (sy : Nat) (f1 f2 : Option Fl) :
  (⟨100000,false,some ⟨T,sy⟩,f1,f2,none,none,[]⟩ : Dk).steps (stSync 0 :: (match f2 with | none => [] | some g => if saidE log g.text = 0 then [] else [stRemove 2])) = (0,⟨100000,false,some ⟨T,T.length⟩,f1,keepIx log f2,none,none,[]⟩) := by
 cases f2 with
 | none => rfl
 | some g =>
  unfold keepIx
  dsimp only
  by_cases h : saidE log g.text = 0
  ·rw [if_pos h,if_pos h]; rfl
  ·rw [if_neg h,if_neg h]; rfl
theorem mend_all (log rest : List UInt8) (n sy : Nat) (f1 f2 : Option Fl) (hn : log.length = n) :
  (⟨100000,false,some ⟨log ++ rest,sy⟩,f1,f2,none,none,[]⟩ : Dk).steps ((if n < n + rest.length then [stCut 0 n] else []) ++ [stSync 0] ++ (match f2 with | none => [] | some g => if saidE log g.text = 0 then [] else [stRemove 2])) = (0,⟨100000,false,some ⟨log,log.length⟩,f1,keepIx log f2,none,none,[]⟩) := by
 by_cases h0 : rest = []
 ·subst h0
  rw [if_neg (by simp),List.append_nil,List.nil_append,List.singleton_append]
  exact mend_steps _ _ _ _ _
 ·have hr0 : 0 < rest.length := List.length_pos_iff.2 h0
  rw [if_pos (by omega),List.singleton_append,List.cons_append,List.singleton_append]
  rw [<- mend_steps log log (min sy (min n (log ++ rest).length)) f1 f2]
  show Dk.steps ⟨100000,false,some ⟨(log ++ rest).take n,min sy (min n (log ++ rest).length)⟩,f1,f2,none,none,[]⟩ _ = _
  rw [List.take_left' hn]
theorem l_mend {blk seed bits c : Nat} {d : Dk} {all : List (List Sd)} (h : LDown blk seed bits c d all) :
  d.start.1 = 0 /\ ∃ bs f1 f2,d.start.2.mend = (0,ldk blk seed bits bs (headL blk seed bits ++ blocksB bs).length f1 f2 none []) /\ KOk blk seed bits bs f2 [] c /\ lenF f1 <= 26000 /\ (∃ L ∈ all,L.map kv = (heldS bs.flatten).map kv) /\ (∀ g,f2 = some g -> indexS (headL blk seed bits ++ blocksB bs) = some g.text) /\ KeysOk bs.flatten := by
 obtain ⟨bs,rest,sy,f1,f2,h⟩ := h
 have hl := headL_length blk seed bits
 have hb := head_back h.ok.hblk.1 h.ok.hblk.2 h.ok.hseed h.ok.hbits (blocksB bs ++ rest)
 have hr := read_back bs h.ok.hbs (headL blk seed bits) rest (by omega) (by rw [hl]; exact h.stop)
 have hs : d.start = (0,⟨100000,false,some ⟨headL blk seed bits ++ (blocksB bs ++ rest),sy⟩,f1,f2,none,none,[]⟩) := by
  rw [h.eq]; rfl
 rw [hs]
 refine ⟨rfl,bs,f1,keepIx (headL blk seed bits ++ blocksB bs) f2,?_,?_,h.new,h.said,?_,h.keys⟩
 ·have htk : (headL blk seed bits ++ (blocksB bs ++ rest)).take (14 + (blocksB bs).length) = headL blk seed bits ++ blocksB bs := by
   rw [<- List.append_assoc,List.take_left']
   rw [List.length_append,hl]
  have hlen : (headL blk seed bits ++ (blocksB bs ++ rest)).length = 14 + (blocksB bs).length + rest.length := by simp [hl]; omega
  unfold Dk.mend
  rw [if_neg (by simp)]
  dsimp only
  rw [if_neg (by rw [hb.1]; simp)]
  unfold Dk.mending
  rw [hl] at hr
  rw [hb.2.1,hr]
  dsimp only
  rw [htk,hlen]
  unfold Dk.opening
  have hst := mend_all (headL blk seed bits ++ blocksB bs) rest (14 + (blocksB bs).length) sy f1 f2 (by rw [List.length_append,hl])
  rw [List.append_assoc] at hst
  exact congrArg (fun p : Int × Dk => match p with | (e,d') => if e = 0 then ((0 : Int),d'.opens blk) else (e,d')) hst
 ·refine ⟨h.ok.hblk,h.ok.hseed,h.ok.hbits,h.ok.hbs,by simp,by simp,by simp,h.ok.count,?_⟩
  have := h.ok.idx
  unfold keepIx
  cases f2 with
  | none => simp [lenF]
  | some g =>
   dsimp only
   split
   ·exact this
   ·simp [lenF]
 ·intro g hg
  unfold keepIx at hg
  cases f2 with
  | none => simp at hg
  | some g' =>
   dsimp only at hg
   split at hg
   ·rename_i h0
    injection hg with hg
    subst hg
    exact (said_zero _ _).1 h0
   ·simp at hg
def plE : Nat -> List Ent -> List Sd
 | _,[] => []
 | a,e :: es => ⟨e.put,e.key,e.val,a,0⟩ :: plE (a + (entB e).length) es
def plB : Nat -> List (List Ent) -> List Sd
 | _,[] => []
 | a,es :: bs => plE (a + 3) es ++ plB (a + (blockB es).length) bs
theorem plE_pkv (a : Nat) (es : List Ent) : (plE a es).map pkv = (es.map entS).map pkv := by
 induction es generalizing a with
 | nil => rfl
 | cons e es ih => simp only [plE,List.map_cons,ih]; rfl
theorem plB_pkv (a : Nat) (bs : List (List Ent)) : (plB a bs).map pkv = (bs.flatten.map entS).map pkv := by
 induction bs generalizing a with
 | nil => rfl
 | cons es bs ih => rw [plB,List.map_append,plE_pkv,ih,List.flatten_cons,List.map_append,List.map_append]
theorem pl_alike (bs : List (List Ent)) : (liveL (plB 14 bs)).map kv = (heldS bs.flatten).map kv := live_alike _ _ (plB_pkv 14 bs)
theorem plE_range (a : Nat) (es : List Ent) : (∀ x ∈ plE a es,a <= x.blk /\ x.blk < a + (entsB es).length) /\ (plE a es).Pairwise (fun x y => x.blk < y.blk) := by
 induction es generalizing a with
 | nil => simp [plE]
 | cons e es ih =>
  obtain ⟨h1,h2⟩ := ih (a + (entB e).length)
  have hl := entB_length e
  have hs : (entsB (e :: es)).length = (entB e).length + (entsB es).length := by simp [entsB]
  refine ⟨fun x hx => ?_,?_⟩
  ·rw [plE] at hx
   rcases List.mem_cons.1 hx with rfl | hx
   ·dsimp only; omega
   ·have := h1 x hx
    omega
  ·rw [plE,List.pairwise_cons]
   refine ⟨fun x hx => ?_,h2⟩
   have := h1 x hx
   dsimp only
   omega
theorem plB_range (a : Nat) (bs : List (List Ent)) : (∀ x ∈ plB a bs,a <= x.blk /\ x.blk < a + (blocksB bs).length) /\ (plB a bs).Pairwise (fun x y => x.blk < y.blk) := by
 induction bs generalizing a with
 | nil => simp [plB]
 | cons es bs ih =>
  obtain ⟨h1,h2⟩ := ih (a + (blockB es).length)
  obtain ⟨g1,g2⟩ := plE_range (a + 3) es
  have hl := blockB_length es
  have hs : (blocksB (es :: bs)).length = (blockB es).length + (blocksB bs).length := by rw [blocksB_cons,List.length_append]
  refine ⟨fun x hx => ?_,?_⟩
  ·rw [plB] at hx
   rcases List.mem_append.1 hx with hx | hx
   ·have := g1 x hx
    omega
   ·have := h1 x hx
    omega
  ·rw [plB,List.pairwise_append]
   refine ⟨g2,h2,fun x hx y hy => ?_⟩
   have := g1 x hx
   have := h1 y hy
   omega
def lastF (k : List UInt8) (b : Int) (l : List Sd) : Int := l.foldl (fun b x => if x.put = true /\ x.key = k then (x.blk : Int) else b) b
def lastL (k : List UInt8) (l : List Sd) : Int := lastF k (-1) l
theorem lastF_none {k : List UInt8} {l : List Sd} (h : ∀ x ∈ l,x.key ≠ k) (b : Int) : lastF k b l = b := by
 induction l generalizing b with
 | nil => rfl
 | cons y l ih =>
  show lastF k (if y.put = true /\ y.key = k then (y.blk : Int) else b) l = b
  rw [if_neg (fun h' => h y (by simp) h'.2)]
  exact ih (fun x hx => h x (by simp [hx])) b
theorem last_live {l : List Sd} {x : Sd} (hx : x ∈ liveL l) (b : Int) : lastF x.key b l = (x.blk : Int) := by
 induction l generalizing b with
 | nil => simp [liveL] at hx
 | cons y l ih =>
  show lastF x.key (if y.put = true /\ y.key = x.key then (y.blk : Int) else b) l = _
  rw [liveL] at hx
  split at hx
  ·rename_i hc
   rcases List.mem_cons.1 hx with e | hx
   ·subst e
    rw [if_pos ⟨hc.1,rfl⟩]
    exact lastF_none hc.2 _
   ·exact ih hx _
  ·exact ih hx _
structure Tl where
 key : List UInt8
 val : List UInt8
 at' : Int
def tlOf (x : Sd) : Tl := ⟨x.key,x.val,x.blk⟩
def toldL (l : List Sd) : Nat -> List Tl
 | 0 => []
 | n + 1 => toldL l n ++ (match findKv (keyK n) (liveL l) with | none => [] | some v => [⟨keyK n,v,lastL (keyK n) l⟩])
theorem told_mem {l : List Sd} {n : Nat} {t : Tl} (ht : t ∈ toldL l n) : (∃ i,i < n /\ t.key = keyK i) /\ ∃ x ∈ liveL l,t = tlOf x := by
 induction n with
 | zero => simp [toldL] at ht
 | succ n ih =>
  rw [toldL] at ht
  rcases List.mem_append.1 ht with ht | ht
  ·obtain ⟨⟨i,h1,h2⟩,h3⟩ := ih ht
   exact ⟨⟨i,by omega,h2⟩,h3⟩
  ·cases hf : findKv (keyK n) (liveL l) with
   | none => rw [hf] at ht; simp at ht
   | some v =>
    rw [hf] at ht
    simp only [List.mem_singleton] at ht
    have hex : ∃ x ∈ liveL l,x.key = keyK n := by
     refine Classical.byContradiction fun hn => ?_
     rw [find_no (fun x hx e => hn ⟨x,hx,e⟩)] at hf
     cases hf
    obtain ⟨x,hx,hk⟩ := hex
    have hv := find_mem (liveL_keys l) hx hk
    rw [hf] at hv
    injection hv with hv
    refine ⟨⟨n,by omega,by rw [ht]⟩,x,hx,?_⟩
    rw [ht,hv]
    unfold tlOf lastL
    rw [<- hk,last_live hx]
theorem keyK_inj {i j : Nat} (hi : i < 60) (hj : j < 60) (h : keyK i = keyK j) : i = j := by
 have : ∀ i,i < 60 -> ∀ j,j < 60 -> keyK i = keyK j -> i = j := by decide
 exact this i hi j hj h
theorem told_keys (l : List Sd) {n : Nat} (hn : n <= 60) : (toldL l n).Pairwise (fun s t => s.key ≠ t.key) := by
 induction n with
 | zero => exact List.Pairwise.nil
 | succ n ih =>
  rw [toldL,List.pairwise_append]
  refine ⟨ih (by omega),?_,?_⟩
  ·split
   ·exact List.Pairwise.nil
   ·exact List.pairwise_singleton _ _
  ·intro s hs t ht
   obtain ⟨⟨i,h1,h2⟩,_⟩ := told_mem hs
   have e : t.key = keyK n := by
    split at ht
    ·simp at ht
    ·rw [List.mem_singleton.1 ht]
   rw [h2,e]
   intro h
   have := keyK_inj (by omega) (by omega) h
   omega
theorem told_has {l : List Sd} {n : Nat} {x : Sd} (hx : x ∈ liveL l) {i : Nat} (hi : i < n) (hk : x.key = keyK i) : tlOf x ∈ toldL l n := by
 induction n with
 | zero => omega
 | succ n ih =>
  rw [toldL,List.mem_append]
  by_cases e : i = n
  ·subst e
   right
   rw [find_mem (liveL_keys l) hx hk]
   simp only [List.mem_singleton]
   unfold tlOf lastL
   rw [<- hk,last_live hx]
  ·exact .inl (ih (by omega))
theorem told_perm {bs : List (List Ent)} (hk : KeysOk bs.flatten) : List.Perm (toldL (plB 14 bs) 60) ((liveL (plB 14 bs)).map tlOf) := by
 have hn1 : (toldL (plB 14 bs) 60).Nodup := (told_keys _ (Nat.le_refl 60)).imp (fun h e => h (by rw [e]))
 have hn2 : ((liveL (plB 14 bs)).map tlOf).Nodup := by
  unfold List.Nodup
  rw [List.pairwise_map]
  refine (liveL_keys (plB 14 bs)).imp (fun {a b} h e => h ?_)
  exact congrArg Tl.key e
 rw [List.perm_ext_iff_of_nodup hn1 hn2]
 intro t
 constructor
 ·intro ht
  obtain ⟨_,x,hx,e⟩ := told_mem ht
  exact List.mem_map.2 ⟨x,hx,e.symm⟩
 ·intro ht
  obtain ⟨x,hx,e⟩ := List.mem_map.1 ht
  have hm : x.key ∈ (plB 14 bs).map (·.key) := List.mem_map.2 ⟨x,(liveL_mem hx).1,rfl⟩
  have e2 : (plB 14 bs).map (·.key) = bs.flatten.map (·.key) := by
   have := congrArg (List.map (fun q : Bool × List UInt8 × List UInt8 => q.2.1)) (plB_pkv 14 bs)
   simpa [List.map_map,Function.comp_def,pkv,entS] using this
  rw [e2] at hm
  obtain ⟨en,h1,h2⟩ := List.mem_map.1 hm
  obtain ⟨i,hi,hki⟩ := hk en h1
  rw [<- e]
  exact told_has hx hi (by rw [<- h2,hki])
theorem live_sorted (bs : List (List Ent)) : ((liveL (plB 14 bs)).map tlOf).Pairwise (fun s t => s.at' < t.at') := by
 rw [List.pairwise_map]
 refine ((plB_range 14 bs).2.sublist (liveL_sub _)).imp (fun {a b} h => ?_)
 show (a.blk : Int) < (b.blk : Int)
 omega
theorem told_held {bs : List (List Ent)} (hk : KeysOk bs.flatten) {Z : List Tl} (hp : List.Perm Z (toldL (plB 14 bs) 60)) (hs : Z.Pairwise (fun s t => s.at' <= t.at')) : Z.map (fun t => (t.key,t.val)) = (heldS bs.flatten).map kv := by
 have h1 := hp.trans (told_perm hk)
 have h2 := live_sorted bs
 have hnd : ∀ a ∈ Z,∀ b ∈ Z,a.at' <= b.at' -> b.at' <= a.at' -> a = b := by
  intro a ha b hb h3 h4
  have ha' := h1.mem_iff.1 ha
  have hb' := h1.mem_iff.1 hb
  obtain ⟨i,hi,ei⟩ := List.getElem_of_mem ha'
  obtain ⟨j,hj,ej⟩ := List.getElem_of_mem hb'
  rw [List.pairwise_iff_getElem] at h2
  by_cases hij : i = j
  ·subst hij; rw [<- ei,<- ej]
  ·rcases Nat.lt_or_gt_of_ne hij with h | h
   ·have := h2 i j hi hj h; rw [ei,ej] at this; omega
   ·have := h2 j i hj hi h; rw [ei,ej] at this; omega
 have e : Z = (liveL (plB 14 bs)).map tlOf := by
  refine List.Perm.eq_of_pairwise (le := fun s t => s.at' <= t.at') (fun a b ha hb => hnd a ha b (h1.mem_iff.2 hb)) hs (h2.imp (fun h => by omega)) h1
 rw [e,List.map_map,<- pl_alike]
 rfl
def tl0 : Tl := ⟨[],[],0⟩
def swapT (Z : List Tl) (i k : Nat) : List Tl := (Z.set i (Z.getD k tl0)).set k (Z.getD i tl0)
theorem swapT_length (Z : List Tl) (i k : Nat) : (swapT Z i k).length = Z.length := by simp [swapT]
theorem getD_set {Z : List Tl} {i b : Nat} (x : Tl) (hi : i < Z.length) : (Z.set i x).getD b tl0 = if b = i then x else Z.getD b tl0 := by
 rw [List.getD_eq_getElem?_getD,List.getD_eq_getElem?_getD,List.getElem?_set]
 by_cases h : i = b
 ·subst h; simp [hi]
 ·rw [if_neg h,if_neg (fun e => h e.symm)]
theorem swapT_get {Z : List Tl} {i k b : Nat} (hi : i < Z.length) (hk : k < Z.length) : (swapT Z i k).getD b tl0 = if b = k then Z.getD i tl0 else if b = i then Z.getD k tl0 else Z.getD b tl0 := by
 unfold swapT
 rw [getD_set _ (by simp; exact hk),getD_set _ hi]
theorem swapT_perm {Z : List Tl} {i k : Nat} (hi : i < Z.length) (hk : k < Z.length) : List.Perm (swapT Z i k) Z := by
 have h := Array.swap_perm (xs := Z.toArray) (i := i) (j := k) (by simpa using hi) (by simpa using hk)
 have e : (Z.toArray.swap i k (by simpa using hi) (by simpa using hk)).toList = swapT Z i k := by
  unfold swapT
  simp [Array.swap,List.getD_eq_getElem?_getD,hi,hk]
 have h2 := h.toList
 rw [e] at h2
 simpa using h2
def OrdTo (Z : List Tl) (i : Nat) : Prop := ∀ a b,a < i -> a < b -> b < Z.length -> (Z.getD a tl0).at' <= (Z.getD b tl0).at'
def OrdIn (Z : List Tl) (i k : Nat) : Prop := OrdTo Z i /\ ∀ b,i < b -> b < k -> b < Z.length -> (Z.getD i tl0).at' <= (Z.getD b tl0).at'
theorem OrdTo.begin' (Z : List Tl) : OrdTo Z 0 := fun a b h => by omega
theorem OrdIn.begin' {Z : List Tl} {i : Nat} (h : OrdTo Z i) : OrdIn Z i (i + 1) := ⟨h,fun b h1 h2 => by omega⟩
theorem OrdIn.keep {Z : List Tl} {i k : Nat} (h : OrdIn Z i k) (hk : ¬ (Z.getD k tl0).at' < (Z.getD i tl0).at') : OrdIn Z i (k + 1) := ⟨h.1,fun b h1 h2 h3 => by
 by_cases e : b = k
 ·subst e; omega
 ·exact h.2 b h1 (by omega) h3⟩
theorem OrdIn.swap {Z : List Tl} {i k : Nat} (h : OrdIn Z i k) (hik : i < k) (hkl : k < Z.length) (hk : (Z.getD k tl0).at' < (Z.getD i tl0).at') : OrdIn (swapT Z i k) i (k + 1) := by
 refine ⟨fun a b h1 h2 h3 => ?_,fun b h1 h2 h3 => ?_⟩
 ·rw [swapT_length] at h3
  rw [swapT_get (by omega) hkl,swapT_get (by omega) hkl,if_neg (by omega),if_neg (by omega)]
  split
  ·exact h.1 a i h1 (by omega) (by omega)
  ·split
   ·exact h.1 a k h1 (by omega) hkl
   ·exact h.1 a b h1 h2 h3
 ·rw [swapT_length] at h3
  rw [swapT_get (by omega) hkl,swapT_get (by omega) hkl,if_neg (by omega),if_pos rfl]
  split
  ·omega
  ·rw [if_neg (by omega)]
   have := h.2 b h1 (by omega) h3
   omega
theorem OrdIn.done {Z : List Tl} {i k : Nat} (h : OrdIn Z i k) (hk : Z.length <= k) : OrdTo Z (i + 1) := fun a b h1 h2 h3 => by
 by_cases e : a = i
 ·subst e; exact h.2 b h2 (by omega) h3
 ·exact h.1 a b (by omega) h2 h3
theorem OrdTo.done {Z : List Tl} {i : Nat} (h : OrdTo Z i) (hi : Z.length <= i) : Z.Pairwise (fun s t => s.at' <= t.at') := by
 rw [List.pairwise_iff_getElem]
 intro a b ha hb hab
 have := h a b (by omega) hab hb
 rw [List.getD_eq_getElem?_getD,List.getD_eq_getElem?_getD,List.getElem?_eq_getElem ha,List.getElem?_eq_getElem hb] at this
 exact this
def ansV (a : Ans) : Value := .tuple #[.string (S a.val),.int .i64 a.num,.int .i64 a.err]
theorem begins_zero {log ix : List UInt8} (h : beginsE log ix = 0) : ix.length = 20 + 10 * ixN ix + 4 /\ ixN ix ≠ 0 /\ headB log = true := by
 unfold beginsE at h
 by_cases h1 : ix.length < 20 \/ sealedB (ix.take 20) = false \/ (ix.take 2 == [73,88]) = false \/ ixN ix = 0 \/ ix.length ≠ 20 + 10 * ixN ix + 4
 ·rw [if_pos h1] at h; exact absurd h (by decide)
 ·rw [if_neg h1] at h
  by_cases h2 : ixSize ix ≠ log.length \/ (ixSum ix : Int) ≠ sumI log
  ·rw [if_pos h2] at h; exact absurd h (by decide)
  ·rw [if_neg h2] at h
   by_cases h3 : headB log = false
   ·rw [if_pos h3] at h; exact absurd h (by decide)
   ·simp only [not_or] at h1
    exact ⟨by omega,h1.2.2.2.1,by simpa using h3⟩
theorem head_well {l : List UInt8} (h : headB l = true) : (1 <= (hdBlk l : Int) /\ (hdBlk l : Int) <= 400) /\ (hdSeed l : Int) <= 4294967295 /\ (hdBits l : Int) <= 32 := by
 simp only [headB,wellB,Bool.and_eq_true,decide_eq_true_eq] at h
 omega
theorem isConfig_any (blk seed bits : Int) (w : World) :
  Calls Tryz.prog 68 #[.agg #[.int .i64 blk,.int .i64 seed,.int .i64 bits]] w fun e w' => e = .returned (.bool (wellB blk seed bits)) /\ Below w.heap.size w w' := by
 rcases (show blk < 1 \/ (1 <= blk /\ 400 < blk) \/ ((1 <= blk /\ blk <= 400) /\ seedB seed = false) \/ ((1 <= blk /\ blk <= 400) /\ seedB seed = true) from by cases seedB seed <;> simp <;> omega) with h1 | ⟨h1,h2⟩ | ⟨⟨h1,h2⟩,h3⟩ | ⟨⟨h1,h2⟩,h3⟩
 all_goals
  go_enter Tryz.func68,Tryz.ntmps68
  go_wp2_with (first | (go_at_call 126; refine (isSeed_any _ _).mono ?_; rintro e w' ⟨rfl,rfl⟩) | (go_at_call 127; refine (isBits_any _ _).mono ?_; rintro e w' ⟨rfl,rfl⟩))
  go_ret
  refine ⟨ret_bool ?_,(Below.refl _ _).alloc (Nat.le_refl _) _⟩
 ·rw [Bool.eq_iff_iff]; unfold wellB; simp; omega
 ·rw [Bool.eq_iff_iff]; unfold wellB; simp; omega
 ·rw [Bool.eq_iff_iff]; unfold wellB; simp [seedB] at h3 ⊢; omega
 ·rw [Bool.eq_iff_iff]; unfold wellB bitsB; simp [seedB] at h3 ⊢; omega
theorem readHead_no (s : ByteArray) (w : World) (hs : s.size <= 140737488351232) (hH : HalvesAt w) (h : s.size < 14 \/ (14 <= s.size /\ (s.data.toList.take 2 == [76,71]) = false) \/ (14 <= s.size /\ (s.data.toList.take 2 == [76,71]) = true /\ sealedB (s.data.toList.take 14) = false)) :
  Calls Tryz.prog 87 #[.string s] w fun e w' => e = .returned (.tuple #[.agg #[.int .i64 0,.int .i64 0,.int .i64 0],.bool false]) /\ Below w.heap.size w w' := by
 have E2 : Hid ((s.extract 0 2).toList = s.data.toList.take 2) := by show _ = _; rw [ByteArray.toList_eq,cut_list,List.drop_zero]
 have E14 : Hid ((s.extract 0 14).data.toList = s.data.toList.take 14) := by show _ = _; rw [cut_list,List.drop_zero]
 have HH : Hid (HalvesAt w) := hH
 clear hH
 rcases h with h1 | ⟨h1,h2⟩ | ⟨h1,h2,h3⟩
 ·go_enter Tryz.func87,Tryz.ntmps87
  go_wp2
  exact bodyPost_ret (v := .tuple #[.agg #[.int .i64 0,.int .i64 0,.int .i64 0],.bool false]) (by simp [results,Tryz.results87,go_sem]) rfl ⟨rfl,(Below.refl _ _).alloc (Nat.le_refl _) _⟩
 ·have t1 : ((s.extract 0 2).toList == [76,71]) = false := by rw [E2.out]; exact h2
  have t2 : ((s.extract 0 2).toList != [76,71]) = true := by rw [bne,t1]; rfl
  clear h2
  go_enter Tryz.func87,Tryz.ntmps87
  go_wp2
  exact bodyPost_ret (v := .tuple #[.agg #[.int .i64 0,.int .i64 0,.int .i64 0],.bool false]) (by simp [results,Tryz.results87,go_sem]) rfl ⟨rfl,(Below.refl _ _).alloc (Nat.le_refl _) _⟩
 ·have t1 : ((s.extract 0 2).toList == [76,71]) = true := by rw [E2.out]; exact h2
  have t2 : ((s.extract 0 2).toList != [76,71]) = false := by rw [bne,t1]; rfl
  have H3 : Hid (sealedB (s.data.toList.take 14) = false) := h3
  clear h2 h3
  go_enter Tryz.func87,Tryz.ntmps87
  go_wp2_with fail
  refine (holds_any _ _ ?_ ?_).mono ?_
  ·simp; omega
  ·exact HH.out.below ((Below.refl w.heap.size w).alloc (Nat.le_refl _) _) HH.out.1
  rintro e w1 ⟨rfl,hb1⟩
  rw [E14.out,H3.out]
  have hz1 : w.heap.size < w1.heap.size := by have := hb1.size; simp at this; omega
  have r0 : w1.cell? ⟨w.heap.size,0,none⟩ = some (.int .i64 0) := by rw [hb1.cell (p := ⟨w.heap.size,0,none⟩) (by simp)]; simp
  have r1 : w1.cell? ⟨w.heap.size,1,none⟩ = some (.int .i64 0) := by rw [hb1.cell (p := ⟨w.heap.size,1,none⟩) (by simp)]; simp
  have r2 : w1.cell? ⟨w.heap.size,2,none⟩ = some (.int .i64 0) := by rw [hb1.cell (p := ⟨w.heap.size,2,none⟩) (by simp)]; simp
  have f0 : w1.frozen? ⟨w.heap.size,0,none⟩ = false := by rw [hb1.frozen (p := ⟨w.heap.size,0,none⟩) (by simp)]; simp
  have f1 : w1.frozen? ⟨w.heap.size,1,none⟩ = false := by rw [hb1.frozen (p := ⟨w.heap.size,1,none⟩) (by simp)]; simp
  have f2 : w1.frozen? ⟨w.heap.size,2,none⟩ = false := by rw [hb1.frozen (p := ⟨w.heap.size,2,none⟩) (by simp)]; simp
  have hB : Below w.heap.size w w1 := ((Below.refl _ _).alloc (Nat.le_refl _) _).trans (hb1.mono (by simp))
  go_wp2
  exact bodyPost_ret (v := .tuple #[.agg #[.int .i64 0,.int .i64 0,.int .i64 0],.bool false]) (by simp [results,Tryz.results87,go_sem,r0,r1,r2]) rfl ⟨rfl,((hB.setCell (Nat.le_refl _) _).setCell (Nat.le_refl _) _).setCell (Nat.le_refl _) _⟩
theorem readHead_go (s : ByteArray) (w : World) (hs : s.size <= 140737488351232) (hH : HalvesAt w) (h1 : 14 <= s.size) (h2 : (s.data.toList.take 2 == [76,71]) = true) (h3 : sealedB (s.data.toList.take 14) = true) (b : Bool) (hwell : wellB (hdBlk s.data.toList) (hdSeed s.data.toList) (hdBits s.data.toList) = b) :
  Calls Tryz.prog 87 #[.string s] w fun e w' => e = .returned (.tuple #[if b then .agg #[.int .i64 (hdBlk s.data.toList),.int .i64 (hdSeed s.data.toList),.int .i64 (hdBits s.data.toList)] else .agg #[.int .i64 0,.int .i64 0,.int .i64 0],.bool b]) /\ Below w.heap.size w w' := by
 have E2 : Hid ((s.extract 0 2).toList = s.data.toList.take 2) := by show _ = _; rw [ByteArray.toList_eq,cut_list,List.drop_zero]
 have E14 : Hid ((s.extract 0 14).data.toList = s.data.toList.take 14) := by show _ = _; rw [cut_list,List.drop_zero]
 have HH : Hid (HalvesAt w) := hH
 have t1 : ((s.extract 0 2).toList == [76,71]) = true := by rw [E2.out]; exact h2
 have t2 : ((s.extract 0 2).toList != [76,71]) = false := by rw [bne,t1]; rfl
 have H3 : Hid (sealedB (s.data.toList.take 14) = true) := h3
 have HW : Hid (wellB (hdBlk s.data.toList) (hdSeed s.data.toList) (hdBits s.data.toList) = b) := hwell
 clear hH h2 h3 hwell
 go_enter Tryz.func87,Tryz.ntmps87
 go_wp2_with fail
 refine (holds_any _ _ ?_ ?_).mono ?_
 ·simp; omega
 ·exact HH.out.below ((Below.refl w.heap.size w).alloc (Nat.le_refl _) _) HH.out.1
 rintro e w1 ⟨rfl,hb1⟩
 rw [E14.out,H3.out]
 have hz1 : w.heap.size < w1.heap.size := by have := hb1.size; simp at this; omega
 have HB1 : Hid (Below w.heap.size w w1) := ((Below.refl _ _).alloc (Nat.le_refl _) _).trans (hb1.mono (by simp))
 have HR : Hid ((w1.cell? ⟨w.heap.size,0,none⟩ = some (.int .i64 0) /\ w1.cell? ⟨w.heap.size,1,none⟩ = some (.int .i64 0) /\ w1.cell? ⟨w.heap.size,2,none⟩ = some (.int .i64 0)) /\ ∀ i,w1.frozen? ⟨w.heap.size,i,none⟩ = false) := by
  refine ⟨⟨?_,?_,?_⟩,fun i => ?_⟩
  ·rw [hb1.cell (p := ⟨w.heap.size,0,none⟩) (by simp)]; simp
  ·rw [hb1.cell (p := ⟨w.heap.size,1,none⟩) (by simp)]; simp
  ·rw [hb1.cell (p := ⟨w.heap.size,2,none⟩) (by simp)]; simp
  ·rw [hb1.frozen (p := ⟨w.heap.size,i,none⟩) (by simp)]; simp
 have E1 : Hid ((s.extract 2 4).data.toList = (s.data.toList.drop 2).take 2) := cut_list s 2 4
 have E4 : Hid ((s.extract 4 8).data.toList = (s.data.toList.drop 4).take 4) := cut_list s 4 8
 have E8 : Hid ((s.extract 8 10).data.toList = (s.data.toList.drop 8).take 2) := cut_list s 8 10
 have z1 : (s.extract 2 4).size = 2 := by simp; omega
 have z2 : (s.extract 4 8).size = 4 := by simp; omega
 have z3 : (s.extract 8 10).size = 2 := by simp; omega
 have i1 : (4 : Int) <= (s.size : Int) := by omega
 have i2 : (8 : Int) <= (s.size : Int) := by omega
 have i3 : (10 : Int) <= (s.size : Int) := by omega
 clear hb1 t1 t2 E2 E14 H3 HH
 go_wp2_with fail
 go_cut [4] (fun c wx => c = .pointer (some ⟨w1.heap.size,0,none⟩) /\ wx.cell? ⟨w1.heap.size,0,none⟩ = some (.int .i64 (hdBlk s.data.toList)) /\ wx.cell? ⟨w1.heap.size,1,none⟩ = some (.int .i64 (hdSeed s.data.toList)) /\ wx.cell? ⟨w1.heap.size,2,none⟩ = some (.int .i64 (hdBits s.data.toList)) /\ Below w1.heap.size w1 wx /\ w1.heap.size < wx.heap.size)
 case first =>
  go_region_held3 (fun w' => w1.heap.size <= w'.heap.size) (first | (simp) | (simp; omega)) (first | (go_at_call_of 145 (Value.string (s.extract 2 4)); refine (lowRead_any _ _ (by omega)).mono ?_; rintro e w' ⟨rfl,rfl⟩) | (go_at_call_of 145 (Value.string (s.extract 4 8)); refine (lowRead_any _ _ (by omega)).mono ?_; rintro e w' ⟨rfl,rfl⟩) | (go_at_call_of 145 (Value.string (s.extract 8 10)); refine (lowRead_any _ _ (by omega)).mono ?_; rintro e w' ⟨rfl,rfl⟩))
  all_goals
   go_wp2_with fail
   go_meet
   refine ⟨rfl,?_,?_,?_,?_,?_⟩
   ·rw [hdBlk,<- E1.out]; simp
   ·rw [hdSeed,<- E4.out]; simp
   ·rw [hdBits,<- E8.out]; simp
   ·first | exact ((Below.refl _ _).alloc (Nat.le_refl _) _).drew | exact (((Below.refl _ _).alloc (Nat.le_refl _) _).setCell (by simp) _).drew
   ·simp
 case rest =>
  obtain ⟨rfl,c0,c1,c2,hb2,hz2⟩ := hcut
  clear z1 z2 z3 i1 i2 i3 E1 E4 E8
  go_wp2_with fail
  refine (isConfig_any _ _ _ _).mono ?_
  rintro e w2 ⟨rfl,hb3⟩
  rw [HW.out]
  have d0 := (hb3.cell (p := ⟨w1.heap.size,0,none⟩) hz2).trans c0
  have d1 := (hb3.cell (p := ⟨w1.heap.size,1,none⟩) hz2).trans c1
  have d2 := (hb3.cell (p := ⟨w1.heap.size,2,none⟩) hz2).trans c2
  obtain ⟨⟨r0,r1,r2⟩,rf⟩ := HR.out
  have hbx : Below w1.heap.size w1 w2 := hb2.trans (hb3.mono (Nat.le_of_lt hz2))
  replace r0 := (hbx.cell (p := ⟨w.heap.size,0,none⟩) hz1).trans r0
  replace r1 := (hbx.cell (p := ⟨w.heap.size,1,none⟩) hz1).trans r1
  replace r2 := (hbx.cell (p := ⟨w.heap.size,2,none⟩) hz1).trans r2
  have f0 : w2.frozen? ⟨w.heap.size,0,none⟩ = false := (hbx.frozen (p := ⟨w.heap.size,0,none⟩) hz1).trans (rf 0)
  have f1 : w2.frozen? ⟨w.heap.size,1,none⟩ = false := (hbx.frozen (p := ⟨w.heap.size,1,none⟩) hz1).trans (rf 1)
  have f2 : w2.frozen? ⟨w.heap.size,2,none⟩ = false := (hbx.frozen (p := ⟨w.heap.size,2,none⟩) hz1).trans (rf 2)
  have HW2 : Hid (Below w.heap.size w w2) := HB1.out.trans (hbx.mono (Nat.le_of_lt hz1))
  clear rf c0 c1 c2 HR hb3 hb2 hbx HW
  cases b
  ·go_wp2
   exact bodyPost_ret (v := .tuple #[.agg #[.int .i64 0,.int .i64 0,.int .i64 0],.bool false]) (by simp [results,Tryz.results87,go_sem,r0,r1,r2]) rfl ⟨rfl,((HW2.out.setCell (Nat.le_refl _) _).setCell (Nat.le_refl _) _).setCell (Nat.le_refl _) _⟩
  ·go_wp2
   exact bodyPost_ret (v := .tuple #[.agg #[.int .i64 (hdBlk s.data.toList),.int .i64 (hdSeed s.data.toList),.int .i64 (hdBits s.data.toList)],.bool true]) (by simp [results,Tryz.results87,go_sem,r0,r1,r2]) rfl ⟨rfl,((HW2.out.setCell (Nat.le_refl _) _).setCell (Nat.le_refl _) _).setCell (Nat.le_refl _) _⟩
theorem headB_parts (l : List UInt8) : headB l = (decide (14 <= l.length) && (l.take 2 == [76,71]) && sealedB (l.take 14) && wellB (hdBlk l) (hdSeed l) (hdBits l)) := by
 unfold headB
 cases decide (14 <= l.length) <;> cases sealedB (l.take 14) <;> cases wellB (hdBlk l) (hdSeed l) (hdBits l) <;> cases (l.take 2 == [76,71]) <;> rfl
def headV (l : List UInt8) : Value := if headB l = true then .agg #[.int .i64 (hdBlk l),.int .i64 (hdSeed l),.int .i64 (hdBits l)] else .agg #[.int .i64 0,.int .i64 0,.int .i64 0]
theorem readHead_any (s : ByteArray) (w : World) (hs : s.size <= 140737488351232) (hH : HalvesAt w) :
  Calls Tryz.prog 87 #[.string s] w fun e w' => e = .returned (.tuple #[headV s.data.toList,.bool (headB s.data.toList)]) /\ Below w.heap.size w w' := by
 have hl : s.data.toList.length = s.size := by simp
 have hp := headB_parts s.data.toList
 rw [hl] at hp
 by_cases h1 : 14 <= s.size
 ·cases h2 : (s.data.toList.take 2 == [76,71])
  ·have hf : headB s.data.toList = false := by rw [hp,h2]; simp
   unfold headV
   rw [hf]
   exact readHead_no s w hs hH (.inr (.inl ⟨h1,h2⟩))
  ·cases h3 : sealedB (s.data.toList.take 14)
   ·have hf : headB s.data.toList = false := by rw [hp,h3]; simp
    unfold headV
    rw [hf]
    exact readHead_no s w hs hH (.inr (.inr ⟨h1,h2,h3⟩))
   ·have hf : headB s.data.toList = wellB (hdBlk s.data.toList) (hdSeed s.data.toList) (hdBits s.data.toList) := by rw [hp,h2,h3]; simp [h1]
    unfold headV
    rw [hf]
    exact readHead_go s w hs hH h1 h2 h3 _ rfl
 ·have hf : headB s.data.toList = false := by rw [hp]; simp; omega
  unfold headV
  rw [hf]
  exact readHead_no s w hs hH (.inl (by omega))
theorem isValue_any (s : ByteArray) (w : World) :
  Calls Tryz.prog 154 #[.string s] w fun e w' => e = .returned (.bool (decide (s.size <= 30))) /\ w' = w := by
 go_enter Tryz.func154,Tryz.ntmps154
 go_wp2
 go_ret
 refine ⟨ret_bool ?_,rfl⟩
 rw [Bool.eq_iff_iff]; simp; omega
def noEnt : Value := .agg #[.bool false,.string ⟨#[]⟩,.string ⟨#[]⟩]
def entR (l : List UInt8) : Value := match ent1 l with
 | none => .tuple #[noEnt,.string ⟨#[]⟩,.bool false]
 | some (e,n) => .tuple #[.agg #[.bool e.put,.string (S e.key),.string (S e.val)],.string (S (l.drop n)),.bool true]
theorem entR_none {l : List UInt8} (h : ent1 l = none) : entR l = .tuple #[.agg #[.bool false,.string ⟨#[]⟩,.string ⟨#[]⟩],.string ⟨#[]⟩,.bool false] := by
 unfold entR; rw [h]; rfl
theorem entR_some {l : List UInt8} {e : Ent} {n : Nat} (h : ent1 l = some (e,n)) : entR l = .tuple #[.agg #[.bool e.put,.string (S e.key),.string (S e.val)],.string (S (l.drop n)),.bool true] := by
 unfold entR; rw [h]
theorem ent1_zero {l : List UInt8} {n : Nat} (hn : l.length = n) (h : 3 <= l.length) : ent1 l = if n < 3 + l[1].toNat + l[2].toNat \/ l[1].toNat < 1 \/ 20 < l[1].toNat \/ 30 < l[2].toNat then none else if l[0] = 112 then some (⟨true,(l.drop 3).take l[1].toNat,(l.drop (3 + l[1].toNat)).take l[2].toNat⟩,3 + l[1].toNat + l[2].toNat) else if l[0] = 100 /\ l[2].toNat = 0 then some (⟨false,(l.drop 3).take l[1].toNat,[]⟩,3 + l[1].toNat) else none := by
 match l,h with
 | a :: b :: c :: r,_ =>
  show (if r.length < b.toNat + c.toNat \/ b.toNat < 1 \/ 20 < b.toNat \/ 30 < c.toNat then none else if a = 112 then some ((⟨true,r.take b.toNat,(r.drop b.toNat).take c.toNat⟩ : Ent),3 + b.toNat + c.toNat) else if a = 100 /\ c.toNat = 0 then some ((⟨false,r.take b.toNat,[]⟩ : Ent),3 + b.toNat) else none) = if n < 3 + b.toNat + c.toNat \/ b.toNat < 1 \/ 20 < b.toNat \/ 30 < c.toNat then none else if a = 112 then some ((⟨true,r.take b.toNat,((a :: b :: c :: r).drop (3 + b.toNat)).take c.toNat⟩ : Ent),3 + b.toNat + c.toNat) else if a = 100 /\ c.toNat = 0 then some ((⟨false,r.take b.toNat,[]⟩ : Ent),3 + b.toNat) else none
  have e : (a :: b :: c :: r).drop (3 + b.toNat) = r.drop b.toNat := by rw [<- List.drop_drop]; rfl
  rw [e]
  have hr : r.length + 3 = n := by simpa using hn
  by_cases hb : r.length < b.toNat + c.toNat \/ b.toNat < 1 \/ 20 < b.toNat \/ 30 < c.toNat
  ·rw [if_pos hb,if_pos (by omega)]
  ·rw [if_neg hb,if_neg (c := n < 3 + b.toNat + c.toNat \/ b.toNat < 1 \/ 20 < b.toNat \/ 30 < c.toNat) (by omega)]
theorem readEntry_early (s : ByteArray) (w : World) (hs : s.size <= 140737488351232) (h : s.size < 3 \/ ∃ h3 : 3 <= s.size,s[0] ≠ 112 /\ s[0] ≠ 100) :
  Calls Tryz.prog 205 #[.string s] w fun e w' => e = .returned (entR s.data.toList) /\ Below w.heap.size w w' := by
 have hl : s.data.toList.length = s.size := by simp
 rcases h with h1 | ⟨h3,h1,h2⟩
 ·have HR : Hid (entR s.data.toList = _) := entR_none (ent1_short (by omega))
  go_enter Tryz.func205,Tryz.ntmps205
  go_wp2
  exact bodyPost_ret (v := .tuple #[.agg #[.bool false,.string ⟨#[]⟩,.string ⟨#[]⟩],.string ⟨#[]⟩,.bool false]) (by simp [results,Tryz.results205,go_sem]) rfl ⟨by rw [HR.out],(Below.refl _ _).alloc (Nat.le_refl _) _⟩
 ·have HR : Hid (entR s.data.toList = _) := entR_none (by
   have e : ent1 (s.data.toList.drop 0) = none := by
    by_cases hb : s.data.toList.length < 0 + 3 + s.data.toList[1].toNat + s.data.toList[2].toNat \/ s.data.toList[1].toNat < 1 \/ 20 < s.data.toList[1].toNat \/ 30 < s.data.toList[2].toNat
    ·exact ent1_bad (by omega) hb
    ·exact ent1_no (by omega) hb h1 (.inl h2)
   rwa [List.drop_zero] at e)
  have t1 : ((s[0].toNat : Int) != 112) = true := by
   rw [bne_iff_ne]; intro h; apply h1; apply UInt8.toNat_inj.1; simp; omega
  have t2 : ((s[0].toNat : Int) != 100) = true := by
   rw [bne_iff_ne]; intro h; apply h2; apply UInt8.toNat_inj.1; simp; omega
  clear h1 h2
  go_enter Tryz.func205,Tryz.ntmps205
  go_wp2
  exact bodyPost_ret (v := .tuple #[.agg #[.bool false,.string ⟨#[]⟩,.string ⟨#[]⟩],.string ⟨#[]⟩,.bool false]) (by simp [results,Tryz.results205,go_sem]) rfl ⟨by rw [HR.out],(Below.refl _ _).alloc (Nat.le_refl _) _⟩
theorem readEntry_bad (s : ByteArray) (w : World) (hs : s.size <= 140737488351232) (h3 : 3 <= s.size) (pb : Bool) (hk : if pb then s[0] = 112 else (s[0] ≠ 112 /\ s[0] = 100)) (hbad : s.size < 3 + s[1].toNat + s[2].toNat \/ (3 + s[1].toNat + s[2].toNat <= s.size /\ pb = false /\ s[2].toNat ≠ 0)) :
  Calls Tryz.prog 205 #[.string s] w fun e w' => e = .returned (entR s.data.toList) /\ Below w.heap.size w w' := by
 have hl : s.data.toList.length = s.size := by simp
 have t1 : ((s[0].toNat : Int) != 112) = !pb := by
  cases pb
  ·have : s[0] = 100 := hk.2
   rw [this]; rfl
  ·have : s[0] = 112 := hk
   rw [this]; rfl
 have t2 : pb = false -> ((s[0].toNat : Int) != 100) = false := by
  intro hp; subst hp
  have : s[0] = 100 := hk.2
  rw [this]; rfl
 have t3 : ((s[0].toNat : Int) == 112) = pb := by
  cases pb
  ·have : s[0] = 100 := hk.2
   rw [this]; rfl
  ·have : s[0] = 112 := hk
   rw [this]; rfl
 have hw1 := w64b s[1]
 have hw2 := w64b s[2]
 have hb1 := s[1].toNat_lt
 have hb2 := s[2].toNat_lt
 have c0 := idx_run s 0 (by omega) 0 rfl
 have c1 := idx_run s 1 (by omega) 1 rfl
 have c2 := idx_run s 2 (by omega) 2 rfl
 have c3 := cut_from s 3 (by omega) 3 rfl
 have HE : Hid (ent1 s.data.toList = if s.size < 3 + s[1].toNat + s[2].toNat \/ s[1].toNat < 1 \/ 20 < s[1].toNat \/ 30 < s[2].toNat then none else if pb = true then some (⟨true,(s.data.toList.drop 3).take s[1].toNat,(s.data.toList.drop (3 + s[1].toNat)).take s[2].toNat⟩,3 + s[1].toNat + s[2].toNat) else if s[2].toNat = 0 then some (⟨false,(s.data.toList.drop 3).take s[1].toNat,[]⟩,3 + s[1].toNat) else none) := by
  have hz : ent1 s.data.toList = if s.size < 3 + s[1].toNat + s[2].toNat \/ s[1].toNat < 1 \/ 20 < s[1].toNat \/ 30 < s[2].toNat then none else if s[0] = 112 then some (⟨true,(s.data.toList.drop 3).take s[1].toNat,(s.data.toList.drop (3 + s[1].toNat)).take s[2].toNat⟩,3 + s[1].toNat + s[2].toNat) else if s[0] = 100 /\ s[2].toNat = 0 then some (⟨false,(s.data.toList.drop 3).take s[1].toNat,[]⟩,3 + s[1].toNat) else none := ent1_zero hl (by omega)
  show _ = _
  rw [hz]
  cases pb
  ·rw [if_neg (c := s[0] = 112) hk.1,if_neg (c := false = true) (by decide)]
   by_cases hv : s[2].toNat = 0
   ·rw [if_pos (c := s[0] = 100 /\ s[2].toNat = 0) ⟨hk.2,hv⟩,if_pos (c := s[2].toNat = 0) hv]
   ·rw [if_neg (c := s[0] = 100 /\ s[2].toNat = 0) (fun h => hv h.2),if_neg (c := s[2].toNat = 0) hv]
  ·rw [if_pos (c := s[0] = 112) hk,if_pos (c := true = true) rfl]
 clear hk
 go_enter Tryz.func205,Tryz.ntmps205
 obtain ⟨r,hr⟩ : ∃ r,r = S (s.data.toList.drop 3) := ⟨_,rfl⟩
 rw [<- hr] at c3
 have hrs : r.size = s.size - 3 := by rw [hr,S_size]; simp
 have HRL : Hid (r.data.toList = s.data.toList.drop 3) := by show _ = _; rw [hr,S_data]
 clear hr
 rcases hbad with g1 | ⟨g1,g2,g3⟩
 ·have HR : Hid (entR s.data.toList = _) := entR_none (by rw [HE.out,if_pos (.inl g1)])
  clear HE HRL
  cases pb
  all_goals
   go_wp2_with fail
   go_quiet (fail)
   go_wp2
   exact bodyPost_ret (v := .tuple #[.agg #[.bool false,.string ⟨#[]⟩,.string ⟨#[]⟩],.string ⟨#[]⟩,.bool false]) (by simp [results,Tryz.results205,go_sem]) rfl ⟨by rw [HR.out],(((below_drewN ((Below.refl _ _).alloc (Nat.le_refl _) _) _).setCell (Nat.le_refl _) _).setCell (Nat.le_refl _) _).setCell (Nat.le_refl _) _⟩
 ·subst g2
  have HR : Hid (entR s.data.toList = _) := entR_none (by
   rw [HE.out]
   by_cases hb : s.size < 3 + s[1].toNat + s[2].toNat \/ s[1].toNat < 1 \/ 20 < s[1].toNat \/ 30 < s[2].toNat
   ·rw [if_pos hb]
   ·rw [if_neg hb,if_neg (by decide),if_neg g3])
  have t4 : ((s[2].toNat : Int) != 0) = true := by rw [bne_iff_ne]; omega
  clear HE HRL g3
  go_wp2_with fail
  go_quiet (fail)
  go_wp2
  exact bodyPost_ret (v := .tuple #[.agg #[.bool false,.string ⟨#[]⟩,.string ⟨#[]⟩],.string ⟨#[]⟩,.bool false]) (by simp [results,Tryz.results205,go_sem]) rfl ⟨by rw [HR.out],(((below_drewN ((Below.refl _ _).alloc (Nat.le_refl _) _) _).setCell (Nat.le_refl _) _).setCell (Nat.le_refl _) _).setCell (Nat.le_refl _) _⟩
theorem isRight_any (pb : Bool) (ky vl : ByteArray) (w : World) :
  Calls Tryz.prog 99 #[.agg #[.bool pb,.string ky,.string vl]] w fun e w' => e = .returned (.bool (keyB ky && decide (vl.size <= 30))) /\ Below w.heap.size w w' := by
 cases h : keyB ky
 all_goals
  go_enter Tryz.func99,Tryz.ntmps99
  go_wp2_with (first | (go_at_call 153; refine (isKey_any _ _).mono ?_; rintro e w' ⟨rfl,rfl⟩; rw [h]) | (go_at_call 154; refine (isValue_any _ _).mono ?_; rintro e w' ⟨rfl,rfl⟩))
  go_ret
  refine ⟨ret_bool (by simp),(Below.refl _ _).alloc (Nat.le_refl _) _⟩
theorem far3 (w2 : World) {n m : Nat} (h : n ≠ m) (a b c : Value) (j : Nat) : (((w2.setCell ⟨n,0,none⟩ a).setCell ⟨n,1,none⟩ b).setCell ⟨n,2,none⟩ c).drew.cell? ⟨m,j,none⟩ = w2.cell? ⟨m,j,none⟩ := by
 show (((w2.setCell ⟨n,0,none⟩ a).setCell ⟨n,1,none⟩ b).setCell ⟨n,2,none⟩ c).cell? ⟨m,j,none⟩ = _
 rw [World.cell?_setCell_far _ _ _ _ h,World.cell?_setCell_far _ _ _ _ h,World.cell?_setCell_far _ _ _ _ h]
def Keep3 (w W : World) : Prop := (W.cell? ⟨w.heap.size,0,none⟩ = some (.bool false) /\ W.cell? ⟨w.heap.size,1,none⟩ = some (.string ⟨#[]⟩) /\ W.cell? ⟨w.heap.size,2,none⟩ = some (.string ⟨#[]⟩)) /\ (∀ i,W.frozen? ⟨w.heap.size,i,none⟩ = false) /\ Below w.heap.size w W /\ w.heap.size < W.heap.size
theorem keep3_new (w : World) (q : Nat) : Keep3 w ((w.alloc (.cells #[.bool false,.string ⟨#[]⟩,.string ⟨#[]⟩] 106)).drewN q) :=
 ⟨⟨by simp,by simp,by simp⟩,fun i => by simp,below_drewN ((Below.refl _ _).alloc (Nat.le_refl _) _) _,by simp⟩
theorem Keep3.below {w W W' : World} (h : Keep3 w W) (hb : Below W.heap.size W W') : Keep3 w W' := by
 obtain ⟨⟨h0,h1,h2⟩,hf,hB,hz⟩ := h
 exact ⟨⟨(hb.cell (p := ⟨w.heap.size,0,none⟩) hz).trans h0,(hb.cell (p := ⟨w.heap.size,1,none⟩) hz).trans h1,(hb.cell (p := ⟨w.heap.size,2,none⟩) hz).trans h2⟩,fun i => (hb.frozen (p := ⟨w.heap.size,i,none⟩) hz).trans (hf i),hB.trans (hb.mono (Nat.le_of_lt hz)),Nat.lt_of_lt_of_le hz hb.size⟩
theorem readEntry_good (s : ByteArray) (w : World) (hs : s.size <= 140737488351232) (h3 : 3 <= s.size) (pb : Bool) (hk : if pb then s[0] = 112 else (s[0] ≠ 112 /\ s[0] = 100)) (g1 : 3 + s[1].toNat + s[2].toNat <= s.size) (g2 : pb = true \/ s[2].toNat = 0) :
  Calls Tryz.prog 205 #[.string s] w fun e w' => e = .returned (entR s.data.toList) /\ Below w.heap.size w w' := by
 have hl : s.data.toList.length = s.size := by simp
 have t1 : ((s[0].toNat : Int) != 112) = !pb := by
  cases pb
  ·have : s[0] = 100 := hk.2
   rw [this]; rfl
  ·have : s[0] = 112 := hk
   rw [this]; rfl
 have t2 : pb = false -> ((s[0].toNat : Int) != 100) = false := by
  intro hp; subst hp
  have : s[0] = 100 := hk.2
  rw [this]; rfl
 have t3 : ((s[0].toNat : Int) == 112) = pb := by
  cases pb
  ·have : s[0] = 100 := hk.2
   rw [this]; rfl
  ·have : s[0] = 112 := hk
   rw [this]; rfl
 have hw1 := w64b s[1]
 have hw2 := w64b s[2]
 have hb1 := s[1].toNat_lt
 have hb2 := s[2].toNat_lt
 have c0 := idx_run s 0 (by omega) 0 rfl
 have c1 := idx_run s 1 (by omega) 1 rfl
 have c2 := idx_run s 2 (by omega) 2 rfl
 have c3 := cut_from s 3 (by omega) 3 rfl
 have HE : Hid (ent1 s.data.toList = if s.size < 3 + s[1].toNat + s[2].toNat \/ s[1].toNat < 1 \/ 20 < s[1].toNat \/ 30 < s[2].toNat then none else if pb = true then some (⟨true,(s.data.toList.drop 3).take s[1].toNat,(s.data.toList.drop (3 + s[1].toNat)).take s[2].toNat⟩,3 + s[1].toNat + s[2].toNat) else if s[2].toNat = 0 then some (⟨false,(s.data.toList.drop 3).take s[1].toNat,[]⟩,3 + s[1].toNat) else none) := by
  have hz : ent1 s.data.toList = if s.size < 3 + s[1].toNat + s[2].toNat \/ s[1].toNat < 1 \/ 20 < s[1].toNat \/ 30 < s[2].toNat then none else if s[0] = 112 then some (⟨true,(s.data.toList.drop 3).take s[1].toNat,(s.data.toList.drop (3 + s[1].toNat)).take s[2].toNat⟩,3 + s[1].toNat + s[2].toNat) else if s[0] = 100 /\ s[2].toNat = 0 then some (⟨false,(s.data.toList.drop 3).take s[1].toNat,[]⟩,3 + s[1].toNat) else none := ent1_zero hl (by omega)
  show _ = _
  rw [hz]
  cases pb
  ·rw [if_neg (c := s[0] = 112) hk.1,if_neg (c := false = true) (by decide)]
   by_cases hv : s[2].toNat = 0
   ·rw [if_pos (c := s[0] = 100 /\ s[2].toNat = 0) ⟨hk.2,hv⟩,if_pos (c := s[2].toNat = 0) hv]
   ·rw [if_neg (c := s[0] = 100 /\ s[2].toNat = 0) (fun h => hv h.2),if_neg (c := s[2].toNat = 0) hv]
  ·rw [if_pos (c := s[0] = 112) hk,if_pos (c := true = true) rfl]
 clear hk
 go_enter Tryz.func205,Tryz.ntmps205
 obtain ⟨r,hr⟩ : ∃ r,r = S (s.data.toList.drop 3) := ⟨_,rfl⟩
 rw [<- hr] at c3
 have hrs : r.size = s.size - 3 := by rw [hr,S_size]; simp
 have HRL : Hid (r.data.toList = s.data.toList.drop 3) := by show _ = _; rw [hr,S_data]
 clear hr
 have u1 := cut_upto r s[1].toNat (by omega) (s[1].toNat : Int) rfl
 have u2 := cut_run r s[1].toNat s[2].toNat (by omega) (s[1].toNat : Int) ((s[1].toNat : Int) + (s[2].toNat : Int)) rfl (by omega)
 have u3 := cut_from r (s[1].toNat + s[2].toNat) (by omega) ((s[1].toNat : Int) + (s[2].toNat : Int)) (by omega)
 rw [HRL.out] at u1 u2 u3
 obtain ⟨ky,hky⟩ : ∃ t,t = S ((s.data.toList.drop 3).take s[1].toNat) := ⟨_,rfl⟩
 obtain ⟨vl,hvl⟩ : ∃ t,t = S (((s.data.toList.drop 3).drop s[1].toNat).take s[2].toNat) := ⟨_,rfl⟩
 obtain ⟨rs,hrs2⟩ : ∃ t,t = S ((s.data.toList.drop 3).drop (s[1].toNat + s[2].toNat)) := ⟨_,rfl⟩
 rw [<- hky] at u1
 rw [<- hvl] at u2
 rw [<- hrs2] at u3
 have kz : ky.size = s[1].toNat := by rw [hky,S_size]; simp; omega
 have vz : vl.size = s[2].toNat := by rw [hvl,S_size]; simp; omega
 have HGO : Hid (entR s.data.toList = if (keyB ky && decide (vl.size <= 30)) = true then .tuple #[.agg #[.bool pb,.string ky,.string vl],.string rs,.bool true] else .tuple #[.agg #[.bool false,.string ⟨#[]⟩,.string ⟨#[]⟩],.string ⟨#[]⟩,.bool false]) := by
  show _ = _
  have hkb : (keyB ky && decide (vl.size <= 30)) = true ↔ (1 <= s[1].toNat /\ s[1].toNat <= 20) /\ s[2].toNat <= 30 := by
   rw [keyB,kz,vz]; simp
  by_cases hq : (1 <= s[1].toNat /\ s[1].toNat <= 20) /\ s[2].toNat <= 30
  ·rw [if_pos (hkb.2 hq)]
   have hno : ¬ (s.size < 3 + s[1].toNat + s[2].toNat \/ s[1].toNat < 1 \/ 20 < s[1].toNat \/ 30 < s[2].toNat) := by omega
   cases pb
   ·have hv : s[2].toNat = 0 := g2.resolve_left (by decide)
    rw [entR_some (show ent1 s.data.toList = some ((⟨false,(s.data.toList.drop 3).take s[1].toNat,[]⟩ : Ent),3 + s[1].toNat) by rw [HE.out,if_neg hno,if_neg (by decide),if_pos hv]),hky,hvl,hrs2,hv,Nat.add_zero,List.drop_drop]
    rfl
   ·rw [entR_some (by rw [HE.out,if_neg hno,if_pos rfl]),hky,hvl,hrs2,List.drop_drop,List.drop_drop,Nat.add_assoc]
  ·rw [if_neg (fun h => hq (hkb.1 h))]
   exact entR_none (by rw [HE.out,if_pos (by omega)])
 have m1 : IntKind.i64.wrap ((s[1].toNat : Int) + (s[2].toNat : Int)) = (s[1].toNat : Int) + (s[2].toNat : Int) := by rw [IntKind.wrap_i64]; omega
 have t4 : pb = false -> ((s[2].toNat : Int) != 0) = false := by
  intro hp
  rcases g2 with g2 | g2
  ·rw [hp] at g2; cases g2
  ·rw [bne_eq_false_iff_eq]; omega
 clear HE HRL hky hvl hrs2 kz vz g2
 obtain ⟨pq,hpq⟩ : ∃ pq,pq = pb := ⟨_,rfl⟩
 have HPQ : Hid (pq = pb) := hpq
 clear hpq
 cases pb
 all_goals
  first | have t2' := t2 rfl | skip
  first | have t4' := t4 rfl | skip
  clear t2 t4
  go_wp2_with fail
  go_quiet (fail)
  go_wp2_with fail
  have hz3 : ((w.alloc (.cells #[.bool false,.string ⟨#[]⟩,.string ⟨#[]⟩] 106)).drewN nq).heap.size = w.heap.size + 1 := by simp
  have HC3 : Hid (Keep3 w ((w.alloc (.cells #[.bool false,.string ⟨#[]⟩,.string ⟨#[]⟩] 106)).drewN nq)) := keep3_new w nq
  generalize (w.alloc (.cells #[.bool false,.string ⟨#[]⟩,.string ⟨#[]⟩] 106)).drewN nq = W3 at *
  go_cut [8] (fun c wx => c = .pointer (some ⟨w.heap.size + 1,0,none⟩) /\ (wx.cell? ⟨w.heap.size + 1,0,none⟩ = some (.bool pq) /\ wx.cell? ⟨w.heap.size + 1,1,none⟩ = some (.string ky) /\ wx.cell? ⟨w.heap.size + 1,2,none⟩ = some (.string vl)) /\ Below W3.heap.size W3 wx /\ w.heap.size + 1 < wx.heap.size)
  case first =>
   go_region_held3 (fun w' => W3.heap.size <= w'.heap.size) (first | (simp) | (simp; omega)) (first | (fail))
   all_goals
    go_wp2_with fail
    go_meet
    refine ⟨rfl,⟨?_,?_,?_⟩,?_,?_⟩
    ·rw [HPQ.out,<- hz3]; simp
    ·rw [<- hz3]; simp
    ·rw [<- hz3]; simp
    ·first | exact ((Below.refl _ _).alloc (Nat.le_refl _) _).drew | exact (((Below.refl _ _).alloc (Nat.le_refl _) _).setCell (by simp) _).drew
    ·simp; omega
  case rest =>
   obtain ⟨rfl,⟨c0',c1',c2'⟩,hb2,hzz⟩ := hcut
   have HK := HC3.out.below hb2
   clear HC3 hb2 c0 c1 c2 c3 u1 u2
   rw [HPQ.out] at c0'
   go_wp2_with fail
   refine (isRight_any _ _ _ _).mono ?_
   rintro e w2 ⟨rfl,hb3⟩
   have HK2 := HK.below hb3
   obtain ⟨⟨r0,r1,r2⟩,rf,hB,hzr⟩ := HK2
   have f0 := rf 0
   have f1 := rf 1
   have f2 := rf 2
   have d0 := (hb3.cell (p := ⟨w.heap.size + 1,0,none⟩) hzz).trans c0'
   have d1 := (hb3.cell (p := ⟨w.heap.size + 1,1,none⟩) hzz).trans c1'
   have d2 := (hb3.cell (p := ⟨w.heap.size + 1,2,none⟩) hzz).trans c2'
   have HB : Hid (Below w.heap.size w w2) := hB
   clear HK hb3 c0' c1' c2' rf hB
   generalize (keyB ky && decide (vl.size <= 30)) = q at *
   cases q
   ·have HR : Hid (entR s.data.toList = .tuple #[.agg #[.bool false,.string ⟨#[]⟩,.string ⟨#[]⟩],.string ⟨#[]⟩,.bool false]) := HGO.out
    clear HGO u3
    go_wp2
    exact bodyPost_ret (v := .tuple #[.agg #[.bool false,.string ⟨#[]⟩,.string ⟨#[]⟩],.string ⟨#[]⟩,.bool false]) (by simp [results,Tryz.results205,go_sem,r0,r1,r2]) rfl ⟨by rw [HR.out],((HB.out.setCell (Nat.le_refl _) _).setCell (Nat.le_refl _) _).setCell (Nat.le_refl _) _⟩
   ·have HR : Hid (entR s.data.toList = _) := HGO.out
    clear HGO
    go_wp2_with fail
    go_region_held3 (fun w' => w'.cell? ⟨w.heap.size + 1,0,none⟩ = w2.cell? ⟨w.heap.size + 1,0,none⟩ /\ w'.cell? ⟨w.heap.size + 1,1,none⟩ = w2.cell? ⟨w.heap.size + 1,1,none⟩ /\ w'.cell? ⟨w.heap.size + 1,2,none⟩ = w2.cell? ⟨w.heap.size + 1,2,none⟩) (first | (exact ⟨far3 _ (by omega) _ _ _ 0,far3 _ (by omega) _ _ _ 1,far3 _ (by omega) _ _ _ 2⟩) | (exact ⟨rfl,rfl,rfl⟩)) (first | (fail))
    all_goals
     go_wp2
     exact bodyPost_ret (v := .tuple #[.agg #[.bool pq,.string ky,.string vl],.string rs,.bool true]) (by rw [HPQ.out]; simp [results,Tryz.results205,go_sem,r0,r1,r2]) rfl ⟨by rw [HR.out,HPQ.out]; rfl,(((HB.out.setCell (Nat.le_refl _) _).setCell (Nat.le_refl _) _).setCell (Nat.le_refl _) _).drew⟩
theorem readEntry_any (s : ByteArray) (w : World) (hs : s.size <= 140737488351232) :
  Calls Tryz.prog 205 #[.string s] w fun e w' => e = .returned (entR s.data.toList) /\ Below w.heap.size w w' := by
 by_cases h3 : 3 <= s.size
 ·by_cases hp : s[0] = 112
  ·by_cases hb : s.size < 3 + s[1].toNat + s[2].toNat
   ·exact readEntry_bad s w hs h3 true hp (.inl hb)
   ·exact readEntry_good s w hs h3 true hp (by omega) (.inl rfl)
  ·by_cases hd : s[0] = 100
   ·by_cases hb : s.size < 3 + s[1].toNat + s[2].toNat
    ·exact readEntry_bad s w hs h3 false ⟨hp,hd⟩ (.inl hb)
    ·by_cases hv : s[2].toNat = 0
     ·exact readEntry_good s w hs h3 false ⟨hp,hd⟩ (by omega) (.inr hv)
     ·exact readEntry_bad s w hs h3 false ⟨hp,hd⟩ (.inr ⟨by omega,rfl,hv⟩)
   ·exact readEntry_early s w hs (.inr ⟨h3,hp,hd⟩)
 ·exact readEntry_early s w hs (.inl (by omega))
theorem add_is_xor {b : Nat} (k c : Nat) (h : b < 2 ^ k) : b + 2 ^ k * c = b ^^^ (2 ^ k * c) := by
 have h1 := Nat.two_pow_add_eq_or_of_lt h c
 have h2 : 2 ^ k * c ||| b = 2 ^ k * c ^^^ b := by
  apply Nat.eq_of_testBit_eq
  intro j
  rw [Nat.testBit_or,Nat.testBit_xor]
  by_cases hj : j < k
  ·have : (2 ^ k * c).testBit j = false := by
    rw [Nat.testBit_two_pow_mul]; simp; omega
   rw [this]; simp
  ·have : b.testBit j = false := by
    apply Nat.testBit_lt_two_pow
    exact Nat.lt_of_lt_of_le h (Nat.pow_le_pow_right (by omega) (by omega))
   rw [this]; simp
 rw [Nat.add_comm,h1,h2,Nat.xor_comm]
theorem highL_cons_xor (b : UInt8) (l : List UInt8) : highL (b :: l) = b.toNat ^^^ (256 * highL l) := by
 have := b.toNat_lt
 show b.toNat + 256 * highL l = _
 exact add_is_xor 8 (highL l) (by omega)
theorem highL_turn (l : List UInt8) (p : Nat) (h : p / 8 < l.length) : highL (l.set (p / 8) (l[p / 8] ^^^ UInt8.ofNat (2 ^ (p % 8)))) = highL l ^^^ 2 ^ p := by
 have gen : ∀ (l : List UInt8) (j k : Nat) (hj : j < l.length) (hk : k < 8),highL (l.set j (l[j] ^^^ UInt8.ofNat (2 ^ k))) = highL l ^^^ 2 ^ (8 * j + k) := by
  intro l
  induction l with
  | nil => intro j k hj; simp at hj
  | cons b l ih =>
   intro j k hj hk
   cases j with
   | zero =>
    simp only [List.set_cons_zero,List.getElem_cons_zero,Nat.mul_zero,Nat.zero_add]
    rw [highL_cons_xor,highL_cons_xor,UInt8.toNat_xor,UInt8.toNat_ofNat',Nat.mod_eq_of_lt (Nat.lt_of_lt_of_le (Nat.pow_lt_pow_right (by omega) hk) (by decide : 2 ^ 8 <= 2 ^ 8))]
    rw [Nat.xor_assoc,Nat.xor_comm (2 ^ k),<- Nat.xor_assoc]
   | succ j =>
    simp only [List.set_cons_succ,List.getElem_cons_succ]
    rw [highL_cons_xor,highL_cons_xor,ih j k (by simpa using hj) hk]
    have e1 : 256 * (highL l ^^^ 2 ^ (8 * j + k)) = 256 * highL l ^^^ 2 ^ (8 * (j + 1) + k) := by
     rw [show 8 * (j + 1) + k = 8 + (8 * j + k) by omega,Nat.pow_add 2 8,show (256 : Nat) = 2 ^ 8 from rfl]
     simp only [Nat.mul_comm (2 ^ 8),<- Nat.shiftLeft_eq]
     rw [Nat.shiftLeft_xor_distrib]
    rw [e1,<- Nat.xor_assoc]
 have := gen l (p / 8) (p % 8) h (by omega)
 rw [this,Nat.div_add_mod]
theorem turn_next {a i W : Nat} (hW : W < 2 ^ i) : 2 ^ a * W ^^^ 2 ^ (a + i) = 2 ^ a * (W + 2 ^ i) := by
 have h1 : W + 2 ^ i = W ^^^ 2 ^ i := by have := add_is_xor i 1 hW; simpa using this
 rw [h1,Nat.pow_add]
 simp only [Nat.mul_comm (2 ^ a),<- Nat.shiftLeft_eq]
 rw [Nat.shiftLeft_xor_distrib]
def turnL (l : List UInt8) (p : Nat) : List UInt8 := l.set (p / 8) (l.getD (p / 8) 0 ^^^ UInt8.ofNat (2 ^ (p % 8)))
theorem turnL_length (l : List UInt8) (p : Nat) : (turnL l p).length = l.length := by simp [turnL]
theorem turnL_high {l : List UInt8} {p : Nat} (h : p / 8 < l.length) : highL (turnL l p) = highL l ^^^ 2 ^ p := by
 unfold turnL
 rw [List.getD_eq_getElem?_getD,List.getElem?_eq_getElem h]
 exact highL_turn l p h
theorem turnL_mid (pre mid post : List UInt8) (q : Nat) (h : q / 8 < mid.length) : turnL (pre ++ (mid ++ post)) (8 * pre.length + q) = pre ++ (turnL mid q ++ post) := by
 have e1 : (8 * pre.length + q) / 8 = pre.length + q / 8 := by omega
 have e2 : (8 * pre.length + q) % 8 = q % 8 := by omega
 unfold turnL
 rw [e1,e2,List.getD_eq_getElem?_getD,List.getElem?_append_right (by omega),Nat.add_sub_cancel_left,List.getElem?_append_left h,List.set_append_right _ _ (by omega),Nat.add_sub_cancel_left,List.set_append_left _ _ h]
 rw [List.getD_eq_getElem?_getD]
def Sp (pre mid post : List UInt8) (q i : Nat) (B : List UInt8) : Prop := ∃ mid' W,B = pre ++ (mid' ++ post) /\ mid'.length = mid.length /\ highL mid ^^^ highL mid' = 2 ^ q * W /\ 0 < W /\ W < 2 ^ i
theorem Sp.first {pre mid post : List UInt8} {q : Nat} (h : q / 8 < mid.length) : Sp pre mid post q 1 (turnL (pre ++ (mid ++ post)) (8 * pre.length + q)) := by
 refine ⟨turnL mid q,1,turnL_mid pre mid post q h,turnL_length _ _,?_,by omega,by omega⟩
 rw [turnL_high h,<- Nat.xor_assoc,Nat.xor_self,Nat.zero_xor,Nat.mul_one]
theorem Sp.next {pre mid post B : List UInt8} {q i : Nat} (h : Sp pre mid post q i B) : Sp pre mid post q (i + 1) B := by
 obtain ⟨m,W,h1,h2,h3,h4,h5⟩ := h
 exact ⟨m,W,h1,h2,h3,h4,by rw [Nat.pow_succ]; omega⟩
theorem Sp.turn {pre mid post B : List UInt8} {q i : Nat} (h : Sp pre mid post q i B) (hq : (q + i) / 8 < mid.length) : Sp pre mid post q (i + 1) (turnL B (8 * pre.length + (q + i))) := by
 obtain ⟨m,W,rfl,h2,h3,h4,h5⟩ := h
 refine ⟨turnL m (q + i),W + 2 ^ i,turnL_mid pre m post (q + i) (by omega),by rw [turnL_length,h2],?_,by omega,by rw [Nat.pow_succ]; omega⟩
 rw [turnL_high (by omega),<- Nat.xor_assoc,h3,turn_next h5]
theorem Sp.length {pre mid post B : List UInt8} {q i : Nat} (h : Sp pre mid post q i B) : B.length = (pre ++ (mid ++ post)).length := by
 obtain ⟨m,W,rfl,h2,_⟩ := h
 simp [h2]
theorem block_bytes {blk seed bits : Nat} {bs : List (List Ent)} (h : ∀ e ∈ bs,BlkOk blk e) {m : Nat} (hm : m < bs.length) :
  ∃ y1 y2 : Nat,y1 < 256 /\ y2 < 256 /\ 7 + y1 + 256 * y2 = (blockB bs[m]).length /\ 14 + (blocksB (bs.take m)).length + (blockB bs[m]).length <= (headL blk seed bits ++ blocksB bs).length /\
   (headL blk seed bits ++ blocksB bs)[14 + (blocksB (bs.take m)).length + 1]? = some (UInt8.ofNat y1) /\ (headL blk seed bits ++ blocksB bs)[14 + (blocksB (bs.take m)).length + 2]? = some (UInt8.ofNat y2) := by
 have hl := headL_length blk seed bits
 have hb := h bs[m] (List.getElem_mem _)
 have hsz : (entsB bs[m]).length < 65536 := by
  have h5 := entsB_le hb.ok
  have h6 := hb.most
  omega
 have hbl := blockB_length bs[m]
 have e : headL blk seed bits ++ blocksB bs = (headL blk seed bits ++ blocksB (bs.take m)) ++ (blockB bs[m] ++ blocksB (bs.drop (m + 1))) := by
  have h1 : bs = bs.take m ++ (bs[m] :: bs.drop (m + 1)) := by rw [<- List.drop_eq_getElem_cons hm,List.take_append_drop]
  have e0 : blocksB (bs.take m ++ (bs[m] :: bs.drop (m + 1))) = blocksB (bs.take m) ++ (blockB bs[m] ++ blocksB (bs.drop (m + 1))) := by unfold blocksB; rw [List.flatMap_append,List.flatMap_cons]
  rw [<- h1] at e0
  rw [e0,List.append_assoc]
 have ep : (headL blk seed bits ++ blocksB (bs.take m)).length = 14 + (blocksB (bs.take m)).length := by rw [List.length_append,hl]
 have eb : blockB bs[m] = lowL bs[m].length 1 ++ lowL (entsB bs[m]).length 2 ++ (entsB bs[m] ++ lowL (crcN (lowL bs[m].length 1 ++ lowL (entsB bs[m]).length 2 ++ entsB bs[m])) 4) := by simp [blockB,sealL]
 refine ⟨(entsB bs[m]).length % 256,(entsB bs[m]).length / 256,by omega,by omega,by omega,?_,?_,?_⟩
 ·rw [e,List.length_append,ep,List.length_append]
  omega
 ·rw [e,List.getElem?_append_right (by omega),ep,show 14 + (blocksB (bs.take m)).length + 1 - (14 + (blocksB (bs.take m)).length) = 1 by omega,List.getElem?_append_left (by omega),eb]
  simp [lowL]
 ·rw [e,List.getElem?_append_right (by omega),ep,show 14 + (blocksB (bs.take m)).length + 2 - (14 + (blocksB (bs.take m)).length) = 2 by omega,List.getElem?_append_left (by omega),eb]
  simp [lowL]
  rw [Nat.mod_eq_of_lt (by omega)]
end Go.Proofs.YtdhgebdbiehchaaGreatDoor
