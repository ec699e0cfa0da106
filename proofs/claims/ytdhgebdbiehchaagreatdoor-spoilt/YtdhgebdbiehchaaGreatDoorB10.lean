/- On the way: Wrote, Dk, Begun, DkOk, KpPure, KpPure2, KpPure3, SpPure, RefLook. -/
import Derived.Test.YtdhgebdbiehchaaGreatDoorB08
import Derived.Test.YtdhgebdbiehchaaGreatDoorB03
namespace Go.Proofs.YtdhgebdbiehchaaGreatDoor
open Go.RowKit
set_option linter.unusedSimpArgs false
set_option linter.unusedVariables false
def entB (e : Ent) : List UInt8 := (if e.put = true then 112 else 100) :: UInt8.ofNat e.key.length :: UInt8.ofNat e.val.length :: (e.key ++ e.val)
def entsB (es : List Ent) : List UInt8 := es.flatMap entB
def blockB (es : List Ent) : List UInt8 := sealL (lowL es.length 1 ++ lowL (entsB es).length 2 ++ entsB es)
def headL (blk seed bits : Nat) : List UInt8 := sealL ([76,71] ++ lowL blk 2 ++ lowL seed 4 ++ lowL bits 2)
def EntOk (e : Ent) : Prop := 1 <= e.key.length /\ e.key.length <= 20 /\ e.val.length <= 30 /\ (e.put = false -> e.val = [])
structure BlkOk (blk : Nat) (es : List Ent) : Prop where
 some : es ≠ []
 most : es.length <= 255
 ok : ∀ e ∈ es,EntOk e
 size : 1 < es.length -> (entsB es).length <= blk
theorem entB_length (e : Ent) : (entB e).length = 3 + e.key.length + e.val.length := by simp [entB]; omega
theorem entsB_snoc (es : List Ent) (e : Ent) : entsB (es ++ [e]) = entsB es ++ entB e := by simp [entsB]
theorem entsB_le {es : List Ent} (h : ∀ e ∈ es,EntOk e) : (entsB es).length <= 53 * es.length := by
 induction es with
 | nil => simp [entsB]
 | cons e es ih =>
  have h1 := h e (by simp)
  have h2 := ih (fun x hx => h x (by simp [hx]))
  have h3 : (entsB (e :: es)).length = (entB e).length + (entsB es).length := by simp [entsB]
  have := h1.2.1
  have := h1.2.2.1
  rw [h3,entB_length,List.length_cons]
  omega
theorem headL_length (blk seed bits : Nat) : (headL blk seed bits).length = 14 := by simp [headL,sealL_length,lowL_len]
theorem blockB_length (es : List Ent) : (blockB es).length = 7 + (entsB es).length := by simp [blockB,sealL_length,lowL_len]; omega
theorem ent1_back {e : Ent} (h : EntOk e) (post : List UInt8) : ent1 (entB e ++ post) = some (e,(entB e).length) := by
 obtain ⟨h1,h2,h3,h4⟩ := h
 obtain ⟨put,key,val⟩ := e
 simp only at h1 h2 h3 h4
 have e1 : (UInt8.ofNat key.length).toNat = key.length := by simp; omega
 have e2 : (UInt8.ofNat val.length).toNat = val.length := by simp; omega
 rw [entB_length]
 show ent1 ((if put = true then 112 else 100) :: UInt8.ofNat key.length :: UInt8.ofNat val.length :: (key ++ val ++ post)) = _
 rw [ent1,e1,e2,if_neg (by rw [List.length_append,List.length_append]; omega)]
 have t1 : (key ++ val ++ post).take key.length = key := by rw [List.append_assoc,List.take_append_of_le_length (by omega),List.take_of_length_le (by omega)]
 have t2 : ((key ++ val ++ post).drop key.length).take val.length = val := by rw [List.append_assoc,List.drop_left,List.take_append_of_le_length (by omega),List.take_of_length_le (by omega)]
 rw [t1,t2]
 cases put
 ·have hv : val = [] := h4 rfl
  subst hv
  rw [if_neg (by decide),if_pos (by exact ⟨by decide,rfl⟩)]
  simp
 ·rw [if_pos (by decide)]
theorem ents_back {es : List Ent} (h : ∀ e ∈ es,EntOk e) : ents (entsB es) = some es := by
 induction es with
 | nil => rfl
 | cons e es ih =>
  have h1 : entsB (e :: es) = entB e ++ entsB es := by simp [entsB]
  rw [h1,ents_some (ent1_back (h e (by simp)) _),List.drop_left,ih (fun x hx => h x (by simp [hx]))]
  rfl
theorem drop_pre {α : Type} (pre l : List α) (k j : Nat) (h : pre.length = k) : (pre ++ l).drop (k + j) = l.drop j := by
 rw [<- h,<- List.drop_drop,List.drop_left]
theorem block_size {es : List Ent} (pre post : List UInt8) (h : (entsB es).length < 65536) : blkSize (pre ++ (blockB es ++ post)) pre.length = (entsB es).length := by
 unfold blkSize
 rw [drop_pre _ _ _ _ rfl]
 have e : blockB es ++ post = lowL es.length 1 ++ (lowL (entsB es).length 2 ++ (entsB es ++ (lowL (crcN (lowL es.length 1 ++ lowL (entsB es).length 2 ++ entsB es)) 4 ++ post))) := by simp [blockB,sealL]
 rw [e,low_cut _ _ _ 1 2 (lowL_len _ _) (lowL_len _ _),highL_lowL _ _ (by omega)]
theorem block_back {blk : Nat} {es : List Ent} (h : BlkOk blk es) (pre post : List UInt8) (hp : 14 <= pre.length) : blockP (pre ++ (blockB es ++ post)) pre.length blk = some (es,(blockB es).length) := by
 have hle := entsB_le h.ok
 have hm := h.most
 have hs := block_size (es := es) pre post (by omega)
 have hl := blockB_length es
 have hlen : (pre ++ (blockB es ++ post)).length = pre.length + (7 + (entsB es).length + post.length) := by simp [hl]
 unfold blockP
 rw [hs,if_neg (by omega),if_neg (by omega)]
 have c1 : ((pre ++ (blockB es ++ post)).drop pre.length).take (7 + (entsB es).length) = blockB es := by
  rw [List.drop_left,List.take_append_of_le_length (by omega),List.take_of_length_le (by omega)]
 have c2 : ((pre ++ (blockB es ++ post)).drop (pre.length + 3)).take (entsB es).length = entsB es := by
  rw [drop_pre _ _ _ _ rfl]
  have e : blockB es ++ post = (lowL es.length 1 ++ lowL (entsB es).length 2) ++ (entsB es ++ (lowL (crcN (lowL es.length 1 ++ lowL (entsB es).length 2 ++ entsB es)) 4 ++ post)) := by simp [blockB,sealL]
  rw [e,low_cut _ _ _ 3 _ (by simp [lowL_len]) rfl]
 have c3 : ((pre ++ (blockB es ++ post)).getD pre.length 0).toNat = es.length := by
  rw [List.getD_eq_getElem?_getD,List.getElem?_append_right (Nat.le_refl _),Nat.sub_self]
  have e : blockB es ++ post = UInt8.ofNat (es.length % 256) :: (lowL (entsB es).length 2 ++ (entsB es ++ (lowL (crcN (lowL es.length 1 ++ lowL (entsB es).length 2 ++ entsB es)) 4 ++ post))) := by simp [blockB,sealL,lowL]
  rw [e]
  simp
  omega
 rw [c1,c2,c3,ents_back h.ok,show sealedB (blockB es) = true from sealL_sealed _]
 unfold blkTail
 have hn := h.some
 have hl0 : es.length ≠ 0 := fun e => hn (List.length_eq_zero_iff.1 e)
 simp only
 rw [if_neg (by
  rintro (h1 | h1 | ⟨h1,h2⟩)
  ·exact hl0 h1
  ·exact h1 rfl
  ·have := h.size h1
   omega),hl]
def blocksB (bs : List (List Ent)) : List UInt8 := bs.flatMap blockB
def sdsB : Nat -> List (List Ent) -> List Sd
 | _,[] => []
 | a,es :: bs => saids a 0 es ++ sdsB (a + (blockB es).length) bs
theorem blocksB_cons (es : List Ent) (bs : List (List Ent)) : blocksB (es :: bs) = blockB es ++ blocksB bs := by simp [blocksB]
theorem blocksB_snoc (es : List Ent) (bs : List (List Ent)) : blocksB (bs ++ [es]) = blocksB bs ++ blockB es := by simp [blocksB]
theorem read_back {blk : Nat} (bs : List (List Ent)) (h : ∀ es ∈ bs,BlkOk blk es) (pre rest : List UInt8) (hp : 14 <= pre.length) (hr : blockP (pre ++ (blocksB bs ++ rest)) (pre.length + (blocksB bs).length) blk = none) :
  readL (pre ++ (blocksB bs ++ rest)) blk pre.length = (sdsB pre.length bs,pre.length + (blocksB bs).length) := by
 induction bs generalizing pre with
 | nil => simp only [blocksB,List.flatMap_nil,List.length_nil,Nat.add_zero] at hr ⊢; exact readL_none hr
 | cons es bs ih =>
  have hb := h es (by simp)
  have e1 : pre ++ (blocksB (es :: bs) ++ rest) = pre ++ (blockB es ++ (blocksB bs ++ rest)) := by simp [blocksB_cons]
  have e2 : pre ++ (blocksB (es :: bs) ++ rest) = (pre ++ blockB es) ++ (blocksB bs ++ rest) := by simp [blocksB_cons]
  have e3 : pre.length + (blocksB (es :: bs)).length = (pre ++ blockB es).length + (blocksB bs).length := by simp [blocksB_cons]; omega
  have hbk := block_back hb pre (blocksB bs ++ rest) hp
  rw [<- e1] at hbk
  rw [readL_some hbk]
  have := ih (fun x hx => h x (by simp [hx])) (pre ++ blockB es) (by simp; omega) (by rw [<- e2,<- e3]; exact hr)
  rw [<- e2] at this
  rw [show pre.length + (blockB es).length = (pre ++ blockB es).length by simp,this,<- e3]
  rw [sdsB]
  simp
theorem head_back {blk seed bits : Nat} (h1 : 1 <= blk) (h2 : blk <= 400) (h3 : seed <= 4294967295) (h4 : bits <= 32) (post : List UInt8) :
  headB (headL blk seed bits ++ post) = true /\ hdBlk (headL blk seed bits ++ post) = blk /\ hdSeed (headL blk seed bits ++ post) = seed /\ hdBits (headL blk seed bits ++ post) = bits := by
 have la := lowL_len blk 2
 have lb := lowL_len seed 4
 have lc := lowL_len bits 2
 have e1 : headL blk seed bits ++ post = [76,71] ++ (lowL blk 2 ++ (lowL seed 4 ++ (lowL bits 2 ++ (lowL (crcN ([76,71] ++ lowL blk 2 ++ lowL seed 4 ++ lowL bits 2)) 4 ++ post)))) := by simp [headL,sealL]
 have f1 := low_cut [76,71] (lowL blk 2) (lowL seed 4 ++ (lowL bits 2 ++ (lowL (crcN ([76,71] ++ lowL blk 2 ++ lowL seed 4 ++ lowL bits 2)) 4 ++ post))) 2 2 rfl la
 have f2 := low_cut ([76,71] ++ lowL blk 2) (lowL seed 4) (lowL bits 2 ++ (lowL (crcN ([76,71] ++ lowL blk 2 ++ lowL seed 4 ++ lowL bits 2)) 4 ++ post)) 4 4 (by simp [la]) lb
 have f3 := low_cut ([76,71] ++ lowL blk 2 ++ lowL seed 4) (lowL bits 2) (lowL (crcN ([76,71] ++ lowL blk 2 ++ lowL seed 4 ++ lowL bits 2)) 4 ++ post) 8 2 (by simp [la,lb]) lc
 have g1 : hdBlk (headL blk seed bits ++ post) = blk := by unfold hdBlk; rw [e1,f1,highL_lowL _ _ (by omega)]
 have g2 : hdSeed (headL blk seed bits ++ post) = seed := by
  unfold hdSeed
  rw [e1,show ([76,71] ++ (lowL blk 2 ++ (lowL seed 4 ++ (lowL bits 2 ++ (lowL (crcN ([76,71] ++ lowL blk 2 ++ lowL seed 4 ++ lowL bits 2)) 4 ++ post))))) = ([76,71] ++ lowL blk 2 ++ (lowL seed 4 ++ (lowL bits 2 ++ (lowL (crcN ([76,71] ++ lowL blk 2 ++ lowL seed 4 ++ lowL bits 2)) 4 ++ post)))) by simp only [List.append_assoc],f2,highL_lowL _ _ (by omega)]
 have g3 : hdBits (headL blk seed bits ++ post) = bits := by
  unfold hdBits
  rw [e1,show ([76,71] ++ (lowL blk 2 ++ (lowL seed 4 ++ (lowL bits 2 ++ (lowL (crcN ([76,71] ++ lowL blk 2 ++ lowL seed 4 ++ lowL bits 2)) 4 ++ post))))) = ([76,71] ++ lowL blk 2 ++ lowL seed 4 ++ (lowL bits 2 ++ (lowL (crcN ([76,71] ++ lowL blk 2 ++ lowL seed 4 ++ lowL bits 2)) 4 ++ post))) by simp only [List.append_assoc],f3,highL_lowL _ _ (by omega)]
 refine ⟨?_,g1,g2,g3⟩
 have hl := headL_length blk seed bits
 have t1 : (headL blk seed bits ++ post).take 14 = headL blk seed bits := by rw [List.take_append_of_le_length (by omega),List.take_of_length_le (by omega)]
 have t2 : (headL blk seed bits ++ post).take 2 = [76,71] := by rw [e1]; rfl
 unfold headB wellB
 rw [g1,g2,g3,t1,t2,show sealedB (headL blk seed bits) = true from sealL_sealed _]
 simp
 omega
structure Fl where
 text : List UInt8
 sync : Nat
structure Dk where
 room : Nat
 down : Bool
 f0 : Option Fl
 f1 : Option Fl
 f2 : Option Fl
 left : Option (Nat × Nat)
 opn : Option Nat
 waits : List Ent
def Dk.file (d : Dk) (i : Nat) : Option Fl := if i = 0 then d.f0 else if i = 1 then d.f1 else if i = 2 then d.f2 else none
def Dk.put (d : Dk) (i : Nat) (f : Option Fl) : Dk := if i = 0 then { d with f0 := f } else if i = 1 then { d with f1 := f } else if i = 2 then { d with f2 := f } else d
def lenF (f : Option Fl) : Nat := match f with | none => 0 | some f => f.text.length
def Dk.used (d : Dk) : Nat := lenF d.f0 + lenF d.f1 + lenF d.f2
def Fl.fall (keep : Nat) (f : Fl) : Fl := ⟨f.text.take (f.sync + min keep (f.text.length - f.sync)),f.sync + min keep (f.text.length - f.sync)⟩
def Dk.falls (d : Dk) (keep : Nat) : Dk := { d with down := true,f0 := d.f0.map (Fl.fall keep),f1 := d.f1.map (Fl.fall keep),f2 := d.f2.map (Fl.fall keep),left := none,opn := none,waits := [] }
def Dk.count (d : Dk) : Bool × Dk := match d.left with
 | none => (true,d)
 | some (0,k) => (false,d.falls k)
 | some (n + 1,k) => (true,{ d with left := some (n,k) })
structure St where
 tag : Nat
 i : Nat
 n : Nat
 text : List UInt8
def stMake (i : Nat) : St := ⟨0,i,0,[]⟩
def stAppend (i : Nat) (t : List UInt8) : St := ⟨1,i,0,t⟩
def stSync (i : Nat) : St := ⟨3,i,0,[]⟩
def stRename (i j : Nat) : St := ⟨4,i,j,[]⟩
def Dk.take (d : Dk) (s : St) : Int × Dk :=
 if s.tag = 0 then (0,d.put s.i (some ⟨[],0⟩))
 else match d.file s.i with
 | none => (2,d)
 | some f =>
  if s.tag = 1 then (if d.room < d.used + s.text.length then (6,d) else (0,d.put s.i (some ⟨f.text ++ s.text,f.sync⟩)))
  else if s.tag = 2 then (0,d.put s.i (some ⟨f.text.take s.n,min f.sync (min s.n f.text.length)⟩))
  else if s.tag = 3 then (0,d.put s.i (some ⟨f.text,f.text.length⟩))
  else if s.tag = 4 then (0,(d.put s.i none).put s.n (some f))
  else (0,d.put s.i none)
def Dk.steps (d : Dk) : List St -> Int × Dk
 | [] => (0,d)
 | s :: ss => match d.count with
  | (false,d') => (8,d')
  | (true,d') => match d'.take s with
   | (e,d'') => if e = 0 then d''.steps ss else (e,d'')
def Dk.opens (d : Dk) (blk : Nat) : Dk := { d with opn := some blk,waits := [] }
def diskD (room : Int) : Option Dk := if room < 0 \/ 100000 < room then none else some ⟨room.toNat,false,none,none,none,none,none,[]⟩
def Dk.opening (d : Dk) (blk : Nat) (ss : List St) : Int × Dk := match d.steps ss with
 | (e,d') => if e = 0 then (0,d'.opens blk) else (e,d')
def Dk.create (d : Dk) (blk seed bits : Int) : Int × Dk :=
 if wellB blk seed bits = false then (1,d)
 else if d.down = true then (7,d)
 else if d.f0.isSome = true then (5,d)
 else d.opening blk.toNat [stMake 0,stAppend 0 (headL blk.toNat seed.toNat bits.toNat),stSync 0]
def Dk.write (d : Dk) : Int × Dk := match d.steps [stAppend 0 (blockB d.waits)] with
 | (e,d') => if e = 0 then (0,{ d' with waits := [] }) else (e,d')
def Dk.fits (d : Dk) (blk : Nat) (e : Ent) : Bool := d.waits.isEmpty || (decide (d.waits.length < 255) && decide ((entsB d.waits).length + (entB e).length <= blk))
def Dk.add (d : Dk) (e : Ent) : Int × Dk :=
 if e.key.length < 1 \/ 20 < e.key.length \/ 30 < e.val.length then (1,d)
 else if d.down = true then (7,d)
 else match d.opn with
 | none => (2,d)
 | some blk =>
  if d.fits blk e = true then (0,{ d with waits := d.waits ++ [e] })
  else match d.write with
  | (r,d') => if r = 0 then (0,{ d' with waits := d'.waits ++ [e] }) else (r,d')
def Dk.flush (d : Dk) : Int × Dk :=
 if d.down = true then (7,d)
 else match d.opn with
 | none => (2,d)
 | some _ =>
  if d.waits.isEmpty = true then d.steps [stSync 0]
  else match d.write with
  | (r,d') => if r = 0 then d'.steps [stSync 0] else (r,d')
def Dk.build (d : Dk) : Int × Dk :=
 if d.down = true then (7,d)
 else match d.f0 with
 | none => (2,d)
 | some f => match indexS f.text with
  | none => (3,d)
  | some ix => d.steps [stMake 1,stAppend 1 ix,stSync 1,stRename 1 2]
def Dk.both (d : Dk) : Option (List UInt8 × List UInt8) := match d.f0,d.f2 with
 | some f,some g => some (f.text,g.text)
 | _,_ => none
def saidE (log ix : List UInt8) : Int := if beginsE log ix ≠ 0 then beginsE log ix else if indexS log = some ix then 0 else 3
def Dk.all (d : Dk) (called : Bool) : List Sd × Int :=
 if d.down = true then ([],7)
 else match d.both with
 | none => ([],2)
 | some (log,ix) => if saidE log ix = 0 then (if called = true then [] else liveL (readL log (hdBlk log) 14).1,0) else ([],saidE log ix)
def Dk.fail (d : Dk) (steps keep : Int) : Int × Dk :=
 if steps < 0 \/ keep < 0 then (1,d)
 else if d.down = true then (7,d)
 else if steps = 0 then (0,d.falls keep.toNat)
 else (0,{ d with left := some (steps.toNat,keep.toNat) })
def Dk.start (d : Dk) : Int × Dk := if d.down = true then (0,{ d with down := false }) else (1,d)
def nameN (name : List UInt8) : Nat := if name = [108,111,103] then 0 else if name = [110,101,119] then 1 else if name = [105,110,100,101,120] then 2 else 3
def Dk.fileR (d : Dk) (name : List UInt8) : List UInt8 × Int :=
 if d.down = true then ([],7)
 else match d.file (nameN name) with
 | none => ([],2)
 | some f => (f.text,0)
structure DkOk (d : Dk) : Prop where
 room : d.room <= 100000
 used : d.used <= d.room
 sync : ∀ i f,d.file i = some f -> f.sync <= f.text.length
 opn : ∀ blk,d.opn = some blk -> d.f0.isSome = true /\ 1 <= blk /\ blk <= 400 /\ d.down = false
 waits : d.opn = none -> d.waits = []
 ents : ∀ e ∈ d.waits,EntOk e
 most : d.waits.length <= 255
 size : ∀ blk,d.opn = some blk -> 1 < d.waits.length -> (entsB d.waits).length <= blk

def StFine (s : St) : Prop := (s.tag = 4 -> s.i ≠ 0) /\ (s.tag = 5 -> s.i ≠ 0) /\ s.tag <= 5
theorem dk_cases (d : Dk) (i : Nat) (f : Option Fl) : (i = 0 /\ d.put i f = { d with f0 := f }) \/ (i = 1 /\ d.put i f = { d with f1 := f }) \/ (i = 2 /\ d.put i f = { d with f2 := f }) \/ (3 <= i /\ d.put i f = d) := by
 unfold Dk.put
 by_cases h0 : i = 0
 ·left; simp [h0]
 ·by_cases h1 : i = 1
  ·right; left; simp [h1]
  ·by_cases h2 : i = 2
   ·right; right; left; simp [h2]
   ·right; right; right; simp [h0,h1,h2]; omega
theorem file_put (d : Dk) (i j : Nat) (f : Option Fl) (hi : i <= 2) : (d.put i f).file j = if j = i then f else d.file j := by
 rcases dk_cases d i f with ⟨rfl,h⟩ | ⟨rfl,h⟩ | ⟨rfl,h⟩ | ⟨h3,_⟩
 ·rw [h]; unfold Dk.file; by_cases h0 : j = 0 <;> simp [h0]
 ·rw [h]; unfold Dk.file; by_cases h0 : j = 0 <;> by_cases h1 : j = 1 <;> simp [h0,h1]
 ·rw [h]; unfold Dk.file; by_cases h0 : j = 0 <;> by_cases h1 : j = 1 <;> by_cases h2 : j = 2 <;> simp [h0,h1,h2]
 ·omega
theorem file_le {d : Dk} {i : Nat} {f : Fl} (h : d.file i = some f) : i <= 2 := by
 unfold Dk.file at h
 split at h
 ·omega
 ·split at h
  ·omega
  ·split at h
   ·omega
   ·cases h
theorem used_put (d : Dk) (i : Nat) (f : Option Fl) (hi : i <= 2) : (d.put i f).used + lenF (d.file i) = d.used + lenF f := by
 rcases dk_cases d i f with ⟨rfl,h⟩ | ⟨rfl,h⟩ | ⟨rfl,h⟩ | ⟨h3,_⟩
 ·rw [h]; unfold Dk.used Dk.file; simp; omega
 ·rw [h]; unfold Dk.used Dk.file; simp; omega
 ·rw [h]; unfold Dk.used Dk.file; simp; omega
 ·omega
theorem put_same (d : Dk) (i : Nat) (f : Option Fl) : (d.put i f).room = d.room /\ (d.put i f).down = d.down /\ (d.put i f).left = d.left /\ (d.put i f).opn = d.opn /\ (d.put i f).waits = d.waits := by
 rcases dk_cases d i f with ⟨rfl,h⟩ | ⟨rfl,h⟩ | ⟨rfl,h⟩ | ⟨h3,h⟩ <;> rw [h] <;> exact ⟨rfl,rfl,rfl,rfl,rfl⟩
theorem file_0 (d : Dk) : d.file 0 = d.f0 := rfl
theorem file_2 (d : Dk) : d.file 2 = d.f2 := rfl
theorem file_1 (d : Dk) : d.file 1 = d.f1 := rfl
theorem DkOk.put {d : Dk} (h : DkOk d) {i : Nat} (hi : i <= 2) {f : Option Fl} (hu : lenF f + d.used <= d.room + lenF (d.file i)) (hs : ∀ g,f = some g -> g.sync <= g.text.length) (h0 : i = 0 -> f.isSome = true) : DkOk (d.put i f) := by
 obtain ⟨p1,p2,p3,p4,p5⟩ := put_same d i f
 have hup := used_put d i f hi
 refine ⟨by rw [p1]; exact h.room,by rw [p1]; omega,fun j g hj => ?_,fun blk hb => ?_,?_,?_,?_,?_⟩
 ·rw [file_put d i j f hi] at hj
  split at hj
  ·exact hs g hj
  ·exact h.sync j g hj
 ·rw [p4] at hb
  obtain ⟨a,b,c,e⟩ := h.opn blk hb
  refine ⟨?_,b,c,by rw [p2]; exact e⟩
  rw [<- file_0,file_put d i 0 f hi]
  split
  ·rename_i e0; exact h0 e0.symm
  ·exact a
 ·rw [p4,p5]; exact h.waits
 ·rw [p5]; exact h.ents
 ·rw [p5]; exact h.most
 ·rw [p4,p5]; exact h.size
theorem fall_len (k : Nat) (f : Option Fl) : lenF (f.map (Fl.fall k)) <= lenF f := by
 cases f with
 | none => exact Nat.le_refl _
 | some f => simp [lenF,Fl.fall]; omega
theorem DkOk.falls {d : Dk} (h : DkOk d) (k : Nat) : DkOk (d.falls k) := by
 have l0 := fall_len k d.f0
 have l1 := fall_len k d.f1
 have l2 := fall_len k d.f2
 have hu := h.used
 refine ⟨h.room,?_,fun i f hf => ?_,(fun blk hb => by cases hb),fun _ => rfl,(fun e he => by cases he),by simp [Dk.falls],(fun blk hb => by cases hb)⟩
 ·unfold Dk.used at hu ⊢
  show lenF (d.f0.map _) + lenF (d.f1.map _) + lenF (d.f2.map _) <= d.room
  omega
 ·have e : (d.falls k).file i = (d.file i).map (Fl.fall k) := by
   unfold Dk.file Dk.falls
   split
   ·rfl
   ·split
    ·rfl
    ·split
     ·rfl
     ·rfl
  rw [e] at hf
  cases hg : d.file i with
  | none => rw [hg] at hf; cases hf
  | some g =>
   rw [hg] at hf
   simp at hf
   have := h.sync i g hg
   subst hf
   simp [Fl.fall]
   omega
theorem DkOk.count {d : Dk} (h : DkOk d) : DkOk d.count.2 := by
 unfold Dk.count
 split
 ·exact h
 ·exact h.falls _
 ·exact ⟨h.room,h.used,h.sync,h.opn,h.waits,h.ents,h.most,h.size⟩
theorem DkOk.take {d : Dk} (h : DkOk d) {s : St} (hs : StFine s) : DkOk (d.take s).2 := by
 have hu := h.used
 unfold Dk.take
 split
 ·rename_i ht
  by_cases hi : s.i <= 2
  ·exact h.put hi (by simp [lenF]; omega) (fun g e => by cases e; exact Nat.le_refl _) (fun _ => rfl)
  ·rcases dk_cases d s.i (some ⟨[],0⟩) with ⟨e,_⟩ | ⟨e,_⟩ | ⟨e,_⟩ | ⟨_,e⟩
   ·omega
   ·omega
   ·omega
   ·show DkOk (d.put s.i (some ⟨[],0⟩))
    rw [e]; exact h
 ·split
  ·exact h
  ·rename_i f hf
   have hi := file_le hf
   have hsy := h.sync _ _ hf
   have hlf : lenF (d.file s.i) = f.text.length := by rw [hf]; rfl
   split
   ·split
    ·exact h
    ·exact h.put hi (by rw [hlf]; simp [lenF]; omega) (fun g e => by cases e; simp; omega) (fun _ => rfl)
   ·split
    ·exact h.put hi (by rw [hlf]; simp [lenF]; omega) (fun g e => by cases e; simp; omega) (fun _ => rfl)
    ·split
     ·exact h.put hi (by rw [hlf]; simp [lenF]; omega) (fun g e => by cases e; exact Nat.le_refl _) (fun _ => rfl)
     ·split
      ·rename_i ht
       have h1 : DkOk (d.put s.i none) := h.put hi (by simp [lenF]; omega) (fun g e => by cases e) (fun e => absurd e (hs.1 ht))
       have u1 := used_put d s.i none hi
       rw [hlf] at u1
       simp only [lenF] at u1
       by_cases hn : s.n <= 2
       ·obtain ⟨p1,_⟩ := put_same d s.i none
        exact h1.put hn (by rw [p1]; simp [lenF]; omega) (fun g e => by cases e; exact hsy) (fun _ => rfl)
       ·rcases dk_cases (d.put s.i none) s.n (some f) with ⟨e,_⟩ | ⟨e,_⟩ | ⟨e,_⟩ | ⟨_,e⟩
        ·omega
        ·omega
        ·omega
        ·show DkOk ((d.put s.i none).put s.n (some f))
         rw [e]; exact h1
      ·exact h.put hi (by simp [lenF]; omega) (fun g e => by cases e) (fun e => absurd e (hs.2.1 (by have := hs.2.2; omega)))
theorem DkOk.steps {d : Dk} (h : DkOk d) (ss : List St) (hs : ∀ s ∈ ss,StFine s) : DkOk (d.steps ss).2 := by
 induction ss generalizing d with
 | nil => exact h
 | cons s ss ih =>
  have hc := h.count
  rw [Dk.steps]
  split
  ·rename_i d' e; rw [e] at hc; exact hc
  ·rename_i d' e
   rw [e] at hc
   have ht := DkOk.take hc (hs s (by simp))
   simp only at ht
   cases hk : d'.take s with
   | mk r d'' =>
    rw [hk] at ht
    simp only at ht ⊢
    split
    ·exact ih ht (fun x hx => hs x (by simp [hx]))
    ·exact ht
theorem take_same {d : Dk} (s : St) : (d.take s).2.down = d.down /\ (d.take s).2.opn = d.opn /\ (d.take s).2.waits = d.waits /\ (d.take s).2.room = d.room /\ (d.take s).2.left = d.left := by
 unfold Dk.take
 split
 ·obtain ⟨p1,p2,p3,p4,p5⟩ := put_same d s.i (some ⟨[],0⟩); exact ⟨p2,p4,p5,p1,p3⟩
 ·split
  ·exact ⟨rfl,rfl,rfl,rfl,rfl⟩
  ·rename_i f _
   split
   ·split
    ·exact ⟨rfl,rfl,rfl,rfl,rfl⟩
    ·obtain ⟨p1,p2,p3,p4,p5⟩ := put_same d s.i (some ⟨f.text ++ s.text,f.sync⟩); exact ⟨p2,p4,p5,p1,p3⟩
   ·split
    ·obtain ⟨p1,p2,p3,p4,p5⟩ := put_same d s.i (some ⟨f.text.take s.n,min f.sync (min s.n f.text.length)⟩); exact ⟨p2,p4,p5,p1,p3⟩
    ·split
     ·obtain ⟨p1,p2,p3,p4,p5⟩ := put_same d s.i (some ⟨f.text,f.text.length⟩); exact ⟨p2,p4,p5,p1,p3⟩
     ·split
      ·obtain ⟨p1,p2,p3,p4,p5⟩ := put_same d s.i none
       obtain ⟨q1,q2,q3,q4,q5⟩ := put_same (d.put s.i none) s.n (some f)
       exact ⟨q2.trans p2,q4.trans p4,q5.trans p5,q1.trans p1,q3.trans p3⟩
      ·obtain ⟨p1,p2,p3,p4,p5⟩ := put_same d s.i none; exact ⟨p2,p4,p5,p1,p3⟩
theorem count_same {d : Dk} (h : d.count.1 = true) : d.count.2.down = d.down /\ d.count.2.opn = d.opn /\ d.count.2.waits = d.waits /\ d.count.2.room = d.room /\ d.count.2.f0 = d.f0 /\ d.count.2.f1 = d.f1 /\ d.count.2.f2 = d.f2 := by
 unfold Dk.count at h ⊢
 split at h
 ·exact ⟨rfl,rfl,rfl,rfl,rfl,rfl,rfl⟩
 ·cases h
 ·exact ⟨rfl,rfl,rfl,rfl,rfl,rfl,rfl⟩
theorem steps_same {d : Dk} (ss : List St) : ((d.steps ss).1 ≠ 8 -> (d.steps ss).2.down = d.down /\ (d.steps ss).2.opn = d.opn /\ (d.steps ss).2.waits = d.waits) /\ ((d.steps ss).1 = 8 -> (d.steps ss).2.down = true /\ (d.steps ss).2.opn = none /\ (d.steps ss).2.waits = []) := by
 induction ss generalizing d with
 | nil => exact ⟨fun _ => ⟨rfl,rfl,rfl⟩,fun h => by simp [Dk.steps] at h⟩
 | cons s ss ih =>
  rw [Dk.steps]
  cases hc : d.count with
  | mk b d' =>
   cases b with
   | false =>
    simp only
    refine ⟨fun h => absurd rfl h,fun _ => ?_⟩
    unfold Dk.count at hc
    split at hc
    ·cases hc
    ·cases hc; exact ⟨rfl,rfl,rfl⟩
    ·cases hc
   | true =>
    simp only
    have c := count_same (d := d) (by rw [hc])
    rw [hc] at c
    obtain ⟨c1,c2,c3,_⟩ := c
    obtain ⟨t1,t2,t3,_⟩ := take_same (d := d') s
    cases ht : d'.take s with
    | mk e d'' =>
     rw [ht] at t1 t2 t3
     simp only at *
     split
     ·obtain ⟨i1,i2⟩ := ih (d := d'')
      exact ⟨fun h => by obtain ⟨a,b,c⟩ := i1 h; exact ⟨a.trans (t1.trans c1),b.trans (t2.trans c2),c.trans (t3.trans c3)⟩,i2⟩
     ·refine ⟨fun _ => ⟨t1.trans c1,t2.trans c2,t3.trans c3⟩,fun h => ?_⟩
      exfalso
      simp only at h
      subst h
      have : (d'.take s).1 = 0 \/ (d'.take s).1 = 2 \/ (d'.take s).1 = 6 := by
       unfold Dk.take
       split
       ·exact .inl rfl
       ·split
        ·exact .inr (.inl rfl)
        ·split
         ·split
          ·exact .inr (.inr rfl)
          ·exact .inl rfl
         ·split
          ·exact .inl rfl
          ·split
           ·exact .inl rfl
           ·split
            ·exact .inl rfl
            ·exact .inl rfl
      rw [ht] at this
      simp at this
def kdk (blk seed bits : Nat) (bs : List (List Ent)) (sy : Nat) (f2 : Option Fl) (ws : List Ent) : Dk := ⟨100000,false,some ⟨headL blk seed bits ++ blocksB bs,sy⟩,none,f2,none,some blk,ws⟩
structure KOk (blk seed bits : Nat) (bs : List (List Ent)) (f2 : Option Fl) (ws : List Ent) (c : Nat) : Prop where
 hblk : 1 <= blk /\ blk <= 400
 hseed : seed <= 4294967295
 hbits : bits <= 32
 hbs : ∀ es ∈ bs,BlkOk blk es
 hws : ∀ e ∈ ws,EntOk e
 most : ws.length <= 255
 size : 1 < ws.length -> (entsB ws).length <= blk
 count : bs.flatten.length + ws.length <= c
 idx : lenF f2 <= 26000
theorem blocks_len {blk : Nat} {bs : List (List Ent)} (h : ∀ es ∈ bs,BlkOk blk es) : (blocksB bs).length <= 60 * bs.flatten.length := by
 induction bs with
 | nil => simp [blocksB]
 | cons es bs ih =>
  have h1 := h es (by simp)
  have h2 := ih (fun x hx => h x (by simp [hx]))
  have h3 := entsB_le h1.ok
  have h4 : 1 <= es.length := by
   have := h1.some
   cases es with
   | nil => exact absurd rfl this
   | cons a l => simp
  rw [blocksB_cons,List.length_append,blockB_length,List.flatten_cons,List.length_append]
  omega
theorem KOk.text {blk seed bits : Nat} {bs : List (List Ent)} {f2 : Option Fl} {ws : List Ent} {c : Nat} (h : KOk blk seed bits bs f2 ws c) : (headL blk seed bits ++ blocksB bs).length <= 14 + 60 * c := by
 have h1 := blocks_len h.hbs
 have h2 := h.count
 rw [List.length_append,headL_length]
 omega
theorem KOk.block {blk seed bits : Nat} {bs : List (List Ent)} {f2 : Option Fl} {ws : List Ent} {c : Nat} (h : KOk blk seed bits bs f2 ws c) (hw : ws ≠ []) : BlkOk blk ws := ⟨hw,h.most,h.hws,h.size⟩
theorem kdk_used (blk seed bits : Nat) (bs : List (List Ent)) (sy : Nat) (f2 : Option Fl) (ws : List Ent) : (kdk blk seed bits bs sy f2 ws).used = (headL blk seed bits ++ blocksB bs).length + lenF f2 := by
 show lenF (some _) + lenF none + lenF f2 = _
 simp [lenF]
theorem k_append {blk seed bits : Nat} {bs : List (List Ent)} {sy : Nat} {f2 : Option Fl} {ws : List Ent} {c : Nat} (h : KOk blk seed bits bs f2 ws c) (hc : c <= 1000) (hw : ws ≠ []) : (kdk blk seed bits bs sy f2 ws).steps [stAppend 0 (blockB ws)] = (0,kdk blk seed bits (bs ++ [ws]) sy f2 ws) := by
 have h1 := h.text
 have h2 := h.idx
 have h3 := entsB_le h.hws
 have h4 := h.most
 have hr : ¬ (kdk blk seed bits bs sy f2 ws).room < (kdk blk seed bits bs sy f2 ws).used + (blockB ws).length := by
  rw [kdk_used,blockB_length]
  show ¬ 100000 < _
  omega
 show (match (kdk blk seed bits bs sy f2 ws).take (stAppend 0 (blockB ws)) with | (e,d'') => if e = 0 then d''.steps [] else (e,d'')) = _
 have e : (kdk blk seed bits bs sy f2 ws).take (stAppend 0 (blockB ws)) = (0,kdk blk seed bits (bs ++ [ws]) sy f2 ws) := by
  show (if (kdk blk seed bits bs sy f2 ws).room < (kdk blk seed bits bs sy f2 ws).used + (blockB ws).length then _ else (0,(kdk blk seed bits bs sy f2 ws).put 0 (some ⟨(headL blk seed bits ++ blocksB bs) ++ blockB ws,sy⟩))) = _
  rw [if_neg hr,List.append_assoc,<- blocksB_snoc]
  rfl
 rw [e]
 rfl
theorem KOk.wrote {blk seed bits : Nat} {bs : List (List Ent)} {f2 : Option Fl} {ws : List Ent} {c : Nat} (h : KOk blk seed bits bs f2 ws c) (hw : ws ≠ []) : KOk blk seed bits (bs ++ [ws]) f2 [] c :=
 ⟨h.hblk,h.hseed,h.hbits,fun es hes => by
  rcases List.mem_append.1 hes with hes | hes
  ·exact h.hbs es hes
  ·rw [List.mem_singleton.1 hes]; exact h.block hw,fun e he => by simp at he,by simp,by simp,by have := h.count; simp at this ⊢; omega,h.idx⟩
theorem k_write {blk seed bits : Nat} {bs : List (List Ent)} {sy : Nat} {f2 : Option Fl} {ws : List Ent} {c : Nat} (h : KOk blk seed bits bs f2 ws c) (hc : c <= 1000) (hw : ws ≠ []) : (kdk blk seed bits bs sy f2 ws).write = (0,kdk blk seed bits (bs ++ [ws]) sy f2 []) := by
 unfold Dk.write
 rw [show (kdk blk seed bits bs sy f2 ws).waits = ws from rfl,k_append h hc hw]
 rfl
theorem k_add {blk seed bits : Nat} {bs : List (List Ent)} {sy : Nat} {f2 : Option Fl} {ws : List Ent} {c : Nat} (h : KOk blk seed bits bs f2 ws c) (hc : c <= 1000) {e : Ent} (he : EntOk e) :
  ∃ bs' ws',(kdk blk seed bits bs sy f2 ws).add e = (0,kdk blk seed bits bs' sy f2 ws') /\ KOk blk seed bits bs' f2 ws' (c + 1) /\ (blocksB bs).length <= (blocksB bs').length /\ bs'.flatten ++ ws' = bs.flatten ++ ws ++ [e] := by
 unfold Dk.add
 rw [if_neg (by have := he.1; have := he.2.1; have := he.2.2.1; omega),if_neg (by show ¬ false = true; simp)]
 rw [show (kdk blk seed bits bs sy f2 ws).opn = some blk from rfl]
 dsimp only
 by_cases hf : (kdk blk seed bits bs sy f2 ws).fits blk e = true
 ·rw [if_pos hf]
  refine ⟨bs,ws ++ [e],rfl,⟨h.hblk,h.hseed,h.hbits,h.hbs,?_,?_,?_,?_,h.idx⟩,Nat.le_refl _,by simp⟩
  ·intro x hx
   rcases List.mem_append.1 hx with hx | hx
   ·exact h.hws x hx
   ·rw [List.mem_singleton.1 hx]; exact he
  ·unfold Dk.fits at hf
   rcases Bool.or_eq_true _ _ ▸ hf with hf | hf
   ·have : ws = [] := List.isEmpty_iff.1 hf
    subst this; simp
   ·have := (Bool.and_eq_true _ _ ▸ hf).1
    have := of_decide_eq_true this
    show (ws ++ [e]).length <= 255
    rw [List.length_append]
    have : ws.length < 255 := this
    simp; omega
  ·intro h1
   unfold Dk.fits at hf
   rcases Bool.or_eq_true _ _ ▸ hf with hf | hf
   ·have : ws = [] := List.isEmpty_iff.1 hf
    subst this; simp at h1
   ·have := (Bool.and_eq_true _ _ ▸ hf).2
    have := of_decide_eq_true this
    rw [entsB_snoc,List.length_append]
    exact this
  ·have := h.count
   simp at this ⊢
   omega
 ·rw [if_neg hf]
  have hw : ws ≠ [] := by
   rintro rfl
   exact hf rfl
  rw [k_write h hc hw]
  refine ⟨bs ++ [ws],[e],rfl,⟨h.hblk,h.hseed,h.hbits,(h.wrote hw).hbs,fun x hx => ?_,by simp,by simp,?_,h.idx⟩,by rw [blocksB_snoc,List.length_append]; omega,by simp⟩
  ·rw [List.mem_singleton.1 hx]; exact he
  ·have := h.count
   simp at this ⊢
   omega
theorem k_flush {blk seed bits : Nat} {bs : List (List Ent)} {sy : Nat} {f2 : Option Fl} {ws : List Ent} {c : Nat} (h : KOk blk seed bits bs f2 ws c) (hc : c <= 1000) :
  ∃ bs' sy',(kdk blk seed bits bs sy f2 ws).flush = (0,kdk blk seed bits bs' sy' f2 []) /\ KOk blk seed bits bs' f2 [] c /\ sy' <= (headL blk seed bits ++ blocksB bs').length /\ bs'.flatten = bs.flatten ++ ws := by
 unfold Dk.flush
 rw [if_neg (by show ¬ false = true; simp)]
 show ∃ bs' sy',(if ws.isEmpty = true then (kdk blk seed bits bs sy f2 ws).steps [stSync 0] else _) = _ /\ _
 by_cases hw : ws = []
 ·subst hw
  rw [if_pos (show ([] : List Ent).isEmpty = true from rfl)]
  exact ⟨bs,_,rfl,h,Nat.le_refl _,by simp⟩
 ·rw [if_neg (by rw [List.isEmpty_iff]; exact hw),k_write h hc hw]
  exact ⟨bs ++ [ws],_,rfl,h.wrote hw,Nat.le_refl _,by simp⟩
def pkv (x : Sd) : Bool × List UInt8 × List UInt8 := (x.put,x.key,x.val)
def kv (x : Sd) : List UInt8 × List UInt8 := (x.key,x.val)
def entS (e : Ent) : Sd := ⟨e.put,e.key,e.val,0,0⟩
def heldS (es : List Ent) : List Sd := liveL (es.map entS)
theorem heldS_snoc (es : List Ent) (e : Ent) : heldS (es ++ [e]) = (heldS es).filter (fun y => decide (y.key ≠ e.key)) ++ (if e.put = true then [entS e] else []) := by
 unfold heldS
 rw [List.map_append,List.map_singleton,liveL_snoc]
 rfl
theorem saids_pkv (a i : Nat) (es : List Ent) : (saids a i es).map pkv = (es.map entS).map pkv := by
 induction es generalizing i with
 | nil => rfl
 | cons e es ih => simp only [saids,List.map_cons,ih]; rfl
theorem sds_pkv (a : Nat) (bs : List (List Ent)) : (sdsB a bs).map pkv = (bs.flatten.map entS).map pkv := by
 induction bs generalizing a with
 | nil => rfl
 | cons es bs ih => rw [sdsB,List.map_append,saids_pkv,ih,List.flatten_cons,List.map_append,List.map_append]
theorem sds_length (a : Nat) (bs : List (List Ent)) : (sdsB a bs).length = bs.flatten.length := by
 have := congrArg List.length (sds_pkv a bs)
 rw [List.length_map,List.length_map,List.length_map] at this
 exact this
theorem k_read {blk seed bits : Nat} {bs : List (List Ent)} {f2 : Option Fl} {ws : List Ent} {c : Nat} (h : KOk blk seed bits bs f2 ws c) :
  readL (headL blk seed bits ++ blocksB bs) (blk : Int) 14 = (sdsB 14 bs,(headL blk seed bits ++ blocksB bs).length) := by
 have hl := headL_length blk seed bits
 have := read_back bs h.hbs (headL blk seed bits) [] (by omega) (by
  rw [List.append_nil]
  cases hb : blockP (headL blk seed bits ++ blocksB bs) ((headL blk seed bits).length + (blocksB bs).length) (blk : Int) with
  | none => rfl
  | some r =>
   obtain ⟨es,k⟩ := r
   have := blockP_some hb
   simp at this
   omega)
 rw [List.append_nil,hl] at this
 rw [this]
 simp [hl]
theorem size_200 {n : Nat} (h : n <= 1000) : sizeL n <= 2500 := sizeF_bound 12 n 4 2500 (by omega) (by omega)
theorem k_index {blk seed bits : Nat} {bs : List (List Ent)} {f2 : Option Fl} {ws : List Ent} {c : Nat} (h : KOk blk seed bits bs f2 ws c) (hc : c <= 1000) :
  ∃ ix,indexS (headL blk seed bits ++ blocksB bs) = some ix /\ ix.length <= 26000 /\ 24 <= ix.length := by
 have hb := head_back h.hblk.1 h.hblk.2 h.hseed h.hbits (blocksB bs)
 have hl := h.text
 have hr := k_read h
 have h1 := liveL_le (sdsB 14 bs)
 have h2 := sds_length 14 bs
 have h3 := h.count
 refine ⟨indexB (headL blk seed bits ++ blocksB bs) seed bits (liveL (sdsB 14 bs)),?_,?_,?_⟩
 ·unfold indexS
  rw [if_neg (by omega),if_neg (by rw [hb.1]; simp),hb.2.1,hr,if_neg (by simp),if_neg (by show ¬ 2000 < (liveL (sdsB 14 bs)).length; omega),hb.2.2.1,hb.2.2.2]
 all_goals
  have hz := size_200 (n := (liveL (sdsB 14 bs)).length) (by omega)
  unfold indexB
  rw [List.length_append,sealL_length,sealL_length,frontB_length,tabB_length]
  have : (tableOf (seed : Int) (bits : Int) (liveL (sdsB 14 bs))).length = sizeL (liveL (sdsB 14 bs)).length := fillL_length _ _
  rw [this]
  omega
theorem k_begun {blk seed bits : Nat} (h1 : 1 <= blk) (h2 : blk <= 400) (h3 : seed <= 4294967295) (h4 : bits <= 32) :
  (⟨100000,false,none,none,none,none,none,[]⟩ : Dk).create blk seed bits = (0,kdk blk seed bits [] 14 none []) /\ KOk blk seed bits [] none [] 0 := by
 refine ⟨?_,⟨h1,h2⟩,h3,h4,by simp,by simp,by simp,by simp,by simp,by simp [lenF]⟩
 have hw : wellB (blk : Int) (seed : Int) (bits : Int) = true := by unfold wellB; simp; omega
 have hl := headL_length blk seed bits
 unfold Dk.create
 rw [if_neg (by rw [hw]; simp),if_neg (by simp),if_neg (by simp)]
 show Dk.opening _ blk [stMake 0,stAppend 0 (headL blk seed bits),stSync 0] = _
 unfold Dk.opening
 have e : (⟨100000,false,none,none,none,none,none,[]⟩ : Dk).steps [stMake 0,stAppend 0 (headL blk seed bits),stSync 0] = (0,⟨100000,false,some ⟨headL blk seed bits,14⟩,none,none,none,none,[]⟩) := by
  show (match (⟨100000,false,some ⟨[],0⟩,none,none,none,none,[]⟩ : Dk).take (stAppend 0 (headL blk seed bits)) with | (e,d'') => if e = 0 then d''.steps [stSync 0] else (e,d'')) = _
  have e2 : (⟨100000,false,some ⟨[],0⟩,none,none,none,none,[]⟩ : Dk).take (stAppend 0 (headL blk seed bits)) = (0,⟨100000,false,some ⟨headL blk seed bits,0⟩,none,none,none,none,[]⟩) := by
   show (if (100000 : Nat) < 0 + 0 + 0 + (headL blk seed bits).length then ((6 : Int),(⟨100000,false,some ⟨[],0⟩,none,none,none,none,[]⟩ : Dk)) else ((0 : Int),(⟨100000,false,some ⟨[],0⟩,none,none,none,none,[]⟩ : Dk).put 0 (some ⟨[] ++ headL blk seed bits,0⟩))) = _
   rw [if_neg (by omega)]
   rfl
  rw [e2]
  show ((0 : Int),(⟨100000,false,some ⟨headL blk seed bits,(headL blk seed bits).length⟩,none,none,none,none,[]⟩ : Dk)) = _
  rw [hl]
 rw [e]
 show ((0 : Int),(⟨100000,false,some ⟨headL blk seed bits,14⟩,none,none,none,some blk,[]⟩ : Dk)) = _
 unfold kdk
 rw [show blocksB [] = [] from rfl,List.append_nil]
def turnL (l : List UInt8) (p : Nat) : List UInt8 := l.set (p / 8) (l.getD (p / 8) 0 ^^^ UInt8.ofNat (2 ^ (p % 8)))
theorem turnL_length (l : List UInt8) (p : Nat) : (turnL l p).length = l.length := by simp [turnL]
theorem turnL_high {l : List UInt8} {p : Nat} (h : p / 8 < l.length) : highL (turnL l p) = highL l ^^^ 2 ^ p := by
 unfold turnL
 rw [List.getD_eq_getElem?_getD,List.getElem?_eq_getElem h]
 exact highL_turn l p h
theorem turnL_mid (pre mid post : List UInt8) (q : Nat) (h : q / 8 < mid.length) : turnL (pre ++ (mid ++ post)) (8 * pre.length + q) = pre ++ (turnL mid q ++ post) := by
 have e1 : (8 * pre.length + q) / 8 = pre.length + q / 8 := by omega
 have e2 : (8 * pre.length + q) % 8 = q % 8 := by omega
 unfold turnL
 rw [e1,e2,List.getD_eq_getElem?_getD,List.getElem?_append_right (by omega),Nat.add_sub_cancel_left,List.getElem?_append_left h,List.set_append_right _ _ (by omega),Nat.add_sub_cancel_left,List.set_append_left _ _ h]
 rw [List.getD_eq_getElem?_getD]
def Sp (pre mid post : List UInt8) (q i : Nat) (B : List UInt8) : Prop := ∃ mid' W,B = pre ++ (mid' ++ post) /\ mid'.length = mid.length /\ highL mid ^^^ highL mid' = 2 ^ q * W /\ 0 < W /\ W < 2 ^ i
theorem Sp.first {pre mid post : List UInt8} {q : Nat} (h : q / 8 < mid.length) : Sp pre mid post q 1 (turnL (pre ++ (mid ++ post)) (8 * pre.length + q)) := by
 refine ⟨turnL mid q,1,turnL_mid pre mid post q h,turnL_length _ _,?_,by omega,by omega⟩
 rw [turnL_high h,<- Nat.xor_assoc,Nat.xor_self,Nat.zero_xor,Nat.mul_one]
theorem Sp.next {pre mid post B : List UInt8} {q i : Nat} (h : Sp pre mid post q i B) : Sp pre mid post q (i + 1) B := by
 obtain ⟨m,W,h1,h2,h3,h4,h5⟩ := h
 exact ⟨m,W,h1,h2,h3,h4,by rw [Nat.pow_succ]; omega⟩
theorem Sp.turn {pre mid post B : List UInt8} {q i : Nat} (h : Sp pre mid post q i B) (hq : (q + i) / 8 < mid.length) : Sp pre mid post q (i + 1) (turnL B (8 * pre.length + (q + i))) := by
 obtain ⟨m,W,rfl,h2,h3,h4,h5⟩ := h
 refine ⟨turnL m (q + i),W + 2 ^ i,turnL_mid pre m post (q + i) (by omega),by rw [turnL_length,h2],?_,by omega,by rw [Nat.pow_succ]; omega⟩
 rw [turnL_high (by omega),<- Nat.xor_assoc,h3,turn_next h5]
theorem Sp.length {pre mid post B : List UInt8} {q i : Nat} (h : Sp pre mid post q i B) : B.length = (pre ++ (mid ++ post)).length := by
 obtain ⟨m,W,rfl,h2,_⟩ := h
 simp [h2]
theorem high_front (pre x y : List UInt8) : highL (pre ++ x) ^^^ highL (pre ++ y) = 2 ^ (8 * pre.length) * (highL x ^^^ highL y) := by
 induction pre with
 | nil => simp
 | cons b pre ih =>
  have e : ∀ c d : Nat,(b.toNat ^^^ (256 * c)) ^^^ (b.toNat ^^^ (256 * d)) = 256 * (c ^^^ d) := fun c d => by
   rw [Nat.xor_comm b.toNat (256 * d),<- Nat.xor_assoc,Nat.xor_comm (b.toNat ^^^ 256 * c) (256 * d),Nat.xor_comm b.toNat (256 * c),Nat.xor_assoc (256 * d),Nat.xor_comm (256 * d)]
   rw [Nat.xor_assoc (256 * c),Nat.xor_assoc,Nat.xor_self,Nat.zero_xor,show (256 : Nat) = 2 ^ 8 from rfl]
   simp only [Nat.mul_comm (2 ^ 8),<- Nat.shiftLeft_eq]
   rw [Nat.shiftLeft_xor_distrib]
  rw [List.cons_append,List.cons_append,highL_cons_xor,highL_cons_xor,e,ih,List.length_cons,show 8 * (pre.length + 1) = 8 + 8 * pre.length by omega,Nat.pow_add,Nat.mul_assoc]
theorem Sp.unsealed {pre three mid post B : List UInt8} {q i : Nat} (h : Sp (pre ++ three) mid post q i B) (hi : i <= 32) (hs : sealedB (three ++ mid) = true) : ∃ m,B = pre ++ ((three ++ m) ++ post) /\ m.length = mid.length /\ sealedB (three ++ m) = false := by
 obtain ⟨m,W,rfl,h2,h3,h4,h5⟩ := h
 refine ⟨m,by simp,h2,?_⟩
 refine burst (l := three ++ mid) (by simp [h2]) (q := 8 * three.length + q) (W := W) ?_ h4 (Nat.lt_of_lt_of_le h5 (Nat.le_trans (Nat.pow_le_pow_right (by omega) hi) (by decide))) hs
 rw [high_front,h3,Nat.pow_add,Nat.mul_assoc]
theorem spoilt_head {blk seed bits : Nat} {bs : List (List Ent)} {q i : Nat} {B : List UInt8} (h : Sp [] (headL blk seed bits) (blocksB bs) q i B) (hi : i <= 32) : indexS B = none := by
 obtain ⟨m,rfl,h2,h3⟩ := Sp.unsealed (pre := []) (three := []) (by simpa using h) hi (by rw [List.nil_append]; exact sealL_sealed _)
 simp only [List.nil_append] at h3 ⊢
 rw [headL_length] at h2
 have : headB (m ++ blocksB bs) = false := by
  unfold headB
  rw [List.take_append_of_le_length (by omega),List.take_of_length_le (by omega),h3]
  simp
 unfold indexS
 rw [if_pos this]
 split <;> rfl
theorem spoilt_block {blk seed bits : Nat} {b1 b2 : List (List Ent)} {es : List Ent} {q i : Nat} {B : List UInt8} (h1 : 1 <= blk) (h2 : blk <= 400) (h3 : seed <= 4294967295) (h4 : bits <= 32) (hb1 : ∀ e ∈ b1,BlkOk blk e) (hes : BlkOk blk es)
  (h : Sp (headL blk seed bits ++ blocksB b1 ++ (blockB es).take 3) ((blockB es).drop 3) (blocksB b2) q i B) (hi : i <= 32) : indexS B = none := by
 have hl := headL_length blk seed bits
 have hbl := blockB_length es
 have he3 : (blockB es).take 3 ++ (blockB es).drop 3 = blockB es := List.take_append_drop 3 _
 obtain ⟨m,rfl,hm,hs⟩ := Sp.unsealed (pre := headL blk seed bits ++ blocksB b1) (three := (blockB es).take 3) h hi (by rw [he3]; exact sealL_sealed _)
 have hml : m.length = (blockB es).length - 3 := by rw [hm,List.length_drop]
 have h3l : ((blockB es).take 3).length = 3 := by rw [List.length_take]; omega
 have hsz : (entsB es).length < 65536 := by
  have h5 := entsB_le hes.ok
  have h6 := hes.most
  omega
 have hend : blockP (headL blk seed bits ++ (blocksB b1 ++ (((blockB es).take 3 ++ m) ++ blocksB b2))) ((headL blk seed bits).length + (blocksB b1).length) (blk : Int) = none := by
  have e0 : headL blk seed bits ++ (blocksB b1 ++ (((blockB es).take 3 ++ m) ++ blocksB b2)) = (headL blk seed bits ++ blocksB b1) ++ ((blockB es).take 3 ++ (m ++ blocksB b2)) := by simp
  have ea : (headL blk seed bits).length + (blocksB b1).length = (headL blk seed bits ++ blocksB b1).length := by simp
  have hsize : blkSize (headL blk seed bits ++ (blocksB b1 ++ (((blockB es).take 3 ++ m) ++ blocksB b2))) ((headL blk seed bits).length + (blocksB b1).length) = (entsB es).length := by
   have h7 := block_size (es := es) (headL blk seed bits ++ blocksB b1) [] hsz
   unfold blkSize at h7 ⊢
   rw [e0,ea,drop_pre _ _ _ 1 rfl]
   rw [drop_pre _ _ _ 1 rfl,List.append_nil] at h7
   rw [<- h7]
   have e7 : ((blockB es).drop 1).take 2 = (((blockB es).take 3).drop 1) := by rw [List.drop_take]
   rw [e7,List.drop_append_of_le_length (by omega),List.take_append_of_le_length (by simp [h3l]),List.take_of_length_le (by simp [h3l])]
  unfold blockP
  split
  ·rfl
  ·rw [hsize]
   split
   ·rfl
   ·have hcut : ((headL blk seed bits ++ (blocksB b1 ++ (((blockB es).take 3 ++ m) ++ blocksB b2))).drop ((headL blk seed bits).length + (blocksB b1).length)).take (7 + (entsB es).length) = (blockB es).take 3 ++ m := by
     rw [e0,ea,List.drop_left,<- List.append_assoc,List.take_append_of_le_length (by simp [h3l,hml]; omega),List.take_of_length_le (by simp [h3l,hml]; omega)]
    rw [hcut,hs]
    rfl
 have hr := read_back b1 hb1 (headL blk seed bits) (((blockB es).take 3 ++ m) ++ blocksB b2) (by omega) hend
 have e1 : headL blk seed bits ++ blocksB b1 ++ ((blockB es).take 3 ++ m ++ blocksB b2) = headL blk seed bits ++ (blocksB b1 ++ (((blockB es).take 3 ++ m) ++ blocksB b2)) := by simp
 rw [e1]
 have hb := head_back h1 h2 h3 h4 (blocksB b1 ++ (((blockB es).take 3 ++ m) ++ blocksB b2))
 rw [hl] at hr
 unfold indexS
 split
 ·rfl
 ·rw [if_neg (by rw [hb.1]; simp),hb.2.1,hr,if_pos]
  simp [h3l]
  omega

end Go.Proofs.YtdhgebdbiehchaaGreatDoor
