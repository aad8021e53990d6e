/- Tables as numbers, numbers as bytes: plain. Tables: what is written, what is read, which may be: plain. Which tables may be, part by part: plain. Texts, broken: what a table's machines tell, by numbers: plain. The cuts and letters of the law's tables: plain. -/
import Derived.IntWalk
set_option linter.unusedVariables false
set_option linter.unusedSimpArgs false
namespace Go.Proofs.Ytacgakkcpmhgmaa
open Go
def wr64 (z : Int) : Int := (z + 9223372036854775808) % 18446744073709551616 - 9223372036854775808
def Int64 (z : Int) : Prop := -9223372036854775808 <= z /\ z <= 9223372036854775807
def ByteI (b : Int) : Prop := 0 <= b /\ b < 256
theorem wr64_of {z : Int} (h : Int64 z) : wr64 z = z := by obtain ⟨h1, h2⟩ := h; unfold wr64; omega
theorem wr64_in (z : Int) : Int64 (wr64 z) := by unfold Int64 wr64; omega
def be8 (n : Int) : List Int := [n / 72057594037927936 % 256, n / 281474976710656 % 256, n / 1099511627776 % 256, n / 4294967296 % 256, n / 16777216 % 256, n / 65536 % 256, n / 256 % 256, n % 256]
def un8 (l : List Int) : Int := l.foldl (fun a b => wr64 (a * 256 + b)) 0
theorem be8_len (n : Int) : (be8 n).length = 8 := rfl
theorem be8_byte (n : Int) : ∀ b ∈ be8 n, ByteI b := by
 intro b hb
 simp only [be8, List.mem_cons, List.not_mem_nil, or_false] at hb
 unfold ByteI
 rcases hb with h | h | h | h | h | h | h | h <;> omega
theorem un8_in (l : List Int) (h : 0 < l.length) : Int64 (un8 l) := by
 unfold un8
 have : ∀ (l : List Int) (a : Int), Int64 a \/ 0 < l.length -> Int64 (l.foldl (fun a b => wr64 (a * 256 + b)) a) := by
  intro l
  induction l with
  | nil => intro a h; rcases h with h | h; exact h; simp at h
  | cons x l ih => intro a _; exact ih _ (.inl (wr64_in _))
 exact this l 0 (.inr h)
theorem un8_eight (a b c d e f g h : Int) : un8 [a, b, c, d, e, f, g, h] = wr64 (a * 72057594037927936 + b * 281474976710656 + c * 1099511627776 + d * 4294967296 + e * 16777216 + f * 65536 + g * 256 + h) := by
 simp only [un8, List.foldl]
 unfold wr64
 omega
theorem un8_be8 {n : Int} (h : Int64 n) : un8 (be8 n) = n := by
 unfold be8
 rw [un8_eight]
 obtain ⟨h1, h2⟩ := h
 unfold wr64
 omega
theorem be8_un8 {l : List Int} (hl : l.length = 8) (hb : ∀ b ∈ l, ByteI b) : be8 (un8 l) = l := by
 match l, hl with
 | [a, b, c, d, e, f, g, h], _ =>
   have ha := hb a (by simp); have hb' := hb b (by simp); have hc := hb c (by simp); have hd := hb d (by simp); have he := hb e (by simp); have hf := hb f (by simp); have hg := hb g (by simp); have hh := hb h (by simp)
   unfold ByteI at ha hb' hc hd he hf hg hh
   rw [un8_eight]
   unfold be8 wr64
   simp only [List.cons.injEq, and_true]
   refine ⟨?_, ?_, ?_, ?_, ?_, ?_, ?_, ?_⟩ <;> omega
def bytesN (L : List Int) : List Int := L.flatMap be8
def numsK : Nat -> List Int -> List Int
 | 0, _ => []
 | k + 1, l => un8 (l.take 8) :: numsK k (l.drop 8)
def numsB (b : List Int) : List Int := numsK (b.length / 8) b
theorem bytesN_len (L : List Int) : (bytesN L).length = L.length * 8 := by
 induction L with
 | nil => rfl
 | cons a L ih => simp only [bytesN, List.flatMap_cons, List.length_append, be8_len, List.length_cons] at ih ⊢; omega
theorem bytesN_app (L M : List Int) : bytesN (L ++ M) = bytesN L ++ bytesN M := by simp [bytesN]
theorem bytesN_cons (a : Int) (L : List Int) : bytesN (a :: L) = be8 a ++ bytesN L := rfl
theorem bytesN_byte (L : List Int) : ∀ b ∈ bytesN L, ByteI b := by
 intro b hb
 obtain ⟨n, _, hn⟩ := List.mem_flatMap.1 hb
 exact be8_byte n b hn
theorem numsK_len (k : Nat) (l : List Int) : (numsK k l).length = k := by
 induction k generalizing l with
 | zero => rfl
 | succ k ih => simp [numsK, ih]
theorem numsB_len (b : List Int) : (numsB b).length = b.length / 8 := numsK_len _ _
theorem numsK_bytes {L : List Int} (h : ∀ n ∈ L, Int64 n) (r : List Int) : numsK L.length (bytesN L ++ r) = L := by
 induction L with
 | nil => rfl
 | cons a L ih =>
   have e : bytesN (a :: L) ++ r = be8 a ++ (bytesN L ++ r) := by rw [bytesN_cons, List.append_assoc]
   simp only [List.length_cons, numsK]
   rw [e, List.take_left' (be8_len a), List.drop_left' (be8_len a), un8_be8 (h a (by simp)), ih (fun n hn => h n (by simp [hn]))]
theorem numsB_bytes {L : List Int} (h : ∀ n ∈ L, Int64 n) : numsB (bytesN L) = L := by
 have e : (bytesN L).length / 8 = L.length := by rw [bytesN_len]; omega
 unfold numsB
 rw [e]
 have := numsK_bytes h []
 rwa [List.append_nil] at this
theorem bytesN_nums {b : List Int} (h : ∀ x ∈ b, ByteI x) {k : Nat} (hk : b.length = k * 8) : bytesN (numsK k b) = b := by
 induction k generalizing b with
 | zero => have : b = [] := List.eq_nil_of_length_eq_zero (by omega); subst this; rfl
 | succ k ih =>
   simp only [numsK, bytesN_cons]
   rw [ih (fun x hx => h x (List.mem_of_mem_drop hx)) (by rw [List.length_drop]; omega), be8_un8 (by rw [List.length_take]; omega) (fun x hx => h x (List.mem_of_mem_take hx))]
   exact List.take_append_drop 8 b
theorem bytesN_numsB {b : List Int} (h : ∀ x ∈ b, ByteI x) (h8 : b.length % 8 = 0) : bytesN (numsB b) = b := bytesN_nums h (by omega)
theorem numsB_in (b : List Int) : ∀ n ∈ numsB b, Int64 n := by
 have : ∀ k (l : List Int), k * 8 <= l.length -> ∀ n ∈ numsK k l, Int64 n := by
  intro k
  induction k with
  | zero => intro l _ n hn; simp [numsK] at hn
  | succ k ih =>
    intro l hl n hn
    simp only [numsK, List.mem_cons] at hn
    rcases hn with rfl | hn
    ·exact un8_in _ (by rw [List.length_take]; omega)
    ·exact ih _ (by rw [List.length_drop]; omega) n hn
 exact this _ b (by omega)
def sumI (b : List Int) : Int := b.foldl (fun s c => (s * 31 + c) % 1000003) 1
theorem sumI_snoc (b : List Int) (c : Int) : sumI (b ++ [c]) = (sumI b * 31 + c) % 1000003 := by simp [sumI, List.foldl_append]
theorem sumI_in (b : List Int) : 0 <= sumI b /\ sumI b < 1000003 := by
 unfold sumI
 have : ∀ (l : List Int) (a : Int), 0 <= a /\ a < 1000003 -> 0 <= l.foldl (fun s c => (s * 31 + c) % 1000003) a /\ l.foldl (fun s c => (s * 31 + c) % 1000003) a < 1000003 := by
  intro l
  induction l with
  | nil => exact fun a h => h
  | cons x l ih => intro a _; exact ih _ ⟨Int.emod_nonneg _ (by decide), Int.emod_lt_of_pos _ (by decide)⟩
 exact this b 1 (by decide)
theorem sum_step {x y c : Int} (h : (x * 31 + c) % 1000003 = (y * 31 + c) % 1000003) (hx : 0 <= x /\ x < 1000003) (hy : 0 <= y /\ y < 1000003) : x = y := by omega
theorem sumI_turn (p q : List Int) {c d : Int} (hc : ByteI c) (hd : ByteI d) : sumI (p ++ c :: q) = sumI (p ++ d :: q) ↔ c = d := by
 constructor
 ·intro h
  have : ∀ (l : List Int) (a b : Int), 0 <= a /\ a < 1000003 -> 0 <= b /\ b < 1000003 -> l.foldl (fun s c => (s * 31 + c) % 1000003) a = l.foldl (fun s c => (s * 31 + c) % 1000003) b -> a = b := by
   intro l
   induction l with
   | nil => exact fun a b _ _ h => h
   | cons x l ih =>
     intro a b ha hb h
     exact sum_step (ih _ _ ⟨Int.emod_nonneg _ (by decide), Int.emod_lt_of_pos _ (by decide)⟩ ⟨Int.emod_nonneg _ (by decide), Int.emod_lt_of_pos _ (by decide)⟩ h) ha hb
  unfold sumI at h
  rw [List.foldl_append, List.foldl_append, List.foldl_cons, List.foldl_cons] at h
  have h2 := this q _ _ ⟨Int.emod_nonneg _ (by decide), Int.emod_lt_of_pos _ (by decide)⟩ ⟨Int.emod_nonneg _ (by decide), Int.emod_lt_of_pos _ (by decide)⟩ h
  obtain ⟨c1, c2⟩ := hc
  obtain ⟨d1, d2⟩ := hd
  omega
 ·rintro rfl; rfl
end Go.Proofs.Ytacgakkcpmhgmaa
namespace Go.Proofs.Ytacgakkcpmhgmaa
open Go
structure Codec {α : Type} (rd : List Int -> Option (α × List Int)) (en : α -> List Int) : Prop where
 there : ∀ a r, rd (en a ++ r) = some (a, r)
 back : ∀ L a r, rd L = some (a, r) -> L = en a ++ r
 pos : ∀ a, 0 < (en a).length
def rdOne : List Int -> Option (Int × List Int)
 | [] => none
 | a :: r => some (a, r)
def enOne (a : Int) : List Int := [a]
def rdVec : List Int -> Option ((Int × Int × Int) × List Int)
 | a :: b :: c :: r => some ((a, b, c), r)
 | _ => none
def enVec (v : Int × Int × Int) : List Int := [v.1, v.2.1, v.2.2]
section
variable {α : Type}
def rdK (rd : List Int -> Option (α × List Int)) : Nat -> List Int -> Option (List α × List Int)
 | 0, L => some ([], L)
 | k + 1, L => match rd L with
   | none => none
   | some (a, r) => match rdK rd k r with
     | none => none
     | some (l, r') => some (a :: l, r')
def rdC (most : Option Nat) (rd : List Int -> Option (α × List Int)) : List Int -> Option (List α × List Int)
 | [] => none
 | n :: r => if 0 <= n /\ n <= (r.length : Int) /\ (∀ m, most = some m -> n <= (m : Int)) then rdK rd n.toNat r else none
def enC (en : α -> List Int) (l : List α) : List Int := (l.length : Int) :: l.flatMap en
variable {rd : List Int -> Option (α × List Int)} {en : α -> List Int}
theorem Codec.k_there (h : Codec rd en) : ∀ (l : List α) (r : List Int), rdK rd l.length (l.flatMap en ++ r) = some (l, r)
 | [], r => rfl
 | a :: l, r => by
   have e : (a :: l).flatMap en ++ r = en a ++ (l.flatMap en ++ r) := by simp
   rw [e]
   simp only [List.length_cons, rdK, h.there, Codec.k_there h l r]
theorem Codec.k_back (h : Codec rd en) : ∀ (k : Nat) (L : List Int) (l : List α) (r : List Int), rdK rd k L = some (l, r) -> l.length = k /\ L = l.flatMap en ++ r
 | 0, L, l, r, q => by simp only [rdK, Option.some.injEq, Prod.mk.injEq] at q; obtain ⟨rfl, rfl⟩ := q; exact ⟨rfl, rfl⟩
 | k + 1, L, l, r, q => by
   simp only [rdK] at q
   cases e1 : rd L with
   | none => rw [e1] at q; cases q
   | some p =>
     obtain ⟨a, r1⟩ := p
     rw [e1] at q
     simp only at q
     cases e2 : rdK rd k r1 with
     | none => rw [e2] at q; cases q
     | some p =>
       obtain ⟨l1, r2⟩ := p
       rw [e2] at q
       simp only [Option.some.injEq, Prod.mk.injEq] at q
       obtain ⟨rfl, rfl⟩ := q
       obtain ⟨h1, h2⟩ := Codec.k_back h k r1 l1 r2 e2
       refine ⟨by simp [h1], ?_⟩
       rw [h.back L a r1 e1, h2]
       simp
theorem flat_ge (h : ∀ a, 0 < (en a).length) (l : List α) : l.length <= (l.flatMap en).length := by
 induction l with
 | nil => simp
 | cons a l ih => have := h a; simp only [List.flatMap_cons, List.length_append, List.length_cons]; omega
theorem Codec.c_there (h : Codec rd en) (most : Option Nat) (l : List α) (r : List Int) (hm : ∀ m, most = some m -> l.length <= m) : rdC most rd (enC en l ++ r) = some (l, r) := by
 have hg := flat_ge h.pos l
 have e : enC en l ++ r = (l.length : Int) :: (l.flatMap en ++ r) := by simp [enC]
 rw [e]
 simp only [rdC]
 rw [if_pos ⟨by omega, by rw [List.length_append]; omega, fun m hm' => by have := hm m hm'; omega⟩, Int.toNat_natCast]
 exact h.k_there l r
theorem Codec.c_back (h : Codec rd en) (most : Option Nat) (L : List Int) (l : List α) (r : List Int) (q : rdC most rd L = some (l, r)) : L = enC en l ++ r := by
 cases L with
 | nil => cases q
 | cons n r0 =>
   simp only [rdC] at q
   split at q
   ·rename_i hn
    obtain ⟨h1, h2⟩ := h.k_back _ _ _ _ q
    rw [h2]
    simp only [enC, List.cons_append, List.cons.injEq, and_true]
    omega
   ·cases q
theorem Codec.c (h : Codec rd en) : Codec (rdC none rd) (enC en) :=
 ⟨fun a r => h.c_there none a r (fun m hm => by cases hm), fun L a r q => h.c_back none L a r q, fun a => by simp [enC]⟩
end
theorem codecOne : Codec rdOne enOne := ⟨fun a r => rfl, fun L a r q => by
 cases L with
 | nil => cases q
 | cons x L => simp only [rdOne, Option.some.injEq, Prod.mk.injEq] at q; obtain ⟨rfl, rfl⟩ := q; rfl, fun a => by simp [enOne]⟩
theorem codecVec : Codec rdVec enVec := ⟨fun a r => rfl, fun L a r q => by
 match L, q with
 | a1 :: b1 :: c1 :: L, q => simp only [rdVec, Option.some.injEq, Prod.mk.injEq] at q; obtain ⟨rfl, rfl⟩ := q; rfl, fun a => by simp [enVec]⟩
abbrev rdN := rdC none rdOne
abbrev enN := enC enOne
abbrev rdRows := rdC none rdN
abbrev enRows := enC enN
abbrev rdVecs := rdC none rdVec
abbrev enVecs := enC enVec
abbrev rdEmits := rdC none rdVecs
abbrev enEmits := enC enVecs
theorem codecN : Codec rdN enN := codecOne.c
theorem codecRows : Codec rdRows enRows := codecN.c
theorem codecVecs : Codec rdVecs enVecs := codecVec.c
theorem codecEmits : Codec rdEmits enEmits := codecVecs.c
structure Tab where
 cuts : List Int
 letters : List Int
 bn : List (List Int)
 bo : List Int
 fn : List (List Int)
 fe : List (List (Int × Int × Int))
def enT (t : Tab) : List Int := enN t.cuts ++ (enN t.letters ++ (enRows t.bn ++ (enN t.bo ++ (enRows t.fn ++ enEmits t.fe))))
def rdT (most : Option Nat) (L : List Int) : Option (Tab × List Int) :=
 match rdC most rdOne L with
 | none => none
 | some (c, L1) => match rdC most rdOne L1 with
   | none => none
   | some (l, L2) => match rdC most (rdC most rdOne) L2 with
     | none => none
     | some (bn, L3) => match rdC most rdOne L3 with
       | none => none
       | some (bo, L4) => match rdC most (rdC most rdOne) L4 with
         | none => none
         | some (fn, L5) => match rdC most (rdC most rdVec) L5 with
           | none => none
           | some (fe, L6) => some (⟨c, l, bn, bo, fn, fe⟩, L6)
theorem rdC_mono {α : Type} {rd rd' : List Int -> Option (α × List Int)} {most : Option Nat} (h : ∀ L p, rd L = some p -> rd' L = some p) : ∀ L p, rdC most rd L = some p -> rdC none rd' L = some p := by
 have hk : ∀ k L p, rdK rd k L = some p -> rdK rd' k L = some p := by
  intro k
  induction k with
  | zero => exact fun L p q => q
  | succ k ih =>
    intro L p q
    simp only [rdK] at q ⊢
    cases e1 : rd L with
    | none => rw [e1] at q; cases q
    | some x =>
      obtain ⟨a, r⟩ := x
      rw [e1] at q
      simp only at q
      rw [h L _ e1]
      simp only
      cases e2 : rdK rd k r with
      | none => rw [e2] at q; cases q
      | some y => rw [e2] at q; rw [ih r _ e2]; exact q
 intro L p q
 cases L with
 | nil => cases q
 | cons n r =>
   simp only [rdC] at q ⊢
   split at q
   ·rename_i hn
    rw [if_pos ⟨hn.1, hn.2.1, fun m hm => by cases hm⟩]
    exact hk _ _ _ q
   ·cases q
theorem rdT_back {most : Option Nat} {L r : List Int} {t : Tab} (q : rdT most L = some (t, r)) : L = enT t ++ r := by
 unfold rdT at q
 cases e1 : rdC most rdOne L with
 | none => rw [e1] at q; cases q
 | some p1 =>
 obtain ⟨c, L1⟩ := p1
 rw [e1] at q; simp only at q
 cases e2 : rdC most rdOne L1 with
 | none => rw [e2] at q; cases q
 | some p2 =>
 obtain ⟨l, L2⟩ := p2
 rw [e2] at q; simp only at q
 cases e3 : rdC most (rdC most rdOne) L2 with
 | none => rw [e3] at q; cases q
 | some p3 =>
 obtain ⟨bn, L3⟩ := p3
 rw [e3] at q; simp only at q
 cases e4 : rdC most rdOne L3 with
 | none => rw [e4] at q; cases q
 | some p4 =>
 obtain ⟨bo, L4⟩ := p4
 rw [e4] at q; simp only at q
 cases e5 : rdC most (rdC most rdOne) L4 with
 | none => rw [e5] at q; cases q
 | some p5 =>
 obtain ⟨fn, L5⟩ := p5
 rw [e5] at q; simp only at q
 cases e6 : rdC most (rdC most rdVec) L5 with
 | none => rw [e6] at q; cases q
 | some p6 =>
 obtain ⟨fe, L6⟩ := p6
 rw [e6] at q
 simp only [Option.some.injEq, Prod.mk.injEq] at q
 obtain ⟨rfl, rfl⟩ := q
 have m1 : ∀ L p, rdC most rdOne L = some p -> rdN L = some p := rdC_mono (fun L p h => h)
 have h1 := codecN.back _ _ _ (m1 _ _ e1)
 have h2 := codecN.back _ _ _ (m1 _ _ e2)
 have h3 := codecRows.back _ _ _ (rdC_mono m1 _ _ e3)
 have h4 := codecN.back _ _ _ (m1 _ _ e4)
 have h5 := codecRows.back _ _ _ (rdC_mono m1 _ _ e5)
 have h6 := codecEmits.back _ _ _ (rdC_mono (rdC_mono (fun L p h => h)) _ _ e6)
 rw [h1, h2, h3, h4, h5, h6]
 simp only [enT, List.append_assoc]
theorem rdT_there (t : Tab) (r : List Int) : rdT none (enT t ++ r) = some (t, r) := by
 have n : ∀ (l : List Int) (r : List Int), rdC none rdOne (enN l ++ r) = some (l, r) := codecN.there
 have w : ∀ (l : List (List Int)) (r : List Int), rdC none (rdC none rdOne) (enRows l ++ r) = some (l, r) := codecRows.there
 have v : ∀ (l : List (List (Int × Int × Int))) (r : List Int), rdC none (rdC none rdVec) (enEmits l ++ r) = some (l, r) := codecEmits.there
 unfold rdT enT
 simp only [List.append_assoc]
 rw [n]; simp only
 rw [n]; simp only
 rw [w]; simp only
 rw [n]; simp only
 rw [w]; simp only
 rw [v]
def SmallT (m : Nat) (t : Tab) : Prop := t.cuts.length <= m /\ t.letters.length <= m /\ (t.bn.length <= m /\ ∀ r ∈ t.bn, r.length <= m) /\ t.bo.length <= m /\ (t.fn.length <= m /\ ∀ r ∈ t.fn, r.length <= m) /\ (t.fe.length <= m /\ ∀ r ∈ t.fe, r.length <= m)
theorem rdK_small {α : Type} {rd : List Int -> Option (α × List Int)} {en : α -> List Int} {ok : α -> Prop} (h : ∀ a r, ok a -> rd (en a ++ r) = some (a, r)) : ∀ (l : List α) (r : List Int), (∀ a ∈ l, ok a) -> rdK rd l.length (l.flatMap en ++ r) = some (l, r)
 | [], r, _ => rfl
 | a :: l, r, hl => by
   have e : (a :: l).flatMap en ++ r = en a ++ (l.flatMap en ++ r) := by simp
   rw [e]
   simp only [List.length_cons, rdK, h a _ (hl a (by simp)), rdK_small h l r (fun x hx => hl x (by simp [hx]))]
theorem rdC_small {α : Type} {rd : List Int -> Option (α × List Int)} {en : α -> List Int} {ok : α -> Prop} (hp : ∀ a, 0 < (en a).length) (h : ∀ a r, ok a -> rd (en a ++ r) = some (a, r)) (m : Nat) (l : List α) (r : List Int) (hm : l.length <= m) (hl : ∀ a ∈ l, ok a) : rdC (some m) rd (enC en l ++ r) = some (l, r) := by
 have hg := flat_ge hp l
 have e : enC en l ++ r = (l.length : Int) :: (l.flatMap en ++ r) := by simp [enC]
 rw [e]
 simp only [rdC]
 rw [if_pos ⟨by omega, by rw [List.length_append]; omega, fun m' hm' => by injection hm' with hm'; omega⟩, Int.toNat_natCast]
 exact rdK_small h l r hl
theorem rdT_small {m : Nat} {t : Tab} (h : SmallT m t) (r : List Int) : rdT (some m) (enT t ++ r) = some (t, r) := by
 obtain ⟨h1, h2, ⟨h3, h3'⟩, h4, ⟨h5, h5'⟩, h6, h6'⟩ := h
 have n : ∀ (l : List Int) (r : List Int), l.length <= m -> rdC (some m) rdOne (enN l ++ r) = some (l, r) := fun l r hl => rdC_small (ok := fun _ => True) (fun a => by simp [enOne]) (fun a r _ => rfl) m l r hl (fun _ _ => trivial)
 have rw' : ∀ (l : List (List Int)) (r : List Int), l.length <= m -> (∀ x ∈ l, x.length <= m) -> rdC (some m) (rdC (some m) rdOne) (enRows l ++ r) = some (l, r) := fun l r hl hx => rdC_small (ok := fun x => x.length <= m) codecN.pos (fun a r ha => n a r ha) m l r hl hx
 have v : ∀ (l : List (Int × Int × Int)) (r : List Int), l.length <= m -> rdC (some m) rdVec (enVecs l ++ r) = some (l, r) := fun l r hl => rdC_small (ok := fun _ => True) codecVec.pos (fun a r _ => rfl) m l r hl (fun _ _ => trivial)
 unfold rdT enT
 simp only [List.append_assoc]
 rw [n _ _ h1]; simp only
 rw [n _ _ h2]; simp only
 rw [rw' _ _ h3 h3']; simp only
 rw [n _ _ h4]; simp only
 rw [rw' _ _ h5 h5']; simp only
 rw [rdC_small (ok := fun x : List (Int × Int × Int) => x.length <= m) codecVecs.pos (fun a r ha => v a r ha) m t.fe r h6 h6']
def cntL (l : List Int) : Nat := l.foldl (fun (c : Nat) (x : Int) => if x = (c : Int) then c + 1 else c) 0
theorem cntL_snoc (l : List Int) (x : Int) : cntL (l ++ [x]) = if x = (cntL l : Int) then cntL l + 1 else cntL l := by
 unfold cntL
 rw [List.foldl_append]
 rfl
theorem cntL_le (l : List Int) : cntL l <= l.length := by
 have : ∀ (l : List Int) (c : Nat), l.foldl (fun (c : Nat) (x : Int) => if x = (c : Int) then c + 1 else c) c <= c + l.length := by
  intro l
  induction l with
  | nil => exact fun c => by simp
  | cons x l ih =>
    intro c
    rw [List.foldl_cons]
    refine Nat.le_trans (ih _) ?_
    split <;> simp only [List.length_cons] <;> omega
 have := this l 0
 rw [Nat.zero_add] at this
 exact this
def LetteredI (l : List Int) : Prop := ∀ i, i < l.length -> 0 <= l.getD i 0 /\ l.getD i 0 <= (cntL (l.take i) : Int)
def maxL (l : List Int) : Int := l.foldl max 0
def LeadI (rows : List (List Int)) (n : Nat) : Prop := 1 <= rows.length /\ rows.length <= 100000 /\ ∀ r ∈ rows, r.length = n /\ ∀ x ∈ r, 0 <= x /\ x < (rows.length : Int)
structure RightT (t : Tab) : Prop where
 len : 1 <= t.cuts.length /\ t.cuts.length <= 100000
 lets : t.letters.length = t.cuts.length
 rise : ∀ i, i + 1 < t.cuts.length -> t.cuts.getD i 0 < t.cuts.getD (i + 1) 0
 zero : t.cuts.getD 0 0 = 0
 last : ∀ c ∈ t.cuts, 0 <= c /\ c <= 1114111
 lettered : LetteredI t.letters
 back : LeadI t.bn (cntL t.letters)
 outs : t.bo.length = t.bn.length /\ ∀ o ∈ t.bo, 0 <= o /\ o <= 99999
 fwd : LeadI t.fn (cntL t.letters)
 emits : t.fe.length = t.fn.length /\ ∀ r ∈ t.fe, (r.length : Int) = maxL t.bo + 1 /\ ∀ v ∈ r, (0 <= v.1 /\ v.1 <= 1152921504606846976) /\ (0 <= v.2.1 /\ v.2.1 <= 1152921504606846976) /\ (0 <= v.2.2 /\ v.2.2 <= 1152921504606846976)
theorem maxL_le {l : List Int} {m : Int} (hm : 0 <= m) (h : ∀ o ∈ l, o <= m) : 0 <= maxL l /\ maxL l <= m := by
 unfold maxL
 have : ∀ (l : List Int) (a : Int), 0 <= a /\ a <= m -> (∀ o ∈ l, o <= m) -> 0 <= l.foldl max a /\ l.foldl max a <= m := by
  intro l
  induction l with
  | nil => exact fun a h _ => h
  | cons x l ih => intro a h hl; exact ih _ (by have := hl x (by simp); omega) (fun o ho => hl o (by simp [ho]))
 exact this l 0 ⟨by omega, hm⟩ h
theorem RightT.small {t : Tab} (h : RightT t) : SmallT 100000 t := by
 have hc := cntL_le t.letters
 have hl := h.lets
 have h1 := h.len.2
 refine ⟨h1, by omega, ⟨h.back.2.1, fun r hr => by have := (h.back.2.2 r hr).1; omega⟩, by have := h.outs.1; have := h.back.2.1; omega, ⟨h.fwd.2.1, fun r hr => by have := (h.fwd.2.2 r hr).1; omega⟩, by have := h.emits.1; have := h.fwd.2.1; omega, fun r hr => ?_⟩
 have h2 := (h.emits.2 r hr).1
 have h3 := (maxL_le (m := 99999) (by decide) (fun o ho => (h.outs.2 o ho).2)).2
 omega
theorem enC_in {α : Type} {en : α -> List Int} {l : List α} (hl : l.length <= 1000000) (h : ∀ a ∈ l, ∀ n ∈ en a, Int64 n) : ∀ n ∈ enC en l, Int64 n := by
 intro n hn
 simp only [enC, List.mem_cons] at hn
 rcases hn with rfl | hn
 ·unfold Int64; omega
 ·obtain ⟨a, ha, hn⟩ := List.mem_flatMap.1 hn
  exact h a ha n hn
theorem RightT.ints {t : Tab} (h : RightT t) : ∀ n ∈ enT t, Int64 n := by
 obtain ⟨s1, s2, ⟨s3, s3'⟩, s4, ⟨s5, s5'⟩, s6, s6'⟩ := h.small
 have one : ∀ {l : List Int}, l.length <= 100000 -> (∀ x ∈ l, Int64 x) -> ∀ n ∈ enN l, Int64 n := fun {l} hl hx => enC_in (by omega) (fun a ha n hn => by
  simp only [enOne, List.mem_singleton] at hn
  subst hn
  exact hx _ ha)
 have lead : ∀ {rows : List (List Int)} {k : Nat}, LeadI rows k -> (∀ r ∈ rows, r.length <= 100000) -> ∀ n ∈ enRows rows, Int64 n := fun {rows k} hl hr => enC_in (by have := hl.2.1; omega) (fun a ha => one (hr a ha) (fun x hx => by
  have h1 := (hl.2.2 a ha).2 x hx
  have h2 := hl.2.1
  unfold Int64; omega))
 intro n hn
 simp only [enT, List.mem_append] at hn
 rcases hn with hn | hn | hn | hn | hn | hn
 ·exact one s1 (fun x hx => by have := h.last x hx; unfold Int64; omega) n hn
 ·refine one s2 (fun x hx => ?_) n hn
  obtain ⟨i, hi, rfl⟩ := List.getElem_of_mem hx
  have h1 := h.lettered i hi
  have h2 := cntL_le (t.letters.take i)
  rw [List.length_take] at h2
  rw [List.getD_eq_getElem?_getD, List.getElem?_eq_getElem hi] at h1
  simp only [Option.getD_some] at h1
  unfold Int64; omega
 ·exact lead h.back s3' n hn
 ·exact one s4 (fun x hx => by have := h.outs.2 x hx; unfold Int64; omega) n hn
 ·exact lead h.fwd s5' n hn
 ·refine enC_in (by omega) (fun a ha => enC_in (by have := s6' a ha; omega) (fun v hv n hn => ?_)) n hn
  have h1 := (h.emits.2 a ha).2 v hv
  simp only [enVec, List.mem_cons, List.not_mem_nil, or_false] at hn
  unfold Int64
  rcases hn with rfl | rfl | rfl <;> omega
def bodyT (t : Tab) : List Int := bytesN (enT t)
def saveT (t : Tab) : List Int := bodyT t ++ be8 (sumI (bodyT t))
theorem saveT_byte (t : Tab) : ∀ b ∈ saveT t, ByteI b := by
 intro b hb
 rcases List.mem_append.1 hb with h | h
 ·exact bytesN_byte _ b h
 ·exact be8_byte _ b h
theorem saveT_len (t : Tab) : (saveT t).length = (enT t).length * 8 + 8 := by unfold saveT bodyT; rw [List.length_append, bytesN_len, be8_len]
theorem saveT_nums (t : Tab) : saveT t = bytesN (enT t ++ [sumI (bodyT t)]) := by rw [bytesN_app]; simp [saveT, bodyT, bytesN]
theorem saveT_inj {t u : Tab} (ht : RightT t) (hu : RightT u) (h : saveT t = saveT u) : t = u := by
 have i1 : ∀ {t : Tab}, RightT t -> ∀ n ∈ enT t ++ [sumI (bodyT t)], Int64 n := fun {t} ht n hn => by
  rcases List.mem_append.1 hn with h | h
  ·exact ht.ints n h
  ·simp only [List.mem_singleton] at h
   subst h
   have := sumI_in (bodyT t)
   unfold Int64; omega
 rw [saveT_nums, saveT_nums] at h
 have h2 := congrArg numsB h
 rw [numsB_bytes (i1 ht), numsB_bytes (i1 hu)] at h2
 have h3 := List.append_inj' h2 rfl
 have h4 := rdT_there t []
 rw [h3.1, rdT_there u []] at h4
 simp only [Option.some.injEq, Prod.mk.injEq, and_true] at h4
 exact h4.symm
def loadP (b : List Int) (t : Tab) : Prop := b.length % 8 = 0 /\ ∃ s, rdT none (numsB b) = some (t, [s]) /\ s = sumI (b.take (b.length - 8)) /\ RightT t
theorem loadP_iff {b : List Int} (hb : ∀ x ∈ b, ByteI x) (t : Tab) : loadP b t ↔ RightT t /\ b = saveT t := by
 constructor
 ·rintro ⟨h8, s, hr, hs, ht⟩
  refine ⟨ht, ?_⟩
  have h1 := rdT_back hr
  have h2 : bytesN (numsB b) = b := bytesN_numsB hb h8
  rw [h1, bytesN_app] at h2
  have e : bytesN [s] = be8 s := by simp [bytesN]
  rw [e] at h2
  have h3 : b.take (b.length - 8) = bytesN (enT t) := by
   rw [<- h2, List.length_append, be8_len, Nat.add_sub_cancel]
   exact List.take_left
  rw [h3] at hs
  rw [<- h2, hs]
  rfl
 ·rintro ⟨ht, rfl⟩
  have i1 : ∀ n ∈ enT t ++ [sumI (bodyT t)], Int64 n := fun n hn => by
   rcases List.mem_append.1 hn with h | h
   ·exact ht.ints n h
   ·simp only [List.mem_singleton] at h
    subst h
    have := sumI_in (bodyT t)
    unfold Int64; omega
  refine ⟨by rw [saveT_len]; omega, sumI (bodyT t), ?_, ?_, ht⟩
  ·rw [saveT_nums, numsB_bytes i1]
   exact rdT_there t _
  ·have e : (saveT t).take ((saveT t).length - 8) = bodyT t := by
    unfold saveT
    rw [List.length_append, be8_len, Nat.add_sub_cancel]
    exact List.take_left
   rw [e]
def refP (b : List Int) (t : Tab) : Prop := 8 <= b.length /\ un8 (b.drop (b.length - 8)) = sumI (b.take (b.length - 8)) /\ (b.length - 8) % 8 = 0 /\ rdT (some 100000) (numsB (b.take (b.length - 8))) = some (t, []) /\ RightT t
theorem refP_iff {b : List Int} (hb : ∀ x ∈ b, ByteI x) (t : Tab) : refP b t ↔ RightT t /\ b = saveT t := by
 constructor
 ·rintro ⟨h1, h2, h3, h4, ht⟩
  refine ⟨ht, ?_⟩
  have h5 := rdT_back h4
  rw [List.append_nil] at h5
  have h6 : bytesN (numsB (b.take (b.length - 8))) = b.take (b.length - 8) := bytesN_numsB (fun x hx => hb x (List.mem_of_mem_take hx)) (by rw [List.length_take]; omega)
  rw [h5] at h6
  have h7 : be8 (un8 (b.drop (b.length - 8))) = b.drop (b.length - 8) := be8_un8 (by rw [List.length_drop]; omega) (fun x hx => hb x (List.mem_of_mem_drop hx))
  rw [h2, <- h6] at h7
  have h8 := List.take_append_drop (b.length - 8) b
  rw [<- h6, <- h7] at h8
  exact h8.symm
 ·rintro ⟨ht, rfl⟩
  have e1 : (saveT t).take ((saveT t).length - 8) = bodyT t := by
   unfold saveT
   rw [List.length_append, be8_len, Nat.add_sub_cancel]
   exact List.take_left
  have e2 : (saveT t).drop ((saveT t).length - 8) = be8 (sumI (bodyT t)) := by
   unfold saveT
   rw [List.length_append, be8_len, Nat.add_sub_cancel]
   exact List.drop_left
  refine ⟨by rw [saveT_len]; omega, ?_, by rw [saveT_len]; omega, ?_, ht⟩
  ·rw [e1, e2]
   have := sumI_in (bodyT t)
   exact un8_be8 (by unfold Int64; omega)
  ·rw [e1]
   have e3 : numsB (bodyT t) = enT t := numsB_bytes ht.ints
   rw [e3]
   have := rdT_small ht.small []
   rwa [List.append_nil] at this
end Go.Proofs.Ytacgakkcpmhgmaa
namespace Go.Proofs.Ytacgakkcpmhgmaa
open Go
def RiseR (c : List Int) : Prop := (∀ i, i + 1 < c.length -> c.getD i 0 < c.getD (i + 1) 0) /\ c.getD 0 0 = 0 /\ ∀ x ∈ c, 0 <= x /\ x <= 1114111
def AlphaR (c l : List Int) : Prop := (1 <= c.length /\ c.length <= 100000) /\ l.length = c.length /\ RiseR c /\ LetteredI l
def BackR (bn : List (List Int)) (bo : List Int) (n : Nat) : Prop := LeadI bn n /\ bo.length = bn.length /\ ∀ o ∈ bo, 0 <= o /\ o <= 99999
def CostV (v : Int × Int × Int) : Prop := (0 <= v.1 /\ v.1 <= 1152921504606846976) /\ (0 <= v.2.1 /\ v.2.1 <= 1152921504606846976) /\ (0 <= v.2.2 /\ v.2.2 <= 1152921504606846976)
def FwdR (fn : List (List Int)) (fe : List (List (Int × Int × Int))) (n : Nat) (m : Int) : Prop := LeadI fn n /\ fe.length = fn.length /\ ∀ r ∈ fe, (r.length : Int) = m /\ ∀ v ∈ r, CostV v
theorem rightT_parts (t : Tab) : RightT t ↔ AlphaR t.cuts t.letters /\ BackR t.bn t.bo (cntL t.letters) /\ FwdR t.fn t.fe (cntL t.letters) (maxL t.bo + 1) := by
 constructor
 ·intro h
  exact ⟨⟨h.len, h.lets, ⟨h.rise, h.zero, h.last⟩, h.lettered⟩, ⟨h.back, h.outs.1, h.outs.2⟩, ⟨h.fwd, h.emits.1, h.emits.2⟩⟩
 ·rintro ⟨⟨h1, h2, ⟨h3, h4, h5⟩, h6⟩, ⟨h7, h8, h9⟩, h10, h11, h12⟩
  exact ⟨h1, h2, h3, h4, h5, h6, h7, ⟨h8, h9⟩, h10, ⟨h11, h12⟩⟩
def inB (lo hi : Int) (l : List Int) : Bool := l.all fun x => decide (lo <= x) && decide (x <= hi)
theorem inB_iff {lo hi : Int} {l : List Int} : inB lo hi l = true ↔ ∀ x ∈ l, lo <= x /\ x <= hi := by simp [inB]
theorem inB_take_succ {lo hi : Int} {l : List Int} {i : Nat} (h : i < l.length) : inB lo hi (l.take (i + 1)) = (inB lo hi (l.take i) && (decide (lo <= l.getD i 0) && decide (l.getD i 0 <= hi))) := by
 unfold inB
 rw [List.take_add_one, List.getElem?_eq_getElem h, List.all_append]
 simp [List.getD_eq_getElem?_getD, List.getElem?_eq_getElem h]
theorem inB_of_bad {lo hi : Int} {l : List Int} {i : Nat} (h : i < l.length) (hb : l.getD i 0 < lo \/ hi < l.getD i 0) : inB lo hi l = false := by
 rw [Bool.eq_false_iff]
 intro q
 have := inB_iff.1 q (l.getD i 0) (by rw [List.getD_eq_getElem?_getD, List.getElem?_eq_getElem h]; simp)
 omega
theorem getD_mem {l : List Int} {i : Nat} (h : i < l.length) : l.getD i 0 ∈ l := by
 rw [List.getD_eq_getElem?_getD, List.getElem?_eq_getElem h]; simp
theorem cntL_take_succ {l : List Int} {i : Nat} (h : i < l.length) : cntL (l.take (i + 1)) = if l.getD i 0 = (cntL (l.take i) : Int) then cntL (l.take i) + 1 else cntL (l.take i) := by
 have e : l.take (i + 1) = l.take i ++ [l.getD i 0] := by
  rw [List.take_add_one, List.getElem?_eq_getElem h, List.getD_eq_getElem?_getD, List.getElem?_eq_getElem h]; rfl
 rw [e, cntL_snoc]
theorem cntL_pos {l : List Int} (h : LetteredI l) (hl : 0 < l.length) : 0 < cntL l := by
 have h0 := h 0 hl
 have e : cntL (l.take 0) = 0 := rfl
 rw [e] at h0
 have hx : l.getD 0 0 = 0 := by omega
 have : ∀ k, 0 < k -> k <= l.length -> 0 < cntL (l.take k) := by
  intro k
  induction k with
  | zero => intro h; omega
  | succ k ih =>
    intro _ hk
    rw [cntL_take_succ (by omega)]
    by_cases e : k = 0
    ·subst e
     have e2 : cntL (l.take 0) = 0 := rfl
     rw [e2, if_pos (by omega)]
     omega
    ·have := ih (by omega) (by omega)
     split <;> omega
 have := this l.length hl (Nat.le_refl _)
 rwa [List.take_length] at this
theorem maxL_snoc (l : List Int) (x : Int) : maxL (l ++ [x]) = max (maxL l) x := by simp [maxL, List.foldl_append]
theorem maxL_take_succ {l : List Int} {i : Nat} (h : i < l.length) : maxL (l.take (i + 1)) = max (maxL (l.take i)) (l.getD i 0) := by
 have e : l.take (i + 1) = l.take i ++ [l.getD i 0] := by
  rw [List.take_add_one, List.getElem?_eq_getElem h, List.getD_eq_getElem?_getD, List.getElem?_eq_getElem h]; rfl
 rw [e, maxL_snoc]
theorem sumI_take_succ {l : List Int} {i : Nat} (h : i < l.length) : sumI (l.take (i + 1)) = (sumI (l.take i) * 31 + l.getD i 0) % 1000003 := by
 have e : l.take (i + 1) = l.take i ++ [l.getD i 0] := by
  rw [List.take_add_one, List.getElem?_eq_getElem h, List.getD_eq_getElem?_getD, List.getElem?_eq_getElem h]; rfl
 rw [e, sumI_snoc]
theorem be8_at (n : Int) {i : Nat} (h : i < 8) : (be8 n).getD i 0 = n / 256 ^ (7 - i) % 256 := by
 rcases (show i = 0 \/ i = 1 \/ i = 2 \/ i = 3 \/ i = 4 \/ i = 5 \/ i = 6 \/ i = 7 by omega) with rfl | rfl | rfl | rfl | rfl | rfl | rfl | rfl <;> simp [be8]
def be8J (n : Int) (j : Nat) : List Int := (List.range 8).map fun i => if 8 <= i + j then n / 256 ^ (7 - i) % 256 else 0
theorem be8J_zero (n : Int) : be8J n 0 = [0, 0, 0, 0, 0, 0, 0, 0] := by
 apply List.ext_getElem
 ·simp [be8J]
 ·intro i h1 h2
  have h3 : i < 8 := by simpa [be8J] using h1
  simp only [be8J, List.getElem_map, List.getElem_range]
  rw [if_neg (by omega)]
  rcases (show i = 0 \/ i = 1 \/ i = 2 \/ i = 3 \/ i = 4 \/ i = 5 \/ i = 6 \/ i = 7 by omega) with rfl | rfl | rfl | rfl | rfl | rfl | rfl | rfl <;> rfl
theorem be8J_all (n : Int) : be8J n 8 = be8 n := by
 apply List.ext_getElem
 ·simp [be8J, be8]
 ·intro i h1 h2
  have h3 : i < 8 := by simpa [be8J] using h1
  have e := be8_at n h3
  rw [List.getD_eq_getElem?_getD, List.getElem?_eq_getElem h2] at e
  simp only [Option.getD_some] at e
  simp only [be8J, List.getElem_map, List.getElem_range]
  rw [if_pos (by omega), e]
theorem be8J_len (n : Int) (j : Nat) : (be8J n j).length = 8 := by simp [be8J]
theorem be8J_set (n : Int) {j : Nat} (h : j < 8) : (be8J n j).set (7 - j) (n / 256 ^ j % 256) = be8J n (j + 1) := by
 apply List.ext_getElem
 ·simp [be8J]
 ·intro i h1 h2
  have h3 : i < 8 := by simpa [be8J] using h2
  simp only [be8J, List.getElem_set, List.getElem_map, List.getElem_range]
  by_cases e : 7 - j = i
  ·subst e
   rw [if_pos rfl, if_pos (by omega), show 7 - (7 - j) = j by omega]
  ·rw [if_neg e]
   by_cases q : 8 <= i + j
   ·rw [if_pos q, if_pos (by omega)]
   ·rw [if_neg q, if_neg (by omega)]
theorem un8_take_succ {l : List Int} {i : Nat} (h : i < l.length) : un8 (l.take (i + 1)) = wr64 (un8 (l.take i) * 256 + l.getD i 0) := by
 have e : l.take (i + 1) = l.take i ++ [l.getD i 0] := by
  rw [List.take_add_one, List.getElem?_eq_getElem h, List.getD_eq_getElem?_getD, List.getElem?_eq_getElem h]; rfl
 rw [e]
 unfold un8
 rw [List.foldl_append]
 rfl
theorem enC_len {α : Type} (en : α -> List Int) (l : List α) : (enC en l).length = 1 + (l.map fun a => (en a).length).sum := by
 simp only [enC, List.length_cons, List.length_flatMap]
 omega
theorem enN_len (l : List Int) : (enN l).length = 1 + l.length := by
 rw [enC_len]
 have : (l.map fun a => (enOne a).length) = List.replicate l.length 1 := by simp [enOne, List.map_const']
 rw [this]
 simp
theorem enVecs_len (l : List (Int × Int × Int)) : (enVecs l).length = 1 + 3 * l.length := by
 rw [enC_len]
 have : (l.map fun a => (enVec a).length) = List.replicate l.length 3 := by simp [enVec, List.map_const']
 rw [this]
 simp
 omega
end Go.Proofs.Ytacgakkcpmhgmaa
namespace Go.Proofs.Ytacgakkcpmhgmaa
open Go
def nxI (T : List (List Int)) (s a : Int) : Int := (T.getD s.toNat []).getD a.toNat 0
theorem getD_memL {α : Type} {l : List α} {d : α} {i : Nat} (h : i < l.length) : l.getD i d ∈ l := by
 rw [List.getD_eq_getElem?_getD, List.getElem?_eq_getElem h]; exact List.getElem_mem h
theorem lead_row {T : List (List Int)} {n : Nat} {s : Int} (h : LeadI T n) (h0 : 0 <= s) (h1 : s < (T.length : Int)) : (T.getD s.toNat []).length = n := (h.2.2 _ (getD_memL (by omega))).1
theorem lead_nx {T : List (List Int)} {n : Nat} {s a : Int} (h : LeadI T n) (h0 : 0 <= s) (h1 : s < (T.length : Int)) (a0 : 0 <= a) (a1 : a < (n : Int)) : 0 <= nxI T s a /\ nxI T s a < (T.length : Int) := by
 have hl := lead_row h h0 h1
 exact (h.2.2 _ (getD_memL (d := []) (i := s.toNat) (by omega))).2 _ (getD_memL (by omega))
def bakI (T : List (List Int)) (t : List Int) (i : Nat) : Int := (t.drop i).foldr (fun a s => nxI T s a) 0
theorem bakI_end (T : List (List Int)) (t : List Int) : bakI T t t.length = 0 := by simp [bakI]
theorem bakI_step (T : List (List Int)) {t : List Int} {i : Nat} (h : i < t.length) : bakI T t i = nxI T (bakI T t (i + 1)) (t.getD i 0) := by
 unfold bakI
 rw [List.drop_eq_getElem_cons h, List.foldr_cons, List.getD_eq_getElem?_getD, List.getElem?_eq_getElem h]
 rfl
theorem bakI_in {T : List (List Int)} {n : Nat} {t : List Int} (h : LeadI T n) (ht : ∀ a ∈ t, 0 <= a /\ a < (n : Int)) (i : Nat) : 0 <= bakI T t i /\ bakI T t i < (T.length : Int) := by
 unfold bakI
 have : ∀ l : List Int, (∀ a ∈ l, 0 <= a /\ a < (n : Int)) -> 0 <= l.foldr (fun a s => nxI T s a) 0 /\ l.foldr (fun a s => nxI T s a) 0 < (T.length : Int) := by
  intro l
  induction l with
  | nil => intro _; have := h.1; simp only [List.foldr_nil]; omega
  | cons a l ih =>
    intro hl
    have h1 := ih (fun x hx => hl x (by simp [hx]))
    have h2 := hl a (by simp)
    exact lead_nx h h1.1 h1.2 h2.1 h2.2
 exact this _ (fun a ha => ht a (List.mem_of_mem_drop ha))
def fwdI (T : List (List Int)) (t : List Int) (i : Nat) : Int := (t.take i).foldl (nxI T) 0
theorem fwdI_zero (T : List (List Int)) (t : List Int) : fwdI T t 0 = 0 := by simp [fwdI]
theorem fwdI_step (T : List (List Int)) {t : List Int} {i : Nat} (h : i < t.length) : fwdI T t (i + 1) = nxI T (fwdI T t i) (t.getD i 0) := by
 unfold fwdI
 have e : t.take (i + 1) = t.take i ++ [t.getD i 0] := by
  rw [List.take_add_one, List.getElem?_eq_getElem h, List.getD_eq_getElem?_getD, List.getElem?_eq_getElem h]; rfl
 rw [e, List.foldl_append]
 rfl
theorem fwdI_in {T : List (List Int)} {n : Nat} {t : List Int} (h : LeadI T n) (ht : ∀ a ∈ t, 0 <= a /\ a < (n : Int)) (i : Nat) : 0 <= fwdI T t i /\ fwdI T t i < (T.length : Int) := by
 unfold fwdI
 have : ∀ (l : List Int) (s : Int), 0 <= s -> s < (T.length : Int) -> (∀ a ∈ l, 0 <= a /\ a < (n : Int)) -> 0 <= l.foldl (nxI T) s /\ l.foldl (nxI T) s < (T.length : Int) := by
  intro l
  induction l with
  | nil => intro s h0 h1 _; exact ⟨h0, h1⟩
  | cons a l ih =>
    intro s h0 h1 hl
    have h2 := hl a (by simp)
    have h3 := lead_nx h h0 h1 h2.1 h2.2
    exact ih _ h3.1 h3.2 (fun x hx => hl x (by simp [hx]))
 exact this _ 0 (by omega) (by have := h.1; omega) (fun a ha => ht a (List.mem_of_mem_take ha))
def outI (T : Tab) (t : List Int) (i : Nat) : Int := T.bo.getD (bakI T.bn t i).toNat 0
def outsI_ (T : Tab) (t : List Int) : List Int := (List.range (t.length + 1)).map (outI T t)
def segV (T : Tab) (t : List Int) (i : Nat) : Int × Int × Int := (T.fe.getD (fwdI T.fn t i).toNat []).getD (outI T t i).toNat (0, 0, 0)
def segL (T : Tab) (t : List Int) : List (Int × Int × Int) := (List.range (t.length + 1)).map (segV T t)
theorem segL_len (T : Tab) (t : List Int) : (segL T t).length = t.length + 1 := by simp [segL]
theorem segL_at (T : Tab) {t : List Int} {i : Nat} (h : i <= t.length) (d : Int × Int × Int) : (segL T t).getD i d = segV T t i := by
 have : i < t.length + 1 := by omega
 simp [segL, List.getD_eq_getElem?_getD, this]
theorem outsI_len_ (T : Tab) (t : List Int) : (outsI_ T t).length = t.length + 1 := by simp [outsI_]
theorem outsI_at_ (T : Tab) {t : List Int} {i : Nat} (h : i <= t.length) : (outsI_ T t).getD i 0 = outI T t i := by
 have : i < t.length + 1 := by omega
 simp [outsI_, List.getD_eq_getElem?_getD, this]
def TextI (T : Tab) (t : List Int) : Prop := ∀ a ∈ t, 0 <= a /\ a < (cntL T.letters : Int)
theorem le_maxL {l : List Int} {o : Int} (h : o ∈ l) : o <= maxL l := by
 unfold maxL
 have mono : ∀ (l : List Int) (a : Int), a <= l.foldl max a := by
  intro l
  induction l with
  | nil => intro a; exact Int.le_refl _
  | cons x l ih => intro a; exact Int.le_trans (by omega) (ih (max a x))
 have : ∀ (l : List Int) (a : Int), o ∈ l -> o <= l.foldl max a := by
  intro l
  induction l with
  | nil => intro a h; cases h
  | cons x l ih =>
    intro a h
    rcases List.mem_cons.1 h with rfl | h
    ·exact Int.le_trans (by omega) (mono l (max a o))
    ·exact ih _ h
 exact this l 0 h
theorem outI_in {T : Tab} {t : List Int} (h : RightT T) (ht : TextI T t) (i : Nat) : 0 <= outI T t i /\ outI T t i <= maxL T.bo := by
 have hb := bakI_in h.back ht i
 have hm : outI T t i ∈ T.bo := getD_memL (by have := h.outs.1; omega)
 exact ⟨(h.outs.2 _ hm).1, le_maxL hm⟩
theorem emit_row {T : Tab} {t : List Int} (h : RightT T) (ht : TextI T t) (i : Nat) : ((T.fe.getD (fwdI T.fn t i).toNat []).length : Int) = maxL T.bo + 1 := by
 have hb := fwdI_in h.fwd ht i
 exact (h.emits.2 _ (getD_memL (by have := h.emits.1; omega))).1
theorem segV_cost {T : Tab} {t : List Int} (h : RightT T) (ht : TextI T t) (i : Nat) : CostV (segV T t i) := by
 have hb := fwdI_in h.fwd ht i
 have hl := emit_row h ht i
 have ho := outI_in h ht i
 exact (h.emits.2 _ (getD_memL (d := []) (i := (fwdI T.fn t i).toNat) (by have := h.emits.1; omega))).2 _ (getD_memL (by omega))
def cutsTo (c : List Int) (x : Int) : Nat := (c.filter fun y => decide (y <= x)).length
def lettI (T : Tab) (x : Int) : Int := T.letters.getD (cutsTo T.cuts x - 1) 0
theorem rise_lt {c : List Int} (h : ∀ i, i + 1 < c.length -> c.getD i 0 < c.getD (i + 1) 0) : ∀ j i, i < j -> j < c.length -> c.getD i 0 < c.getD j 0 := by
 intro j
 induction j with
 | zero => intro i hi; omega
 | succ j ih =>
   intro i hi hj
   have h1 := h j hj
   by_cases e : i = j
   ·subst e; exact h1
   ·have := ih i (by omega) (by omega); omega
theorem cutsTo_spec : ∀ (c : List Int) (x : Int), (∀ i, i + 1 < c.length -> c.getD i 0 < c.getD (i + 1) 0) -> cutsTo c x <= c.length /\ (∀ t, t < cutsTo c x -> c.getD t 0 <= x) /\ ∀ t, cutsTo c x <= t -> t < c.length -> x < c.getD t 0
 | [], x, _ => ⟨Nat.zero_le _, fun t ht => absurd ht (Nat.not_lt_zero t), fun t _ ht => absurd ht (Nat.not_lt_zero t)⟩
 | a :: c, x, h => by
   have hs : ∀ i, i + 1 < c.length -> c.getD i 0 < c.getD (i + 1) 0 := fun i hi => h (i + 1) (by simpa using hi)
   obtain ⟨h1, h2, h3⟩ := cutsTo_spec c x hs
   by_cases ha : a <= x
   ·have e : cutsTo (a :: c) x = cutsTo c x + 1 := by simp [cutsTo, ha]
    rw [e]
    refine ⟨by simpa using h1, fun t ht => ?_, fun t ht hl => ?_⟩
    ·cases t with
     | zero => exact ha
     | succ t => exact h2 t (by omega)
    ·cases t with
     | zero => omega
     | succ t => exact h3 t (by omega) (by simpa using hl)
   ·have hall : ∀ t, t < c.length -> x < c.getD t 0 := fun t ht => by
     have := rise_lt h (t + 1) 0 (by omega) (by simpa using ht)
     have e0 : (a :: c).getD 0 0 = a := rfl
     have e1 : (a :: c).getD (t + 1) 0 = c.getD t 0 := rfl
     omega
    have ez : c.filter (fun y => decide (y <= x)) = [] := by
     rw [List.filter_eq_nil_iff]
     intro y hy
     obtain ⟨i, hi, rfl⟩ := List.getElem_of_mem hy
     have := hall i hi
     rw [List.getD_eq_getElem?_getD, List.getElem?_eq_getElem hi] at this
     simp only [Option.getD_some] at this
     simp only [decide_eq_true_eq]
     omega
    have e : cutsTo (a :: c) x = 0 := by simp [cutsTo, ha, ez]
    rw [e]
    refine ⟨Nat.zero_le _, fun t ht => absurd ht (Nat.not_lt_zero t), fun t _ hl => ?_⟩
    cases t with
    | zero => show x < a; omega
    | succ t => exact hall t (by simpa using hl)
theorem cutsTo_pos {T : Tab} (h : RightT T) {x : Int} (hx : 0 <= x) : 1 <= cutsTo T.cuts x /\ cutsTo T.cuts x <= T.cuts.length := by
 obtain ⟨h1, h2, h3⟩ := cutsTo_spec T.cuts x h.rise
 refine ⟨?_, h1⟩
 rcases Nat.eq_zero_or_pos (cutsTo T.cuts x) with e | e
 ·have h0 := h3 0 (by omega) (by have := h.len.1; omega)
  have := h.zero
  omega
 ·exact e
theorem cntL_mono (l : List Int) {i j : Nat} (h : i <= j) : cntL (l.take i) <= cntL (l.take j) := by
 have step : ∀ i, cntL (l.take i) <= cntL (l.take (i + 1)) := fun i => by
  by_cases hi : i < l.length
  ·rw [cntL_take_succ hi]; split <;> omega
  ·rw [List.take_of_length_le (show l.length <= i by omega), List.take_of_length_le (show l.length <= i + 1 by omega)]
   exact Nat.le_refl _
 induction j with
 | zero => rw [show i = 0 by omega]; exact Nat.le_refl _
 | succ j ih =>
   by_cases e : i = j + 1
   ·subst e; exact Nat.le_refl _
   ·exact Nat.le_trans (ih (by omega)) (step j)
theorem lettered_lt {l : List Int} (h : LetteredI l) {i : Nat} (hi : i < l.length) : 0 <= l.getD i 0 /\ l.getD i 0 < (cntL l : Int) := by
 obtain ⟨h0, h1⟩ := h i hi
 refine ⟨h0, ?_⟩
 have hs := cntL_take_succ hi
 have hm := cntL_mono l (i := i + 1) (j := l.length) (by omega)
 rw [List.take_length] at hm
 by_cases e : l.getD i 0 = (cntL (l.take i) : Int)
 ·rw [if_pos e] at hs; omega
 ·rw [if_neg e] at hs; omega
theorem lettI_in {T : Tab} (h : RightT T) {x : Int} (hx : 0 <= x) : 0 <= lettI T x /\ lettI T x < (cntL T.letters : Int) := by
 obtain ⟨h1, h2⟩ := cutsTo_pos h hx
 exact lettered_lt h.lettered (by have := h.lets; omega)
def textI (T : Tab) (s : List Int) : List Int := s.map (lettI T)
theorem textI_in {T : Tab} (h : RightT T) {s : List Int} (hs : ∀ x ∈ s, 0 <= x) : TextI T (textI T s) := fun a ha => by
 obtain ⟨x, hx, rfl⟩ := List.mem_map.1 ha
 exact lettI_in h (hs x hx)
def cheapI (f : Nat -> Int) (inf : Int) : Nat -> Nat -> Nat × Int
 | lo, 0 => (0, inf)
 | lo, n + 1 => let p := cheapI f inf lo n
   if f (lo + n) < inf /\ f (lo + n) <= p.2 then (lo + n, f (lo + n)) else p
theorem cheapI_le (f : Nat -> Int) (inf : Int) (lo : Nat) : ∀ n, (cheapI f inf lo n).2 <= inf
 | 0 => Int.le_refl _
 | n + 1 => by
   simp only [cheapI]
   split
   ·rename_i h; show f (lo + n) <= inf; omega
   ·exact cheapI_le f inf lo n
theorem cheapI_min (f : Nat -> Int) (inf : Int) (lo : Nat) : ∀ n j, j < n -> (cheapI f inf lo n).2 <= f (lo + j) \/ inf <= f (lo + j)
 | 0, j, h => absurd h (Nat.not_lt_zero j)
 | n + 1, j, h => by
   simp only [cheapI]
   by_cases e : j = n
   ·subst e
    split
    ·exact .inl (Int.le_refl _)
    ·rename_i hn
     have := cheapI_le f inf lo j
     omega
   ·rcases cheapI_min f inf lo n j (by omega) with q | q
    ·split
     ·rename_i hn; left; show f (lo + n) <= f (lo + j); omega
     ·exact .inl q
    ·exact .inr q
theorem cheapI_at (f : Nat -> Int) (inf : Int) (lo : Nat) : ∀ n, ((cheapI f inf lo n).2 < inf /\ ∃ j, j < n /\ (cheapI f inf lo n).1 = lo + j /\ f (lo + j) = (cheapI f inf lo n).2 /\ ∀ q, j < q -> q < n -> (cheapI f inf lo n).2 < f (lo + q)) \/ ((cheapI f inf lo n) = (0, inf) /\ ∀ j, j < n -> inf <= f (lo + j))
 | 0 => .inr ⟨rfl, fun j h => absurd h (Nat.not_lt_zero j)⟩
 | n + 1 => by
   simp only [cheapI]
   split
   ·rename_i hn
    exact .inl ⟨hn.1, n, by omega, rfl, rfl, fun q h1 h2 => by omega⟩
   ·rename_i hn
    rcases cheapI_at f inf lo n with ⟨h1, j, h2, h3, h4, h5⟩ | ⟨h1, h2⟩
    ·refine .inl ⟨h1, j, by omega, h3, h4, fun q hq1 hq2 => ?_⟩
     by_cases e : q = n
     ·subst e; omega
     ·exact h5 q hq1 (by omega)
    ·refine .inr ⟨h1, fun j hj => ?_⟩
     by_cases e : j = n
     ·subst e
      rw [h1] at hn
      simp only at hn
      omega
     ·exact h2 j (by omega)
end Go.Proofs.Ytacgakkcpmhgmaa
namespace Go.Proofs.Ytacgakkcpmhgmaa
open Go
structure CL where
 c : List Int
 l : List Int
 next : Nat
def CL.push (s : CL) (d : Int) (z : Nat) : CL := ⟨s.c ++ [s.c.getD (s.c.length - 1) 0 + d], s.l ++ [(z : Int)], if z = s.next then s.next + 1 else s.next⟩
def zOf (n next : Nat) (k : Int) : Nat := if (next : Int) < k % (n : Int) then next else (k % (n : Int)).toNat
def stepCL (n : Nat) (s : CL) (x : Int) : CL := s.push (1 + x % 1073741824 / 8 % 1000) (zOf n s.next (x % 1073741824))
def fillCL : Nat -> CL -> CL
 | 0, s => s
 | j + 1, s => fillCL j (s.push 3 s.next)
def startCL : CL := ⟨[0], [0], 1⟩
def someCL (n : Nat) (l : List Int) : CL := l.foldl (stepCL n) startCL
def makeCL (n : Nat) (cs : List Int) : CL := fillCL (n - (someCL n (cs.take 6)).next) (someCL n (cs.take 6))
theorem someCL_snoc (n : Nat) (l : List Int) (x : Int) : someCL n (l ++ [x]) = stepCL n (someCL n l) x := by simp [someCL, List.foldl_append]
structure CLOk (n : Nat) (s : CL) : Prop where
 len : s.l.length = s.c.length
 pos : 0 < s.c.length
 rise : ∀ i, i + 1 < s.c.length -> s.c.getD i 0 < s.c.getD (i + 1) 0
 zero : s.c.getD 0 0 = 0
 bound : ∀ x ∈ s.c, 0 <= x /\ x <= 1003 * (s.c.length : Int)
 lettered : LetteredI s.l
 cnt : cntL s.l = s.next
 one : 1 <= s.next
 le : s.next <= n
theorem getD_app1 {l m : List Int} {i : Nat} (h : i < l.length) : (l ++ m).getD i 0 = l.getD i 0 := by simp [List.getD_eq_getElem?_getD, List.getElem?_append_left h]
theorem getD_app2 {l : List Int} {x : Int} : (l ++ [x]).getD l.length 0 = x := by simp [List.getD_eq_getElem?_getD]
theorem CLOk.start {n : Nat} (hn : 0 < n) : CLOk n startCL :=
 ⟨rfl, by decide, fun i hi => by simp [startCL] at hi, rfl, fun x hx => by simp [startCL] at hx; subst hx; simp [startCL], fun i hi => by
  have : i = 0 := by simp [startCL] at hi; omega
  subst this
  exact ⟨by decide, by decide⟩, by decide, Nat.le_refl _, hn⟩
theorem CLOk.push {n : Nat} {s : CL} (h : CLOk n s) {d : Int} {z : Nat} (hd : 1 <= d /\ d <= 1003) (hz : z <= s.next) (hz2 : z < n) : CLOk n (s.push d z) := by
 have hl := h.len
 have hp := h.pos
 have hb := h.bound (s.c.getD (s.c.length - 1) 0) (getD_mem (by omega))
 have hle := h.le
 have h1 := h.one
 refine ⟨by simp [CL.push, hl], by simp [CL.push], fun i hi => ?_, ?_, fun x hx => ?_, fun i hi => ?_, ?_, ?_, ?_⟩
 ·simp only [CL.push, List.length_append, List.length_cons, List.length_nil] at hi ⊢
  rcases Nat.lt_or_ge (i + 1) s.c.length with r | r
  ·rw [getD_app1 (by omega), getD_app1 r]; exact h.rise i r
  ·have e : i + 1 = s.c.length := by omega
   rw [getD_app1 (by omega), e, getD_app2]
   have e2 : s.c.length - 1 = i := by omega
   rw [e2]
   omega
 ·simp only [CL.push]; rw [getD_app1 hp]; exact h.zero
 ·simp only [CL.push, List.mem_append, List.mem_singleton, List.length_append, List.length_cons, List.length_nil] at hx ⊢
  rcases hx with hx | rfl
  ·have := h.bound x hx; omega
  ·omega
 ·simp only [CL.push, List.length_append, List.length_cons, List.length_nil] at hi ⊢
  rcases Nat.lt_or_ge i s.l.length with r | r
  ·rw [getD_app1 r, List.take_append_of_le_length (by omega)]
   exact h.lettered i r
  ·have e : i = s.l.length := by omega
   rw [e, getD_app2, List.take_left' rfl, h.cnt]
   omega
 ·simp only [CL.push]
  rw [cntL_snoc, h.cnt]
  by_cases e : z = s.next
  ·rw [if_pos e, if_pos (by omega)]
  ·rw [if_neg e, if_neg (by omega)]
 ·simp only [CL.push]; split <;> omega
 ·simp only [CL.push]; split <;> omega
theorem zOf_le {n next : Nat} {k : Int} (hk : 0 <= k) (hn : 0 < n) : zOf n next k <= next /\ (next <= n -> zOf n next k < n) := by
 have h0 := Int.emod_nonneg k (show (n : Int) ≠ 0 by omega)
 have h1 := Int.emod_lt_of_pos k (show (0 : Int) < (n : Int) by omega)
 unfold zOf
 split
 ·exact ⟨Nat.le_refl _, fun h => by omega⟩
 ·exact ⟨by omega, fun h => by omega⟩
theorem CLOk.step {n : Nat} {s : CL} (h : CLOk n s) (hn : 0 < n) (x : Int) : CLOk n (stepCL n s x) := by
 have hk := Int.emod_nonneg x (show (1073741824 : Int) ≠ 0 by decide)
 have hz := zOf_le (n := n) (next := s.next) hk hn
 exact h.push ⟨by omega, by omega⟩ hz.1 (hz.2 h.le)
theorem someCL_ok {n : Nat} (hn : 0 < n) (l : List Int) : CLOk n (someCL n l) := by
 unfold someCL
 have : ∀ (l : List Int) (s : CL), CLOk n s -> CLOk n (l.foldl (stepCL n) s) := by
  intro l
  induction l with
  | nil => exact fun s h => h
  | cons x l ih => exact fun s h => ih _ (h.step hn x)
 exact this l _ (CLOk.start hn)
theorem someCL_len (n : Nat) (l : List Int) : (someCL n l).c.length = l.length + 1 /\ (someCL n l).l.length = l.length + 1 := by
 unfold someCL
 have : ∀ (l : List Int) (s : CL), (l.foldl (stepCL n) s).c.length = l.length + s.c.length /\ (l.foldl (stepCL n) s).l.length = l.length + s.l.length := by
  intro l
  induction l with
  | nil => exact fun s => ⟨by simp, by simp⟩
  | cons x l ih => intro s; have := ih (stepCL n s x); simp only [List.foldl_cons, List.length_cons, stepCL, CL.push, List.length_append, List.length_nil] at this ⊢; omega
 exact this l startCL
theorem fillCL_ok {n : Nat} : ∀ (j : Nat) (s : CL), CLOk n s -> j + s.next <= n -> CLOk n (fillCL j s) /\ (fillCL j s).next = s.next + j /\ (fillCL j s).c.length = s.c.length + j
 | 0, s, h, _ => ⟨h, rfl, rfl⟩
 | j + 1, s, h, hj => by
   have h2 := h.push (d := 3) (z := s.next) ⟨by decide, by decide⟩ (Nat.le_refl _) (by omega)
   have e : (s.push 3 s.next).next = s.next + 1 := by simp [CL.push]
   have e2 : (s.push 3 s.next).c.length = s.c.length + 1 := by simp [CL.push]
   obtain ⟨a, b, c⟩ := fillCL_ok j (s.push 3 s.next) h2 (by rw [e]; omega)
   exact ⟨a, by rw [show fillCL (j + 1) s = fillCL j (s.push 3 s.next) from rfl, b, e]; omega, by rw [show fillCL (j + 1) s = fillCL j (s.push 3 s.next) from rfl, c, e2]; omega⟩
theorem makeCL_alpha {n : Nat} (hn : 0 < n) (hn9 : n <= 1000) (cs : List Int) : AlphaR (makeCL n cs).c (makeCL n cs).l /\ cntL (makeCL n cs).l = n := by
 have h0 := someCL_ok hn (cs.take 6)
 have hl := (someCL_len n (cs.take 6)).1
 rw [List.length_take] at hl
 obtain ⟨h, h1, h2⟩ := fillCL_ok (n - (someCL n (cs.take 6)).next) _ h0 (by have := h0.le; omega)
 have hle := h0.le
 have hlen : (makeCL n cs).c.length <= 1007 := by unfold makeCL; rw [h2]; omega
 refine ⟨⟨⟨h.pos, by omega⟩, h.len, ⟨h.rise, h.zero, fun x hx => ?_⟩, h.lettered⟩, ?_⟩
 ·have := h.bound x hx
  unfold makeCL at hlen
  omega
 ·unfold makeCL
  rw [h.cnt, h1]
  omega
def knownT : Tab := ⟨[0], [0], [[0]], [0], [[0]], [[(1, 2, 3)]]⟩
def noT : Tab := ⟨[], [], [], [], [], []⟩
theorem lead_one : LeadI [[0]] 1 := ⟨by decide, by decide, fun r hr => by
 simp only [List.mem_singleton] at hr
 subst hr
 exact ⟨rfl, fun x hx => by simp only [List.mem_singleton] at hx; subst hx; decide⟩⟩
theorem knownT_right : RightT knownT := by
 refine (rightT_parts _).2 ⟨⟨⟨by decide, by decide⟩, rfl, ⟨fun i hi => by simp [knownT] at hi, rfl, fun x hx => ?_⟩, fun i hi => ?_⟩, ⟨lead_one, rfl, fun o ho => ?_⟩, lead_one, rfl, fun r hr => ?_⟩
 ·simp only [knownT, List.mem_singleton] at hx
  subst hx
  decide
 ·have : i = 0 := by simp [knownT] at hi; omega
  subst this
  exact ⟨by decide, by decide⟩
 ·simp only [knownT, List.mem_singleton] at ho
  subst ho
  decide
 ·simp only [knownT, List.mem_singleton] at hr
  subst hr
  refine ⟨by decide, fun v hv => ?_⟩
  simp only [List.mem_singleton] at hv
  subst hv
  unfold CostV
  decide
theorem noT_not : ¬ RightT noT := fun h => by
 have := h.len.1
 simp [noT] at this
theorem saveT_ne (t : Tab) : saveT t ≠ [] := fun e => by
 have := saveT_len t
 rw [e] at this
 simp at this
end Go.Proofs.Ytacgakkcpmhgmaa
