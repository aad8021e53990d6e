/- Contract of set.And. -/
import Derived.Test.YtfccnadbiglagaaGreatVSetD
set_option linter.unusedVariables false
set_option linter.unusedSimpArgs false
set_option maxRecDepth 100000
set_option maxHeartbeats 4000000
namespace Go.Proofs.YtfccnadbiglagaaGreat
open Go Go.RowKit
theorem ReadsP.tl {w : World} {b off cap n : Nat} {r : Int × Int} {l : List (Int × Int)} (h : ReadsP w (.slice (some ⟨b, off, none⟩) n cap) n (r :: l)) :
  ReadsP w (.slice (if cap = 1 then some ⟨b, off, none⟩ else some ⟨b, off + 2, none⟩) (n - 1) (cap - 1)) (n - 1) l := by
  obtain ⟨h1, a', cap', h2, h5, h6, h3, h4⟩ := h
  simp only [Value.slice.injEq, true_and] at h2
  obtain ⟨rfl, rfl⟩ := h2
  simp only [List.length_cons] at h1
  refine ⟨by omega, _, cap - 1, rfl, by omega, by omega, (fun e => by split at e <;> cases e), fun i hi => ?_⟩
  rw [if_neg (by omega)]
  obtain ⟨b', off', e, hcl⟩ := h4 0 (by omega)
  simp only [Option.some.injEq, Addr.mk.injEq] at e
  obtain ⟨rfl, rfl, _⟩ := e
  refine ⟨b, off + 2, rfl, fun j hj => ?_⟩
  have := hcl (j + 1) (by omega)
  rw [show off + (j + 1) * 2 = off + 2 + j * 2 by omega] at this
  exact this
theorem keepA {w : World} {b o : Nat} {x : Value} (h : w.cell? ⟨b, o, none⟩ = some x) (ob : Obj) : (w.alloc ob).drew.cell? ⟨b, o, none⟩ = some x := by
 show (w.alloc ob).cell? _ = _
 rw [World.cell?_alloc_past ob b o (World.block_lt_of_cell? w _ h)]; exact h
def andF : Nat -> List (Int × Int) -> List (Int × Int) -> List (Int × Int)
 | f + 1, r :: a, s :: b => (if max r.1 s.1 <= min r.2 s.2 then [(max r.1 s.1, min r.2 s.2)] else []) ++ (if r.2 < s.2 then andF f a (s :: b) else andF f (r :: a) b)
 | _, _, _ => []
theorem _root_.Go.RowKit.Below.drewN' {C : Nat} {w w' : World} (h : Below C w w') (k : Nat) : Below C w (w'.drewN k) := ⟨h.1, h.2, h.3, h.4, h.5⟩
theorem andF_step (f : Nat) (x1 x2 y1 y2 : Int) (a b : List (Int × Int)) : andF (f + 1) ((x1, x2) :: a) ((y1, y2) :: b) = (if max x1 y1 <= min x2 y2 then [(max x1 y1, min x2 y2)] else []) ++ (if x2 < y2 then andF f a ((y1, y2) :: b) else andF f ((x1, x2) :: a) b) := by simp [andF]
theorem andF_nil1 (f : Nat) (b : List (Int × Int)) : andF f [] b = [] := by cases f <;> simp [andF]
theorem andF_nil2 (f : Nat) (a : List (Int × Int)) : andF f a [] = [] := by cases f <;> cases a <;> simp [andF]
def lenV : Value -> Nat | .slice _ n _ => n | _ => 0
theorem and_walk {w : World} {v u : Value} {n m : Nat} {a b : List (Int × Int)} (h : ReadsP w v n a) (h' : ReadsP w u m b) (ha : Rt a) (hb : Rt b) :
  Calls Tryz.prog 120 #[v, u] w (Tells w (andF (n + m) a b)) := by
  have HA := Lib.hid ha; have HB := Lib.hid hb; clear ha hb
  have hn : n <= 557056 := by rw [<- h.1]; exact HA.out.short
  have hm : m <= 557056 := by rw [<- h'.1]; exact HB.out.short
  have H := Lib.hid h; have H' := Lib.hid h'; clear h h'
  go_enter Tryz.func120, Tryz.ntmps120
  go_wp2_with fail
  go_loopw [0, 1, 5] (fun p q s wr => ∃ (n' m' g : Nat) (a' b' G : List (Int × Int)), n' <= n /\ m' <= m /\ g + n' + m' <= n + m /\ Hid (ReadsP w p n' a') /\ Hid (ReadsP w q m' b') /\ Hid (∃ lo, RtFrom lo a') /\ Hid (∃ lo, RtFrom lo b') /\
    Hid (andF (n + m) a b = G ++ andF (n' + m') a' b') /\ Hid (OwnP wr w.heap.size s g G) /\ Hid (Below w.heap.size w wr)) (fun p q _ _ => lenV p + lenV q)
  case atStart => exact ⟨n, m, 0, a, b, [], Nat.le_refl _, Nat.le_refl _, by omega, H, H', Lib.hid ⟨0, HA.out⟩, Lib.hid ⟨0, HB.out⟩, Lib.hid rfl, Lib.hid (OwnP.nil _ _), Lib.hid (Below.refl _ _)⟩
  case round =>
   obtain ⟨n', m', g, a', b', G, hn', hm', hg, R, R', T, T', HF, HV, HW⟩ := hrel
   obtain ⟨x0, cap, rfl, hc, hcm, hla⟩ := R.out.form
   obtain ⟨y0, cap', rfl, hc', hcm', hlb⟩ := R'.out.form
   have hz := HW.out.size
   by_cases h1 : 0 < n'
   ·by_cases h2 : 0 < m'
    ·obtain ⟨x, a2, rfl⟩ : ∃ x a2, a' = x :: a2 := by cases a' with | nil => simp at hla; omega | cons x a2 => exact ⟨x, a2, rfl⟩
     obtain ⟨y, b2, rfl⟩ : ∃ x a2, b' = x :: a2 := by cases b' with | nil => simp at hlb; omega | cons x a2 => exact ⟨x, a2, rfl⟩
     obtain ⟨lo, t1, t2, t3, t4⟩ := T.out
     obtain ⟨lo', t1', t2', t3', t4'⟩ := T'.out
     obtain ⟨ba, oa, rfl, hba, ca1, ca2⟩ := R.out.at 0 h1
     obtain ⟨bb, ob, rfl, hbb, cb1, cb2⟩ := R'.out.at 0 h2
     obtain ⟨x1, x2⟩ := x
     obtain ⟨y1, y2⟩ := y
     simp only [List.getD_cons_zero, Nat.zero_mul, Nat.add_zero] at ca1 ca2 cb1 cb2 t1 t2 t3 t1' t2' t3'
     have ca1 := (HW.out.cell (p := ⟨ba, oa, none⟩) hba).trans ca1
     have ca2 := (HW.out.cell (p := ⟨ba, oa + 1, none⟩) hba).trans ca2
     have cb1 := (HW.out.cell (p := ⟨bb, ob, none⟩) hbb).trans cb1
     have cb2 := (HW.out.cell (p := ⟨bb, ob + 1, none⟩) hbb).trans cb2
     have hba2 : ba < wr.heap.size := by omega
     have hbb2 : bb < wr.heap.size := by omega
     have HT := Lib.hid t4; have HT' := Lib.hid t4'; clear t4 t4' hla hlb
     have i1 : (0 : Int) < (n' : Int) := by omega
     have i2 : (0 : Int) < (m' : Int) := by omega
     go_wp2_with fail
     go_region
     generalize he1 : (if x1 < y1 then y1 else x1) = p at *
     generalize he2 : (if y2 < x2 then y2 else x2) = q at *
     have P1 := Lib.hid (show p = max x1 y1 by rw [<- he1]; split <;> omega)
     have P2 := Lib.hid (show q = min x2 y2 by rw [<- he2]; split <;> omega)
     clear he1 he2
     obtain ⟨k1, k2⟩ := (show (wr.alloc (.cells #[.int .i64 p, .int .i64 q] 131)).drew.cell? ⟨wr.heap.size, 0, none⟩ = some (.int .i64 p) /\ (wr.alloc (.cells #[.int .i64 p, .int .i64 q] 131)).drew.cell? ⟨wr.heap.size, 1, none⟩ = some (.int .i64 q) from new2 wr _ _ _)
     have s1 := keepA ca1 (.cells #[.int .i64 p, .int .i64 q] 131)
     have s2 := keepA ca2 (.cells #[.int .i64 p, .int .i64 q] 131)
     have s3 := keepA cb1 (.cells #[.int .i64 p, .int .i64 q] 131)
     have s4 := keepA cb2 (.cells #[.int .i64 p, .int .i64 q] 131)
     have V2 := Lib.hid ((HV.out.alloc (.cells #[.int .i64 p, .int .i64 q] 131)).drew)
     have W2 := Lib.hid ((HW.out.alloc hz (.cells #[.int .i64 p, .int .i64 q] 131)).drew)
     clear ca1 ca2 cb1 cb2
     generalize (wr.alloc (.cells #[.int .i64 p, .int .i64 q] 131)).drew = W at *
     have hz2 := W2.out.size
     by_cases hpq : p <= q
     ·go_wp2_with (at_builtin; refine wpList_pushP rfl (.tmp 39) (.tmp 41) rfl w.heap.size _ _ _ _ _ _ (by rfl) V2.out _ (by rfl) rfl (by omega) hz2 ?_
                   intro g1 c1 w2 hp1
                   have HP1 := Lib.hid hp1
                   have s1' := hp1.cell s1 (fun e => by have := (V2.out.lt _ e.symm).1; omega)
                   have s2' := hp1.cell s2 (fun e => by have := (V2.out.lt _ e.symm).1; omega)
                   have s3' := hp1.cell s3 (fun e => by have := (V2.out.lt _ e.symm).1; omega)
                   have s4' := hp1.cell s4 (fun e => by have := (V2.out.lt _ e.symm).1; omega)
                   clear hp1 s1 s2 s3 s4 k1 k2)
      have hf : n' + m' = (n' + m' - 1) + 1 := by omega
      have HS := Lib.hid (andF_step (n' + m' - 1) x1 x2 y1 y2 a2 b2); rw [<- hf] at HS
      have HFL := Lib.hid hf; clear hf
      go_quiet (fail)
      by_cases hxy : x2 < y2
      ·go_wp2_with fail
       refine ⟨⟨n' - 1, m', (g + 1), a2, (y1, y2) :: b2, (G ++ [(p, q)]), by omega, by omega, by omega, Lib.hid R.out.tl, R', Lib.hid ⟨_, HT.out⟩, T', Lib.hid ?_, Lib.hid (HP1.out.own.drewN _), Lib.hid (Below.drewN' (HP1.out.below W2.out (Nat.le_refl _) hz2) _)⟩, by simp [lenV]; omega⟩
       rw [HF.out, HS.out, if_pos (by rw [<- P1.out, <- P2.out]; exact hpq), if_pos hxy, P1.out, P2.out, show n' - 1 + m' = n' + m' - 1 by omega]; simp
      ·go_wp2_with fail
       refine ⟨⟨n', m' - 1, (g + 1), (x1, x2) :: a2, b2, (G ++ [(p, q)]), by omega, by omega, by omega, R, Lib.hid R'.out.tl, T, Lib.hid ⟨_, HT'.out⟩, Lib.hid ?_, Lib.hid (HP1.out.own.drewN _), Lib.hid (Below.drewN' (HP1.out.below W2.out (Nat.le_refl _) hz2) _)⟩, by simp [lenV]; omega⟩
       rw [HF.out, HS.out, if_pos (by rw [<- P1.out, <- P2.out]; exact hpq), if_neg (by omega), P1.out, P2.out, show n' + (m' - 1) = n' + m' - 1 by omega]; simp
     ·go_wp2_with fail
      have hf : n' + m' = (n' + m' - 1) + 1 := by omega
      have HS := Lib.hid (andF_step (n' + m' - 1) x1 x2 y1 y2 a2 b2); rw [<- hf] at HS
      have HFL := Lib.hid hf; clear hf
      go_quiet (fail)
      by_cases hxy : x2 < y2
      ·go_wp2_with fail
       refine ⟨⟨n' - 1, m', g, a2, (y1, y2) :: b2, G, by omega, by omega, by omega, Lib.hid R.out.tl, R', Lib.hid ⟨_, HT.out⟩, T', Lib.hid ?_, Lib.hid (V2.out.drewN _), Lib.hid (Below.drewN' W2.out _)⟩, by simp [lenV]; omega⟩
       rw [HF.out, HS.out, if_neg (by rw [<- P1.out, <- P2.out]; omega), if_pos hxy, show n' - 1 + m' = n' + m' - 1 by omega]; simp
      ·go_wp2_with fail
       refine ⟨⟨n', m' - 1, g, (x1, x2) :: a2, b2, G, by omega, by omega, by omega, R, Lib.hid R'.out.tl, T, Lib.hid ⟨_, HT'.out⟩, Lib.hid ?_, Lib.hid (V2.out.drewN _), Lib.hid (Below.drewN' W2.out _)⟩, by simp [lenV]; omega⟩
       rw [HF.out, HS.out, if_neg (by rw [<- P1.out, <- P2.out]; omega), if_neg (by omega), show n' + (m' - 1) = n' + m' - 1 by omega]; simp
    ·have i1 : (0 : Int) < (n' : Int) := by omega
     obtain rfl : m' = 0 := by omega
     obtain rfl : b' = [] := List.eq_nil_of_length_eq_zero hlb
     go_wp2_with fail
     go_ret
     exact ⟨_, rfl, HV.out.cast (by rw [HF.out, andF_nil2]; simp; exact HV.out.len.symm) (by rw [HF.out, andF_nil2]; simp), HW.out⟩
   ·obtain rfl : n' = 0 := by omega
    obtain rfl : a' = [] := List.eq_nil_of_length_eq_zero hla
    go_wp2_with fail
    go_ret
    exact ⟨_, rfl, HV.out.cast (by rw [HF.out, andF_nil1]; simp; exact HV.out.len.symm) (by rw [HF.out, andF_nil1]; simp), HW.out⟩
theorem andF_is (f : Nat) : ∀ (a b : List (Int × Int)) (lo lo' : Int), a.length + b.length <= f -> RtFrom lo a -> RtFrom lo' b ->
  RtFrom (max lo lo') (andF f a b) /\ ∀ n, inS (andF f a b) n ↔ inS a n /\ inS b n := by
  induction f with
  | zero =>
    intro a b lo lo' hl _ _
    obtain rfl : a = [] := List.eq_nil_of_length_eq_zero (by omega)
    rw [andF_nil1]
    exact ⟨trivial, fun n => ⟨fun h => absurd h (inS_nil n), fun h => absurd h.1 (inS_nil n)⟩⟩
  | succ f ih =>
    intro a b lo lo' hl ha hb
    cases a with
    | nil => rw [andF_nil1]; exact ⟨trivial, fun n => ⟨fun h => absurd h (inS_nil n), fun h => absurd h.1 (inS_nil n)⟩⟩
    | cons x a =>
    cases b with
    | nil => rw [andF_nil2]; exact ⟨trivial, fun n => ⟨fun h => absurd h (inS_nil n), fun h => absurd h.2 (inS_nil n)⟩⟩
    | cons y b =>
      obtain ⟨x1, x2⟩ := x
      obtain ⟨y1, y2⟩ := y
      have ha' := ha
      have hb' := hb
      obtain ⟨a1, a2, a3, a4⟩ := ha
      obtain ⟨b1, b2, b3, b4⟩ := hb
      simp only at a1 a2 a3 a4 b1 b2 b3 b4
      simp only [List.length_cons] at hl
      rw [andF_step]
      by_cases hxy : x2 < y2
      ·rw [if_pos hxy]
       have hy : RtFrom (max y1 (x2 + 1)) ((max y1 (x2 + 1), y2) :: b) := ⟨Int.le_refl _, by simp only; omega, b3, b4⟩
       obtain ⟨p, q⟩ := ih a ((y1, y2) :: b) (x2 + 2) y1 (by simp only [List.length_cons]; omega) a4 ⟨Int.le_refl _, b2, b3, b4⟩
       split
       ·rename_i hc
        refine ⟨⟨by omega, hc, by simp only; omega, p.le (by simp only; omega)⟩, fun n => ?_⟩
        rw [List.singleton_append, inS_cons, q, inS_cons, inS_cons]
        simp only
        constructor
        ·rintro (h | h)
         ·exact ⟨.inl (by omega), .inl (by omega)⟩
         ·exact ⟨.inr h.1, h.2⟩
        ·rintro ⟨h | h, h'⟩
         ·rcases h' with h' | h'
          ·exact .inl (by omega)
          ·have := b4.num h'; omega
         ·exact .inr ⟨h, h'⟩
       ·rename_i hc
        refine ⟨p.le (by omega), fun n => ?_⟩
        rw [List.nil_append, q, inS_cons, inS_cons]
        simp only
        constructor
        ·rintro h
         exact ⟨.inr h.1, h.2⟩
        ·rintro ⟨h | h, h'⟩
         ·rcases h' with h' | h'
          ·omega
          ·have := b4.num h'; omega
         ·exact ⟨h, h'⟩
      ·rw [if_neg hxy]
       obtain ⟨p, q⟩ := ih ((x1, x2) :: a) b x1 (y2 + 2) (by simp only [List.length_cons]; omega) ⟨Int.le_refl _, a2, a3, a4⟩ b4
       split
       ·rename_i hc
        refine ⟨⟨by omega, hc, by simp only; omega, p.le (by simp only; omega)⟩, fun n => ?_⟩
        rw [List.singleton_append, inS_cons, q, inS_cons, inS_cons]
        simp only
        constructor
        ·rintro (h | h)
         ·exact ⟨.inl (by omega), .inl (by omega)⟩
         ·exact ⟨h.1, .inr h.2⟩
        ·rintro ⟨h, h' | h'⟩
         ·rcases h with h | h
          ·exact .inl (by omega)
          ·have := a4.num h; omega
         ·exact .inr ⟨h, h'⟩
       ·rename_i hc
        refine ⟨p.le (by omega), fun n => ?_⟩
        rw [List.nil_append, q, inS_cons, inS_cons]
        simp only
        constructor
        ·rintro h
         exact ⟨h.1, .inr h.2⟩
        ·rintro ⟨h, h' | h'⟩
         ·rcases h with h | h
          ·omega
          ·have := a4.num h; omega
         ·exact ⟨h, h'⟩
theorem andF_eq {a b : List (Int × Int)} (ha : Rt a) (hb : Rt b) : andF (a.length + b.length) a b = andL a b := by
 obtain ⟨p, q⟩ := andF_is (a.length + b.length) a b 0 0 (Nat.le_refl _) ha hb
 exact canon p andL_rt fun n => by rw [q, andL_in ha hb]
theorem and_any {w : World} {v u : Value} {n m : Nat} {a b : List (Int × Int)} (h : ReadsP w v n a) (h' : ReadsP w u m b) (ha : Rt a) (hb : Rt b) :
  Calls Tryz.prog 120 #[v, u] w (Tells w (andL a b)) := by
  have := and_walk h h' ha hb
  rw [<- h.1, <- h'.1, andF_eq ha hb] at this
  exact this
end Go.Proofs.YtfccnadbiglagaaGreat
