/- The chapter's own comparisons, of two that are the same. The chapter's own Same, of two machines that are the same. The chapter's own Same, of two machines ahead that are the same. -/
import Derived.Test.YtdcokkgdahbinaaVMiniMc
set_option linter.unusedVariables false
set_option linter.unusedSimpArgs false
set_option maxRecDepth 100000
set_option maxHeartbeats 8000000
namespace Go.Proofs.Ytdcokkgdahbinaa
open Go Go.RowKit Go.Proofs
theorem eq_vec (x y z a b c : Int) (w : World) :
  (Op.equalIn 10000 53 (.agg #[.int .i64 x, .int .i64 y, .int .i64 z]) (.agg #[.int .i64 a, .int .i64 b, .int .i64 c])).run Try.prog w = .ok (x == a && (y == b && z == c)) w := by
  have hi : ∀ (p q : Int) (w : World), (Op.equalIn 9999 3 (.int .i64 p) (.int .i64 q)).run Try.prog w = .ok (p == q) w := fun p q w => run_equalIn_int w 9998 3 .i64 .i64 p q Try.underlying3
  have hs : ∀ w : World, (sizeOf 3).run Try.prog w = .ok 1 w := fun w => by kernel_rfl
  have p0 : ∀ (v0 v1 v2 : Value) (w : World), (part 3 #[v0, v1, v2] 0).run Try.prog w = .ok v0 w := fun v0 v1 v2 w => by kernel_rfl
  have p1 : ∀ (v0 v1 v2 : Value) (w : World), (part 3 #[v0, v1, v2] 1).run Try.prog w = .ok v1 w := fun v0 v1 v2 w => by kernel_rfl
  have p2 : ∀ (v0 v1 v2 : Value) (w : World), (part 3 #[v0, v1, v2] 2).run Try.prog w = .ok v2 w := fun v0 v1 v2 w => by kernel_rfl
  show (Op.equalIn (9999 + 1) 53 _ _).run Try.prog w = _
  rw [Op.equalIn]
  simp [Sem.run_bind, run_underlying Try.underlying53, hs]
  have r3 : List.range' 0 3 = [0, 1, 2] := rfl
  rw [r3]
  simp only [List.forIn_cons, List.forIn_nil, Sem.run_bind, Sem.run_ite, Sem.run_pure, hi, p0, Result.andThen_ok]
  by_cases h1 : (x == a) = false
  ·simp [h1]
  ·have h1 : (x == a) = true := by simpa using h1
   simp only [h1, Bool.true_eq_false, if_false, Result.andThen_ok, Sem.run_bind, Sem.run_ite, Sem.run_pure, p1, hi]
   by_cases h2 : (y == b) = false
   ·simp [h2]
   ·have h2 : (y == b) = true := by simpa using h2
    simp only [h2, Bool.true_eq_false, if_false, Result.andThen_ok, Sem.run_bind, Sem.run_ite, Sem.run_pure, p2, hi]
    by_cases h3 : (z == c) = false
    ·simp [h3]
    ·have h3 : (z == c) = true := by simpa using h3
     simp [h3]
theorem eq_same (x y z : Int) (w : World) :
  (Op.equalIn 10000 53 (.agg #[.int .i64 x, .int .i64 y, .int .i64 z]) (.agg #[.int .i64 x, .int .i64 y, .int .i64 z])).run Try.prog w = .ok true w := by rw [eq_vec]; simp
theorem ReadsI.dr {w : World} {v : Value} {n : Nat} {l : List Int} (h : ReadsI w v n l) (d : Nat) : ReadsI (w.drewN d) v n l := h
theorem ReadsE.dr {w : World} {v : Value} {n : Nat} {l : List V3} (h : ReadsE encV 3 w v n l) (d : Nat) : ReadsE encV 3 (w.drewN d) v n l := h
theorem ints_true {w : World} {A1 A2 : Option Addr} {n c1 c2 : Nat} {l : List Int} (h1 : ReadsI w (.slice A1 n c1) n l) (h2 : ReadsI w (.slice A2 n c2) n l) :
  Calls Try.prog 21 #[.slice A1 n c1, .slice A2 n c2] w fun e w' => e = .returned (.bool true) /\ ∃ d, w' = w.drewN d := by
  obtain ⟨a1, c1', e1, q1, q2, -⟩ := h1.form
  obtain ⟨a2, c2', e2, q3, q4, -⟩ := h2.form
  simp only [Value.slice.injEq, true_and] at e1 e2
  obtain ⟨rfl, rfl⟩ := e1
  obtain ⟨rfl, rfl⟩ := e2
  have H1 := Lib.hid h1; have H2 := Lib.hid h2
  clear h1 h2
  go_enter Try.func21, Try.ntmps21
  go_wp2_with fail
  go_loopw [5] (fun vi wr => ∃ i d : Nat, vi = .int .i64 (i : Int) /\ i <= n /\ wr = w.drewN d) (fun vi _ => n - (intOf vi).toNat)
  case atStart => exact ⟨0, 0, rfl, Nat.zero_le _, rfl⟩
  case round =>
   obtain ⟨i, d, rfl, hi, rfl⟩ := hrel
   have i0 : (0 : Int) <= (i : Int) := Int.natCast_nonneg _
   by_cases hlt : i < n
   ·have i1 : (i : Int) < (n : Int) := by omega
    have t1 : decide (i < n) = true := by simpa using hlt
    obtain ⟨g1, o1, e1, -, r1⟩ := H1.out.at i hlt
    obtain ⟨g2, o2, e2, -, r2⟩ := H2.out.at i hlt
    subst e1 e2
    generalize l.getD i 0 = x at *
    go_wp2_with fail
    go_big_quiet (fail)
    go_wp2_with fail
    exact ⟨⟨i + 1, _, by go_num, by omega, rfl⟩, by simp [intOf]; omega⟩
   ·go_wp2_with fail
    go_ret
    exact ⟨rfl, d, rfl⟩
theorem vecs_true {w : World} {A1 A2 : Option Addr} {n c1 c2 : Nat} {l : List V3} (h1 : ReadsE encV 3 w (.slice A1 n c1) n l) (h2 : ReadsE encV 3 w (.slice A2 n c2) n l) :
  Calls Try.prog 26 #[.slice A1 n c1, .slice A2 n c2] w fun e w' => e = .returned (.bool true) /\ ∃ d, w' = w.drewN d := by
  obtain ⟨hl1, a1, c1', e1, q1, q2, -⟩ := id h1
  obtain ⟨-, a2, c2', e2, q3, q4, -⟩ := id h2
  simp only [Value.slice.injEq, true_and] at e1 e2
  obtain ⟨rfl, rfl⟩ := e1
  obtain ⟨rfl, rfl⟩ := e2
  unfold maxLen at q2 q4
  have H1 := Lib.hid h1; have H2 := Lib.hid h2; have HL := Lib.hid hl1
  clear h1 h2 hl1
  have heq := eq_same
  go_enter Try.func26, Try.ntmps26
  go_wp2_with fail
  go_loopw [5] (fun vi wr => ∃ i d : Nat, vi = .int .i64 (i : Int) /\ i <= n /\ wr = w.drewN d) (fun vi _ => n - (intOf vi).toNat)
  case atStart => exact ⟨0, 0, rfl, Nat.zero_le _, rfl⟩
  case round =>
   obtain ⟨i, d, rfl, hi, rfl⟩ := hrel
   have i0 : (0 : Int) <= (i : Int) := Int.natCast_nonneg _
   by_cases hlt : i < n
   ·have i1 : (i : Int) < (n : Int) := by omega
    have t1 : decide (i < n) = true := by simpa using hlt
    have hil : i < l.length := by rw [HL.out]; exact hlt
    obtain ⟨u, hu⟩ : ∃ u, l[i]? = some u := ⟨_, List.getElem?_eq_getElem hil⟩
    obtain ⟨g1, o1, e1, -, r1⟩ := H1.out.at encV_len (by decide) i u hu
    obtain ⟨g2, o2, e2, -, r2⟩ := H2.out.at encV_len (by decide) i u hu
    subst e1 e2
    obtain ⟨x, y, z⟩ := u
    have s0 := r1 0 _ rfl; have s1 := r1 1 _ rfl; have s2 := r1 2 _ rfl
    have p0 := r2 0 _ rfl; have p1 := r2 1 _ rfl; have p2 := r2 2 _ rfl
    rw [Nat.add_zero] at s0 p0
    clear r1 r2 hu hil
    go_wp2_with fail
    go_big_quiet (fail)
    go_wp2_with fail
    exact ⟨⟨i + 1, _, by go_num, by omega, rfl⟩, by simp [intOf]; omega⟩
   ·go_wp2_with fail
    go_ret
    exact ⟨rfl, d, rfl⟩
end Go.Proofs.Ytdcokkgdahbinaa
namespace Go.Proofs.Ytdcokkgdahbinaa
open Go Go.RowKit Go.Proofs
def Later (W wr : World) : Prop := ∃ d, wr = W.drewN d
theorem Later.step {W wr : World} (h : Later W wr) (d : Nat) : Later W (wr.drewN d) := by
 obtain ⟨e, rfl⟩ := h
 exact ⟨e + d, World.drewN_drewN _ _ _⟩
theorem Later.refl (W : World) : Later W W := ⟨0, rfl⟩
theorem Later.heap {W wr : World} (h : Later W wr) : wr.heap = W.heap := by
 obtain ⟨e, rfl⟩ := h; rfl
theorem Later.below {B : Nat} {w W wr : World} (h : Later W wr) (hb : Below B w W) : Below B w wr := by
 obtain ⟨e, rfl⟩ := h; exact below_drewN hb e
theorem Later.cell {W wr : World} (h : Later W wr) {p : Addr} {x : Value} (hc : W.cell? p = some x) : wr.cell? p = some x := by
 obtain ⟨e, rfl⟩ := h; exact hc
theorem Later.nextR {W wr : World} (h : Later W wr) {v : Value} {T : List (List Nat)} (hn : NextR W v T) : NextR wr v T := by
 obtain ⟨e, rfl⟩ := h; exact hn
theorem Later.emitR {W wr : World} (h : Later W wr) {v : Value} {T : List (List V3)} (hn : EmitR W v T) : EmitR wr v T := by
 obtain ⟨e, rfl⟩ := h; exact hn
theorem Later.readsI {W wr : World} (h : Later W wr) {v : Value} {n : Nat} {l : List Int} (hn : ReadsI W v n l) : ReadsI wr v n l := by
 obtain ⟨e, rfl⟩ := h; exact hn
theorem bsame_true {w : World} {NA NB OA OB : Option Addr} {nc nd oc od n m : Nat} {T : List (List Nat)} {os : List Int} (h1 : NextR w (.slice NA n nc) T) (h2 : NextR w (.slice NB n nd) T) (h3 : ReadsI w (.slice OA m oc) m os) (h4 : ReadsI w (.slice OB m od) m os) (hl : T.length = n) :
  Calls Try.prog 20 #[.agg #[.slice NA n nc, .slice OA m oc], .agg #[.slice NB n nd, .slice OB m od]] w fun e w' => e = .returned (.bool true) /\ Below w.heap.size w w' := by
  obtain ⟨a1, c1', e1, q1, q2⟩ := h1.form
  obtain ⟨a2, c2', e2, q3, q4⟩ := h2.form
  rw [hl] at q1 q3
  simp only [Value.slice.injEq] at e1 e2
  obtain ⟨rfl, -, rfl⟩ := e1
  obtain ⟨rfl, -, rfl⟩ := e2
  obtain ⟨a1, c1', e1, q5, q6, -⟩ := h3.form
  obtain ⟨a2, c2', e2, q7, q8, -⟩ := h4.form
  simp only [Value.slice.injEq, true_and] at e1 e2
  obtain ⟨rfl, rfl⟩ := e1
  obtain ⟨rfl, rfl⟩ := e2
  obtain ⟨W0, hW0⟩ : ∃ W, (w.alloc (.cells #[.slice NA n nc, .slice OA m oc] 26)).alloc (.cells #[.slice NB n nd, .slice OB m od] 26) = W := ⟨_, rfl⟩
  have hb0 : Below w.heap.size w W0 := by rw [<- hW0]; exact ((Below.refl _ _).alloc (Nat.le_refl _) _).alloc (by simp) _
  have hx2 : Blk W0 w.heap.size 26 #[.slice NA n nc, .slice OA m oc] := by rw [<- hW0]; exact (Blk.new _ _ _).alloc _
  have hx3 : Blk W0 (w.heap.size + 1) 26 #[.slice NB n nd, .slice OB m od] := by
   rw [<- hW0]
   have := Blk.new (w.alloc (.cells #[.slice NA n nc, .slice OA m oc] 26)) 26 #[.slice NB n nd, .slice OB m od]
   rw [World.size_alloc] at this
   exact this
  obtain ⟨b2, hb2⟩ : ∃ b, b = w.heap.size := ⟨_, rfl⟩
  obtain ⟨b3, hb3⟩ : ∃ b, b = w.heap.size + 1 := ⟨_, rfl⟩
  rw [<- hb2] at hx2
  rw [<- hb3] at hx3
  have H1 := Lib.hid (h1.below hb0); have H2 := Lib.hid (h2.below hb0); have H3 := Lib.hid (h3.below hb0); have H4 := Lib.hid (h4.below hb0); have HL := Lib.hid hl; have HW0 := Lib.hid hW0; have HB0 := Lib.hid hb0; have X2 := Lib.hid hx2; have X3 := Lib.hid hx3; have HB2 := Lib.hid hb2; have HB3 := Lib.hid hb3
  clear h1 h2 h3 h4 hl hW0 hb0 hx2 hx3 hb2 hb3
  go_enter Try.func20, Try.ntmps20
  go_wp2_with fail
  rw [HW0.out, <- HB3.out, <- HB2.out]
  go_loopw [5] (fun vi wr => ∃ i : Nat, vi = .int .i64 (i : Int) /\ i <= n /\ Hid (Later W0 wr)) (fun vi _ => n - (intOf vi).toNat)
  case atStart => exact ⟨0, rfl, Nat.zero_le _, Lib.hid (Later.refl _)⟩
  case round =>
   obtain ⟨i, rfl, hi, HQ⟩ := hrel
   have x20 := HQ.out.cell (X2.out.cell 0); have x21 := HQ.out.cell (X2.out.cell 1); have x30 := HQ.out.cell (X3.out.cell 0); have x31 := HQ.out.cell (X3.out.cell 1)
   have i0 : (0 : Int) <= (i : Int) := Int.natCast_nonneg _
   by_cases hlt : i < n
   ·have i1 : (i : Int) < (n : Int) := by omega
    have t1 : decide (i < n) = true := by simpa using hlt
    obtain ⟨g1, o1, A1, m1, c1, e1, hm1, d1, r1, l1, l2⟩ := (HQ.out.nextR H1.out).at_ (i := i) (by rw [HL.out]; exact hlt)
    obtain ⟨g2, o2, A2, m2, c2, e2, hm2, d2, r2, l3, l4⟩ := (HQ.out.nextR H2.out).at_ (i := i) (by rw [HL.out]; exact hlt)
    subst e1 e2
    obtain rfl : m1 = m2 := by rw [hm1, hm2]
    have R1 := Lib.hid r1; have R2 := Lib.hid r2; have D1 := Lib.hid d1; have D2 := Lib.hid d2
    clear hm1 hm2 r1 r2
    go_wp2_with fail
    go_big_quiet (fail)
    go_wp2_with fail
    obtain ⟨V, hV⟩ : ∃ V, V = wr := ⟨_, rfl⟩
    subst hV
    clear d1 d2 x20 x21 x30 x31
    go_loopw [6] (fun vj wr => ∃ j : Nat, vj = .int .i64 (j : Int) /\ j <= m1 /\ Hid (Later V wr)) (fun vj _ => m1 - (intOf vj).toNat)
    case atStart => exact ⟨0, rfl, Nat.zero_le _, Lib.hid ((Later.refl _).step _)⟩
    case round =>
     obtain ⟨j, rfl, hj, HV⟩ := hrel
     have x20 := HV.out.cell (HQ.out.cell (X2.out.cell 0)); have x30 := HV.out.cell (HQ.out.cell (X3.out.cell 0)); have d1 := HV.out.cell D1.out; have d2 := HV.out.cell D2.out
     have j0 : (0 : Int) <= (j : Int) := Int.natCast_nonneg _
     by_cases hltj : j < m1
     ·have j1 : (j : Int) < (m1 : Int) := by omega
      have t2 : decide (j < m1) = true := by simpa using hltj
      obtain ⟨g3, o3, e3, -, s1⟩ := R1.out.at j hltj
      obtain ⟨g4, o4, e4, -, s2⟩ := R2.out.at j hltj
      subst e3 e4
      replace s1 := HV.out.cell s1
      replace s2 := HV.out.cell s2
      generalize (intsN (T.getD i [])).getD j 0 = x at *
      go_wp2_with fail
      go_big_quiet (fail)
      go_wp2_with fail
      exact ⟨⟨j + 1, by go_num, by omega, Lib.hid (HV.out.step _)⟩, by simp [intOf]; omega⟩
     ·go_wp2_with fail
      have HE : Hid (Later W0 wr) := Lib.hid (by
       obtain ⟨d, e⟩ := HV.out
       rw [e]; exact HQ.out.step d)
      exact ⟨⟨i + 1, by go_num, by omega, HE⟩, by simp [intOf]; omega⟩
   ·go_wp2_with fail
    obtain ⟨V, hV⟩ : ∃ V, V = wr := ⟨_, rfl⟩
    subst hV
    clear x20 x21 x30 x31
    go_loopw [7] (fun vj wr => ∃ j : Nat, vj = .int .i64 (j : Int) /\ j <= m /\ Hid (Later V wr)) (fun vj _ => m - (intOf vj).toNat)
    case atStart => exact ⟨0, rfl, Nat.zero_le _, Lib.hid (Later.refl _)⟩
    case round =>
     obtain ⟨j, rfl, hj, HV⟩ := hrel
     have x21 := HV.out.cell (HQ.out.cell (X2.out.cell 1)); have x31 := HV.out.cell (HQ.out.cell (X3.out.cell 1))
     have j0 : (0 : Int) <= (j : Int) := Int.natCast_nonneg _
     by_cases hltj : j < m
     ·have j1 : (j : Int) < (m : Int) := by omega
      have t2 : decide (j < m) = true := by simpa using hltj
      obtain ⟨g3, o3, e3, -, s1⟩ := H3.out.at j hltj
      obtain ⟨g4, o4, e4, -, s2⟩ := H4.out.at j hltj
      subst e3 e4
      replace s1 := HV.out.cell (HQ.out.cell s1)
      replace s2 := HV.out.cell (HQ.out.cell s2)
      generalize os.getD j 0 = x at *
      go_wp2_with fail
      go_big_quiet (fail)
      go_wp2_with fail
      exact ⟨⟨j + 1, by go_num, by omega, Lib.hid (HV.out.step _)⟩, by simp [intOf]; omega⟩
     ·go_wp2_with fail
      go_ret
      exact ⟨rfl, HV.out.below (HQ.out.below HB0.out)⟩
end Go.Proofs.Ytdcokkgdahbinaa
namespace Go.Proofs.Ytdcokkgdahbinaa
open Go Go.RowKit Go.Proofs
theorem ints_quiet {w : World} {A1 A2 : Option Addr} {n c1 c2 : Nat} {l : List Int} (h1 : ReadsI w (.slice A1 n c1) n l) (h2 : ReadsI w (.slice A2 n c2) n l) (d : Nat) :
  Calls Try.prog 21 #[.slice A1 n c1, .slice A2 n c2] (w.drewN d) fun e w' => e = .returned (.bool true) /\ ∃ m, w' = w.drewN m := Calls.quiet_of (ints_true (h1.dr d) (h2.dr d))
theorem vecs_quiet {w : World} {A1 A2 : Option Addr} {n c1 c2 : Nat} {l : List V3} (h1 : ReadsE encV 3 w (.slice A1 n c1) n l) (h2 : ReadsE encV 3 w (.slice A2 n c2) n l) (d : Nat) :
  Calls Try.prog 26 #[.slice A1 n c1, .slice A2 n c2] (w.drewN d) fun e w' => e = .returned (.bool true) /\ ∃ m, w' = w.drewN m := Calls.quiet_of (vecs_true (h1.dr d) (h2.dr d))
theorem fsame_true {w : World} {NA NB OA OB : Option Addr} {nc nd oc od n m : Nat} {T : List (List Nat)} {E : List (List V3)} (h1 : NextR w (.slice NA n nc) T) (h2 : NextR w (.slice NB n nd) T) (h3 : EmitR w (.slice OA m oc) E) (h4 : EmitR w (.slice OB m od) E) (hl : T.length = n) (hle : E.length = m) :
  Calls Try.prog 22 #[.agg #[.slice NA n nc, .slice OA m oc], .agg #[.slice NB n nd, .slice OB m od]] w fun e w' => e = .returned (.bool true) /\ Below w.heap.size w w' := by
  obtain ⟨a1, c1', e1, q1, q2⟩ := h1.form
  obtain ⟨a2, c2', e2, q3, q4⟩ := h2.form
  rw [hl] at q1 q3
  simp only [Value.slice.injEq] at e1 e2
  obtain ⟨rfl, -, rfl⟩ := e1
  obtain ⟨rfl, -, rfl⟩ := e2
  obtain ⟨a1, c1', e1, q5, q6⟩ := h3.form
  obtain ⟨a2, c2', e2, q7, q8⟩ := h4.form
  rw [hle] at q5 q7
  simp only [Value.slice.injEq] at e1 e2
  obtain ⟨rfl, -, rfl⟩ := e1
  obtain ⟨rfl, -, rfl⟩ := e2
  obtain ⟨W0, hW0⟩ : ∃ W, (w.alloc (.cells #[.slice NA n nc, .slice OA m oc] 30)).alloc (.cells #[.slice NB n nd, .slice OB m od] 30) = W := ⟨_, rfl⟩
  have hb0 : Below w.heap.size w W0 := by rw [<- hW0]; exact ((Below.refl _ _).alloc (Nat.le_refl _) _).alloc (by simp) _
  have hx2 : Blk W0 w.heap.size 30 #[.slice NA n nc, .slice OA m oc] := by rw [<- hW0]; exact (Blk.new _ _ _).alloc _
  have hx3 : Blk W0 (w.heap.size + 1) 30 #[.slice NB n nd, .slice OB m od] := by
   rw [<- hW0]
   have := Blk.new (w.alloc (.cells #[.slice NA n nc, .slice OA m oc] 30)) 30 #[.slice NB n nd, .slice OB m od]
   rw [World.size_alloc] at this
   exact this
  obtain ⟨b2, hb2⟩ : ∃ b, b = w.heap.size := ⟨_, rfl⟩
  obtain ⟨b3, hb3⟩ : ∃ b, b = w.heap.size + 1 := ⟨_, rfl⟩
  rw [<- hb2] at hx2
  rw [<- hb3] at hx3
  have H1 := Lib.hid (h1.below hb0); have H2 := Lib.hid (h2.below hb0); have H3 := Lib.hid (h3.below hb0); have H4 := Lib.hid (h4.below hb0); have HL := Lib.hid hl; have HLE := Lib.hid hle; have HW0 := Lib.hid hW0; have HB0 := Lib.hid hb0; have X2 := Lib.hid hx2; have X3 := Lib.hid hx3; have HB2 := Lib.hid hb2; have HB3 := Lib.hid hb3
  clear h1 h2 h3 h4 hl hle hW0 hb0 hx2 hx3 hb2 hb3
  go_enter Try.func22, Try.ntmps22
  go_wp2_with fail
  rw [HW0.out, <- HB3.out, <- HB2.out]
  go_loopw [5] (fun vi wr => ∃ i : Nat, vi = .int .i64 (i : Int) /\ i <= n /\ Hid (Later W0 wr)) (fun vi _ => n - (intOf vi).toNat)
  case atStart => exact ⟨0, rfl, Nat.zero_le _, Lib.hid (Later.refl _)⟩
  case round =>
   obtain ⟨i, rfl, hi, HQ⟩ := hrel
   have x20 := HQ.out.cell (X2.out.cell 0); have x21 := HQ.out.cell (X2.out.cell 1); have x30 := HQ.out.cell (X3.out.cell 0); have x31 := HQ.out.cell (X3.out.cell 1)
   have i0 : (0 : Int) <= (i : Int) := Int.natCast_nonneg _
   by_cases hlt : i < n
   ·have i1 : (i : Int) < (n : Int) := by omega
    have t1 : decide (i < n) = true := by simpa using hlt
    obtain ⟨g1, o1, A1, m1, c1, e1, hm1, d1, r1, l1, l2⟩ := (HQ.out.nextR H1.out).at_ (i := i) (by rw [HL.out]; exact hlt)
    obtain ⟨g2, o2, A2, m2, c2, e2, hm2, d2, r2, l3, l4⟩ := (HQ.out.nextR H2.out).at_ (i := i) (by rw [HL.out]; exact hlt)
    subst e1 e2
    obtain rfl : m1 = m2 := by rw [hm1, hm2]
    have HI := Lib.hid (ints_quiet r1 r2)
    clear hm1 hm2 r1 r2
    go_wp2_with fail
    go_quiet ((go_at_call 21; exact HI.out _))
    go_wp2_with fail
    exact ⟨⟨i + 1, by go_num, by omega, Lib.hid (HQ.out.step _)⟩, by simp [intOf]; omega⟩
   ·go_wp2_with fail
    obtain ⟨V, hV⟩ : ∃ V, V = wr := ⟨_, rfl⟩
    subst hV
    clear x20 x21 x30 x31
    go_loopw [6] (fun vj wr => ∃ j : Nat, vj = .int .i64 (j : Int) /\ j <= m /\ Hid (Later V wr)) (fun vj _ => m - (intOf vj).toNat)
    case atStart => exact ⟨0, rfl, Nat.zero_le _, Lib.hid (Later.refl _)⟩
    case round =>
     obtain ⟨j, rfl, hj, HV⟩ := hrel
     have x21 := HV.out.cell (HQ.out.cell (X2.out.cell 1)); have x31 := HV.out.cell (HQ.out.cell (X3.out.cell 1))
     have j0 : (0 : Int) <= (j : Int) := Int.natCast_nonneg _
     by_cases hltj : j < m
     ·have j1 : (j : Int) < (m : Int) := by omega
      have t2 : decide (j < m) = true := by simpa using hltj
      obtain ⟨g1, o1, A1, m1, c1, e1, hm1, d1, r1, l1, l2⟩ := (HV.out.emitR (HQ.out.emitR H3.out)).at_ (i := j) (by rw [HLE.out]; exact hltj)
      obtain ⟨g2, o2, A2, m2, c2, e2, hm2, d2, r2, l3, l4⟩ := (HV.out.emitR (HQ.out.emitR H4.out)).at_ (i := j) (by rw [HLE.out]; exact hltj)
      subst e1 e2
      obtain rfl : m1 = m2 := by rw [hm1, hm2]
      have HI := Lib.hid (vecs_quiet r1 r2)
      clear hm1 hm2 r1 r2
      go_wp2_with fail
      go_quiet ((go_at_call 26; exact HI.out _))
      go_wp2_with fail
      exact ⟨⟨j + 1, by go_num, by omega, Lib.hid (HV.out.step _)⟩, by simp [intOf]; omega⟩
     ·go_wp2_with fail
      go_ret
      exact ⟨rfl, HV.out.below (HQ.out.below HB0.out)⟩
end Go.Proofs.Ytdcokkgdahbinaa
