/- Contract of set.join: ranges that touch are made one; a scope with two labels. -/
import Derived.Test.YtfccnadbiglagaaGreatVSetE
import Derived.Test.YtfccnadbiglagaaGreatVSmall
import Derived.BigRegion
set_option linter.unusedVariables false
set_option linter.unusedSimpArgs false
set_option maxRecDepth 100000
set_option maxHeartbeats 8000000
namespace Go.Proofs.YtfccnadbiglagaaGreat
open Go Go.RowKit
def joinW : Int × Int -> List (Int × Int) -> List (Int × Int)
 | x, [] => [x]
 | x, r :: l => if r.1 <= x.2 + 1 then joinW (x.1, max x.2 r.2) l else x :: joinW r l
def joinF : List (Int × Int) -> List (Int × Int)
 | [] => []
 | r :: l => joinW r l
theorem joinW_nil (x : Int × Int) : joinW x [] = [x] := rfl
theorem joinW_cons (a h c d : Int) (l : List (Int × Int)) : joinW (a, h) ((c, d) :: l) = if c <= h + 1 then joinW (a, max h d) l else (a, h) :: joinF ((c, d) :: l) := rfl
theorem joinF_cons (r : Int × Int) (l : List (Int × Int)) : joinF (r :: l) = joinW r l := rfl
theorem joinW_is (l : List (Int × Int)) : ∀ (lo : Int) (x : Int × Int), lo <= x.1 -> x.1 <= x.2 -> x.2 <= 1114111 -> (∀ r ∈ l, x.1 <= r.1 /\ r.1 <= r.2 /\ r.2 <= 1114111) -> ByLo l ->
  RtFrom lo (joinW x l) /\ ∀ n, inS (joinW x l) n ↔ (x.1 <= n /\ n <= x.2) \/ inS l n := by
  induction l with
  | nil =>
    intro lo x h1 h2 h3 _ _
    exact ⟨⟨h1, h2, h3, trivial⟩, fun n => by rw [joinW_nil, inS_cons]⟩
  | cons r l ih =>
    intro lo x h1 h2 h3 hf hb
    obtain ⟨f1, f2, f3⟩ := hf r List.mem_cons_self
    have hf' := fun q hq => hf q (List.mem_cons_of_mem _ hq)
    obtain ⟨b1, b2⟩ := List.pairwise_cons.1 hb
    unfold joinW
    split
    ·rename_i hc
     obtain ⟨p, q⟩ := ih lo (x.1, max x.2 r.2) h1 (by simp only; omega) (by simp only; omega) hf' b2
     refine ⟨p, fun n => ?_⟩
     rw [q, inS_cons]
     simp only
     constructor
     ·rintro (h | h)
      ·by_cases e : n <= x.2
       ·exact .inl ⟨h.1, e⟩
       ·exact .inr (.inl (by omega))
      ·exact .inr (.inr h)
     ·rintro (h | h | h)
      ·exact .inl (by omega)
      ·exact .inl (by omega)
      ·exact .inr h
    ·rename_i hc
     obtain ⟨p, q⟩ := ih (x.2 + 2) r (by omega) f2 f3 (fun y hy => ⟨b1 y hy, (hf' y hy).2⟩) b2
     exact ⟨⟨h1, h2, h3, p⟩, fun n => by rw [inS_cons, q, inS_cons]⟩
theorem joinF_norm {l : List (Int × Int)} (hf : Full l) (hb : ByLo l) : joinF l = normL l := by
 refine normL_eq ?_
 cases l with
 | nil => exact ⟨trivial, fun n => ⟨fun h => absurd h (inS_nil n), fun h => absurd h.1 (inS_nil n)⟩⟩
 | cons r l =>
   obtain ⟨f1, f2, f3⟩ := hf r List.mem_cons_self
   obtain ⟨b1, b2⟩ := List.pairwise_cons.1 hb
   obtain ⟨p, q⟩ := joinW_is l 0 r f1 f2 f3 (fun y hy => ⟨b1 y hy, (hf y (List.mem_cons_of_mem _ hy)).2⟩) b2
   refine ⟨p, fun n => ?_⟩
   rw [joinF_cons, q, inS_cons]
   constructor
   ·intro h
    refine ⟨h, ?_⟩
    rcases h with h | ⟨y, hy, h⟩
    ·omega
    ·have := hf y (List.mem_cons_of_mem _ hy); omega
   ·intro h; exact h.1
theorem OwnP.stored_other {w : World} {B g j m : Nat} {u : Value} {l : List (Int × Int)} (h : OwnP w B u m l) (hne : some g ≠ u.ownBlock) (x : Value) : OwnP (w.setCell ⟨g, j, none⟩ x) B u m l := by
 obtain ⟨h1, h2⟩ := h
 refine ⟨h1, ?_⟩
 rcases h2 with h2 | ⟨g', cap, cur, rfl, hg, hh, r⟩
 ·exact .inl h2
 ·refine .inr ⟨g', cap, cur, rfl, hg, ?_, r⟩
  rw [heap_setCell_other w ⟨g, j, none⟩ g' x (fun e => hne (by simp [Value.ownBlock, e]))]
  exact hh
theorem Full.tl {r : Int × Int} {l : List (Int × Int)} (h : Full (r :: l)) : Full l := fun q hq => h q (List.mem_cons_of_mem _ hq)
theorem ReadsP.zero {w : World} {a : Addr} {c : Nat} (h : c <= maxLen) : ReadsP w (.slice (some a) 0 c) 0 [] := ⟨rfl, some a, c, rfl, Nat.zero_le _, h, (fun e => by cases e), fun i hi => absurd hi (by omega)⟩
def JA (w : World) (n : Nat) (l : List (Int × Int)) (s0 s3 : Value) (wr : World) : Prop :=
 ∃ (n' m' : Nat) (l' G : List (Int × Int)), m' + n' <= n /\ ReadsP w s0 n' l' /\ Full l' /\ joinF l = G ++ joinF l' /\ OwnP wr w.heap.size s3 m' G /\ Below w.heap.size w wr
def JB (w : World) (n : Nat) (l : List (Int × Int)) (s0 s3 s4 : Value) (wr : World) : Prop :=
 ∃ (n' m' p : Nat) (a h : Int) (x : Int × Int) (l' G : List (Int × Int)), m' + n' <= n /\ ReadsP w s0 n' (x :: l') /\ Full l' /\ joinF l = G ++ joinW (a, h) l' /\ OwnP wr w.heap.size s3 m' G /\ Below w.heap.size w wr /\
   s4 = .pointer (some ⟨p, 0, none⟩) /\ wr.cell? ⟨p, 0, none⟩ = some (.int .i64 a) /\ wr.cell? ⟨p, 1, none⟩ = some (.int .i64 h) /\ wr.frozen? ⟨p, 1, none⟩ = false /\ some p ≠ s3.ownBlock /\ w.heap.size <= p /\ 0 <= a /\ 0 <= h /\ h <= 1114111
def FA (w : World) (n : Nat) (l : List (Int × Int)) (a : Act) (wr : World) : Prop := ∃ (s0 s3 s4 u5 u6 u7 u8 u9 u10 u11 u12 u13 u14 u15 u16 u17 u18 u19 u20 u21 u22 u23 u24 u25 u26 u27 u28 u29 u30 u31 u32 u33 u34 u35 u36 u37 u38 : Value), a = { tmps := #[s0, undef, .slice none 0 0, s3, s4, u5, u6, u7, u8, u9, u10, u11, u12, u13, u14, u15, u16, u17, u18, u19, u20, u21, u22, u23, u24, u25, u26, u27, u28, u29, u30, u31, u32, u33, u34, u35, u36, u37, u38], defers := [] } /\ JA w n l s0 s3 wr
def FB (w : World) (n : Nat) (l : List (Int × Int)) (a : Act) (wr : World) : Prop := ∃ (s0 s3 s4 u5 u6 u7 u8 u9 u10 u11 u12 u13 u14 u15 u16 u17 u18 u19 u20 u21 u22 u23 u24 u25 u26 u27 u28 u29 u30 u31 u32 u33 u34 u35 u36 u37 u38 : Value), a = { tmps := #[s0, undef, .slice none 0 0, s3, s4, u5, u6, u7, u8, u9, u10, u11, u12, u13, u14, u15, u16, u17, u18, u19, u20, u21, u22, u23, u24, u25, u26, u27, u28, u29, u30, u31, u32, u33, u34, u35, u36, u37, u38], defers := [] } /\ JB w n l s0 s3 s4 wr
def muJ (a : Act) (_ : World) : Nat := lenV (a.tmps.getD 0 undef)
theorem join_walk {w : World} {v : Value} {n : Nat} {l : List (Int × Int)} (h : ReadsP w v n l) (hn : n <= 1000000000) (hf : Full l) :
  Calls Tryz.prog 136 #[v] w (Tells w (joinF l)) := by
  have H := Lib.hid h; have HFL := Lib.hid hf; clear h hf
  go_enter Tryz.func136, Tryz.ntmps136
  go_wp2_with fail
  refine wp_scope_two (FA w n l) (FB w n l) muJ rfl rfl ?_ ?_ ?_
  ·obtain ⟨n', m', G, l0, s3, hmn, HR, HF, HG, HV, HW, hs3⟩ : ∃ (n' m' : Nat) (G l0 : List (Int × Int)) (s3 : Value), m' + n' <= n /\ Hid (ReadsP w v n' l0) /\ Hid (Full l0) /\ Hid (joinF l = G ++ joinF l0) /\ Hid (OwnP w w.heap.size s3 m' G) /\ Hid (Below w.heap.size w w) /\ Hid (s3 = .slice none 0 0) :=
    ⟨n, 0, [], l, _, by omega, H, HFL, Lib.hid rfl, Lib.hid (OwnP.nil _ _), Lib.hid (Below.refl _ _), Lib.hid rfl⟩
   obtain ⟨x0, cap, rfl, hc, hcm, hz5⟩ := HR.out.form
   have hs3' := hs3.out
   subst hs3'
   by_cases hn0 : n' = 0
   ·subst hn0
    obtain rfl : l0 = [] := List.eq_nil_of_length_eq_zero hz5
    go_wp2_with fail
    go_step3
    go_wp2_with fail
    simp only [jump2]
    go_ret
    exact ⟨_, rfl, HV.out.cast (by rw [HG.out]; simp [joinF]; exact HV.out.len.symm) (by rw [HG.out]; simp [joinF]), HW.out⟩
   ·have hn1 : 0 < n' := by omega
    obtain ⟨x, l', rfl⟩ : ∃ x l', l0 = x :: l' := by
     cases l0 with
     | nil => simp at hz5; omega
     | cons x l' => exact ⟨x, l', rfl⟩
    obtain ⟨b, off, rfl, hb0, c1, c2⟩ := HR.out.at 0 hn1
    have c1 := (HW.out.cell (p := ⟨b, off + 0 * 2, none⟩) hb0).trans c1
    have c2 := (HW.out.cell (p := ⟨b, off + 0 * 2 + 1, none⟩) hb0).trans c2
    obtain ⟨av, hv⟩ := x
    simp only [List.getD_cons_zero, Nat.zero_mul, Nat.add_zero] at c1 c2
    have hff := HF.out (av, hv) List.mem_cons_self
    simp only at hff
    obtain ⟨ha0, f2, h1⟩ := hff
    have h0 : 0 <= hv := by omega
    have i9 : (0 : Int) < (n' : Int) := by omega
    go_wp2_with fail
    go_step3
    go_wp2_with fail
    go_step3
    have HF := Lib.hid HF.out.tl
    rw [joinF_cons] at HG
    obtain ⟨k1, k2⟩ := new2 w (.int .i64 av) (.int .i64 hv) 131
    have k3 : (w.alloc (.cells #[.int .i64 av, .int .i64 hv] 131)).frozen? ⟨w.heap.size, 1, none⟩ = false := by simp
    have hpn := HV.out.ne_top
    have hpw := HW.out.size
    have HW := Lib.hid (HW.out.alloc hpw (.cells #[.int .i64 av, .int .i64 hv] 131))
    have HV := Lib.hid (HV.out.alloc (.cells #[.int .i64 av, .int .i64 hv] 131))
    clear c1 c2
    generalize w.alloc (.cells #[.int .i64 av, .int .i64 hv] 131) = wr at *
    have hzw := HW.out.size
    have HD := Lib.hid hz5; clear hz5
    by_cases h2 : 1 < n'
    ·have hcap : ¬ cap = 1 := by omega
     obtain ⟨y, l3, rfl⟩ : ∃ y l3, l' = y :: l3 := by
      cases l' with
      | nil => have := HR.out.1; simp at this; omega
      | cons y l3 => exact ⟨y, l3, rfl⟩
     have HT := HR.out.tl
     rw [if_neg hcap] at HT
     obtain ⟨b2, off2, e2, hb2, d1, d2⟩ := HT.at 0 (by omega)
     simp only [Option.some.injEq, Addr.mk.injEq] at e2
     obtain ⟨rfl, rfl, _⟩ := e2
     have d1 := (HW.out.cell (p := ⟨b, off + 2 + 0 * 2, none⟩) hb2).trans d1
     have d2 := (HW.out.cell (p := ⟨b, off + 2 + 0 * 2 + 1, none⟩) hb2).trans d2
     simp only [List.getD_cons_zero, Nat.zero_mul, Nat.add_zero] at d1 d2
     have HT2 := Lib.hid HT; clear HT
     obtain ⟨y1, y2⟩ := y
     simp only at d1 d2
     have hfy := HF.out (y1, y2) List.mem_cons_self
     simp only at hfy
     obtain ⟨f1, f2, f3⟩ := hfy
     have HJ2 := Lib.hid (joinW_cons av hv y1 y2 l3)
     have i5 : (0 : Int) < ((n' - 1 : Nat) : Int) := by omega
     have t5 : decide (0 < n' - 1) = true := by simp; omega
     by_cases h3 : y1 <= hv + 1
     ·go_wp2_with fail
      go_quiet (fail)
      go_wp2_with fail
      go_region
      go_wp2_with fail
      ·go_step3
       have em : max hv y2 = y2 := by omega
       refine ⟨_, _, _, _, _, _, _, _, _, _, _, _, _, _, _, _, _, _, _, _, _, _, _, _, _, _, _, _, _, _, _, _, _, _, _, _, _, rfl, ?_⟩
       ·refine ⟨n' - 1, m', w.heap.size, av, y2, (y1, y2), l3, G, by omega, HT2.out, HF.out.tl, ?_, (OwnP.drewN HV.out _).stored_other hpn _, ((HW.out.drewN' _).setCell (p := ⟨w.heap.size, 1, none⟩) hpw _), rfl, (World.cell?_setCell_other _ _ _ _ (by simp)).trans k1, World.cell?_setCell_same' _ _ _ (by rw [show (wr.drewN (nq + 1)).cell? ⟨w.heap.size, 1, none⟩ = _ from k2]; rfl), (by rw [World.frozen?_setCell]; exact k3), hpn, hpw, ha0, by omega, by omega⟩
        rw [HG.out, HJ2.out, if_pos h3, em]
       skip
      ·go_step3
       have em : max hv y2 = hv := by omega
       refine ⟨_, _, _, _, _, _, _, _, _, _, _, _, _, _, _, _, _, _, _, _, _, _, _, _, _, _, _, _, _, _, _, _, _, _, _, _, _, rfl, ?_⟩
       ·refine ⟨n' - 1, m', w.heap.size, av, hv, (y1, y2), l3, G, by omega, HT2.out, HF.out.tl, ?_, (OwnP.drewN HV.out _).stored_other hpn _, ((HW.out.drewN' _).setCell (p := ⟨w.heap.size, 1, none⟩) hpw _), rfl, (World.cell?_setCell_other _ _ _ _ (by simp)).trans k1, World.cell?_setCell_same' _ _ _ (by rw [show (wr.drewN (nq + 1)).cell? ⟨w.heap.size, 1, none⟩ = _ from k2]; rfl), (by rw [World.frozen?_setCell]; exact k3), hpn, hpw, ha0, by omega, by omega⟩
        rw [HG.out, HJ2.out, if_pos h3, em]
       skip
     ·have h3' : hv + 1 < y1 := by omega
      go_wp2_with fail
      go_quiet (fail)
      go_wp2_with (at_builtin; refine wpList_pushP rfl (.tmp 35) (.tmp 37) rfl w.heap.size _ _ _ _ _ _ (by rfl) HV.out _ (by rfl) rfl (by omega) hzw ?_
                   intro g1 c1 w2 hp1
                   have HP1 := Lib.hid hp1; clear hp1)
      go_step3
      refine ⟨_, _, _, _, _, _, _, _, _, _, _, _, _, _, _, _, _, _, _, _, _, _, _, _, _, _, _, _, _, _, _, _, _, _, _, _, _, rfl, ?_⟩
      ·refine ⟨n' - 1, m' + 1, (y1, y2) :: l3, G ++ [(av, hv)], by omega, HT2.out, HF.out, ?_, HP1.out.own, HP1.out.below (HW.out.drewN' _) (Nat.le_refl _) hzw⟩
       rw [HG.out, HJ2.out, if_neg (by omega)]; simp
      skip
    ·obtain rfl : n' = 1 := by omega
     obtain rfl : l' = [] := by have := HR.out.1; simp at this; exact this
     go_wp2_with fail
     all_goals
      go_quiet (fail)
      go_wp2_with (at_builtin; refine wpList_pushP rfl (.tmp 35) (.tmp 37) rfl w.heap.size _ _ _ _ _ _ (by rfl) HV.out _ (by rfl) rfl (by omega) hzw ?_
                   intro g1 c1 w2 hp1
                   have HP1 := Lib.hid hp1; clear hp1)
      go_step3
      refine ⟨_, _, _, _, _, _, _, _, _, _, _, _, _, _, _, _, _, _, _, _, _, _, _, _, _, _, _, _, _, _, _, _, _, _, _, _, _, rfl, ?_⟩
      ·refine ⟨0, m' + 1, [], G ++ [(av, hv)], by omega, ReadsP.zero (by unfold maxLen; omega), HF.out, ?_, HP1.out.own, HP1.out.below (HW.out.drewN' _) (Nat.le_refl _) hzw⟩
       rw [HG.out, joinW_nil]; simp [joinF]
      skip
  ·rintro a wr0 ⟨s0, s3, s4, u5, u6, u7, u8, u9, u10, u11, u12, u13, u14, u15, u16, u17, u18, u19, u20, u21, u22, u23, u24, u25, u26, u27, u28, u29, u30, u31, u32, u33, u34, u35, u36, u37, u38, rfl, n', m', l0, G, hmn, R, F, HJ, V, WB⟩
   obtain ⟨x0, cap, rfl, hc, hcm, hz5⟩ := R.form
   have HR := Lib.hid R; have HF := Lib.hid F; have HG := Lib.hid HJ; have HV := Lib.hid V; have HW := Lib.hid WB
   clear R F HJ V WB
   by_cases hn0 : n' = 0
   ·subst hn0
    obtain rfl : l0 = [] := List.eq_nil_of_length_eq_zero hz5
    go_wp2_with fail
    simp only [jump2]
    go_ret
    exact ⟨_, rfl, HV.out.cast (by rw [HG.out]; simp [joinF]; exact HV.out.len.symm) (by rw [HG.out]; simp [joinF]), HW.out⟩
   ·have hn1 : 0 < n' := by omega
    obtain ⟨x, l', rfl⟩ : ∃ x l', l0 = x :: l' := by
     cases l0 with
     | nil => simp at hz5; omega
     | cons x l' => exact ⟨x, l', rfl⟩
    obtain ⟨b, off, rfl, hb0, c1, c2⟩ := HR.out.at 0 hn1
    have c1 := (HW.out.cell (p := ⟨b, off + 0 * 2, none⟩) hb0).trans c1
    have c2 := (HW.out.cell (p := ⟨b, off + 0 * 2 + 1, none⟩) hb0).trans c2
    obtain ⟨av, hv⟩ := x
    simp only [List.getD_cons_zero, Nat.zero_mul, Nat.add_zero] at c1 c2
    have hff := HF.out (av, hv) List.mem_cons_self
    simp only at hff
    obtain ⟨ha0, f2, h1⟩ := hff
    have h0 : 0 <= hv := by omega
    have i9 : (0 : Int) < (n' : Int) := by omega
    go_wp2_with fail
    go_step3
    have HF := Lib.hid HF.out.tl
    rw [joinF_cons] at HG
    obtain ⟨k1, k2⟩ := new2 wr0 (.int .i64 av) (.int .i64 hv) 131
    have k3 : (wr0.alloc (.cells #[.int .i64 av, .int .i64 hv] 131)).frozen? ⟨wr0.heap.size, 1, none⟩ = false := by simp
    have hpn := HV.out.ne_top
    have hpw := HW.out.size
    have HW := Lib.hid (HW.out.alloc hpw (.cells #[.int .i64 av, .int .i64 hv] 131))
    have HV := Lib.hid (HV.out.alloc (.cells #[.int .i64 av, .int .i64 hv] 131))
    clear c1 c2
    generalize wr0.alloc (.cells #[.int .i64 av, .int .i64 hv] 131) = wr at *
    have hzw := HW.out.size
    have HD := Lib.hid hz5; clear hz5
    by_cases h2 : 1 < n'
    ·have hcap : ¬ cap = 1 := by omega
     obtain ⟨y, l3, rfl⟩ : ∃ y l3, l' = y :: l3 := by
      cases l' with
      | nil => have := HR.out.1; simp at this; omega
      | cons y l3 => exact ⟨y, l3, rfl⟩
     have HT := HR.out.tl
     rw [if_neg hcap] at HT
     obtain ⟨b2, off2, e2, hb2, d1, d2⟩ := HT.at 0 (by omega)
     simp only [Option.some.injEq, Addr.mk.injEq] at e2
     obtain ⟨rfl, rfl, _⟩ := e2
     have d1 := (HW.out.cell (p := ⟨b, off + 2 + 0 * 2, none⟩) hb2).trans d1
     have d2 := (HW.out.cell (p := ⟨b, off + 2 + 0 * 2 + 1, none⟩) hb2).trans d2
     simp only [List.getD_cons_zero, Nat.zero_mul, Nat.add_zero] at d1 d2
     have HT2 := Lib.hid HT; clear HT
     obtain ⟨y1, y2⟩ := y
     simp only at d1 d2
     have hfy := HF.out (y1, y2) List.mem_cons_self
     simp only at hfy
     obtain ⟨f1, f2, f3⟩ := hfy
     have HJ2 := Lib.hid (joinW_cons av hv y1 y2 l3)
     have i5 : (0 : Int) < ((n' - 1 : Nat) : Int) := by omega
     have t5 : decide (0 < n' - 1) = true := by simp; omega
     by_cases h3 : y1 <= hv + 1
     ·go_wp2_with fail
      go_quiet (fail)
      go_wp2_with fail
      go_region
      go_wp2_with fail
      ·go_step3
       have em : max hv y2 = y2 := by omega
       refine ⟨⟨_, _, _, _, _, _, _, _, _, _, _, _, _, _, _, _, _, _, _, _, _, _, _, _, _, _, _, _, _, _, _, _, _, _, _, _, _, rfl, ?_⟩, ?_⟩
       ·refine ⟨n' - 1, m', wr0.heap.size, av, y2, (y1, y2), l3, G, by omega, HT2.out, HF.out.tl, ?_, (OwnP.drewN HV.out _).stored_other hpn _, ((HW.out.drewN' _).setCell (p := ⟨wr0.heap.size, 1, none⟩) hpw _), rfl, (World.cell?_setCell_other _ _ _ _ (by simp)).trans k1, World.cell?_setCell_same' _ _ _ (by rw [show (wr.drewN (nq + 1)).cell? ⟨wr0.heap.size, 1, none⟩ = _ from k2]; rfl), (by rw [World.frozen?_setCell]; exact k3), hpn, hpw, ha0, by omega, by omega⟩
        rw [HG.out, HJ2.out, if_pos h3, em]
       ·show lenV _ < lenV _; first | (simp [lenV]; done) | (simp [lenV]; omega)
      ·go_step3
       have em : max hv y2 = hv := by omega
       refine ⟨⟨_, _, _, _, _, _, _, _, _, _, _, _, _, _, _, _, _, _, _, _, _, _, _, _, _, _, _, _, _, _, _, _, _, _, _, _, _, rfl, ?_⟩, ?_⟩
       ·refine ⟨n' - 1, m', wr0.heap.size, av, hv, (y1, y2), l3, G, by omega, HT2.out, HF.out.tl, ?_, (OwnP.drewN HV.out _).stored_other hpn _, ((HW.out.drewN' _).setCell (p := ⟨wr0.heap.size, 1, none⟩) hpw _), rfl, (World.cell?_setCell_other _ _ _ _ (by simp)).trans k1, World.cell?_setCell_same' _ _ _ (by rw [show (wr.drewN (nq + 1)).cell? ⟨wr0.heap.size, 1, none⟩ = _ from k2]; rfl), (by rw [World.frozen?_setCell]; exact k3), hpn, hpw, ha0, by omega, by omega⟩
        rw [HG.out, HJ2.out, if_pos h3, em]
       ·show lenV _ < lenV _; first | (simp [lenV]; done) | (simp [lenV]; omega)
     ·have h3' : hv + 1 < y1 := by omega
      go_wp2_with fail
      go_quiet (fail)
      go_wp2_with (at_builtin; refine wpList_pushP rfl (.tmp 35) (.tmp 37) rfl w.heap.size _ _ _ _ _ _ (by rfl) HV.out _ (by rfl) rfl (by omega) hzw ?_
                   intro g1 c1 w2 hp1
                   have HP1 := Lib.hid hp1; clear hp1)
      go_step3
      refine ⟨⟨_, _, _, _, _, _, _, _, _, _, _, _, _, _, _, _, _, _, _, _, _, _, _, _, _, _, _, _, _, _, _, _, _, _, _, _, _, rfl, ?_⟩, ?_⟩
      ·refine ⟨n' - 1, m' + 1, (y1, y2) :: l3, G ++ [(av, hv)], by omega, HT2.out, HF.out, ?_, HP1.out.own, HP1.out.below (HW.out.drewN' _) (Nat.le_refl _) hzw⟩
       rw [HG.out, HJ2.out, if_neg (by omega)]; simp
      ·show lenV _ < lenV _; first | (simp [lenV]; done) | (simp [lenV]; omega)
    ·obtain rfl : n' = 1 := by omega
     obtain rfl : l' = [] := by have := HR.out.1; simp at this; exact this
     go_wp2_with fail
     all_goals
      go_quiet (fail)
      go_wp2_with (at_builtin; refine wpList_pushP rfl (.tmp 35) (.tmp 37) rfl w.heap.size _ _ _ _ _ _ (by rfl) HV.out _ (by rfl) rfl (by omega) hzw ?_
                   intro g1 c1 w2 hp1
                   have HP1 := Lib.hid hp1; clear hp1)
      go_step3
      refine ⟨⟨_, _, _, _, _, _, _, _, _, _, _, _, _, _, _, _, _, _, _, _, _, _, _, _, _, _, _, _, _, _, _, _, _, _, _, _, _, rfl, ?_⟩, ?_⟩
      ·refine ⟨0, m' + 1, [], G ++ [(av, hv)], by omega, ReadsP.zero (by unfold maxLen; omega), HF.out, ?_, HP1.out.own, HP1.out.below (HW.out.drewN' _) (Nat.le_refl _) hzw⟩
       rw [HG.out, joinW_nil]; simp [joinF]
      ·show lenV _ < lenV _; first | (simp [lenV]; done) | (simp [lenV]; omega)
  ·rintro a wr ⟨s0, s3, s4, u5, u6, u7, u8, u9, u10, u11, u12, u13, u14, u15, u16, u17, u18, u19, u20, u21, u22, u23, u24, u25, u26, u27, u28, u29, u30, u31, u32, u33, u34, u35, u36, u37, u38, rfl, n', m', pb, av, hv, x, l', G, hmn, R, F, HJ, V, WB, rfl, k1, k2, k3, hpn, hpw, ha0, h0, h1⟩
   obtain ⟨x0, cap, rfl, hc, hcm, hla⟩ := R.form
   have hn1 : 0 < n' := by rw [<- hla]; simp
   obtain ⟨b, off, rfl, _, _, _⟩ := R.at 0 hn1
   have HR := Lib.hid R; have HF := Lib.hid F; have HG := Lib.hid HJ; have HV := Lib.hid V; have HW := Lib.hid WB; have hzw := WB.size
   have hz5 := hla
   clear R F HJ V WB hla
   have HD := Lib.hid hz5; clear hz5
   by_cases h2 : 1 < n'
   ·have hcap : ¬ cap = 1 := by omega
    obtain ⟨y, l3, rfl⟩ : ∃ y l3, l' = y :: l3 := by
     cases l' with
     | nil => have := HR.out.1; simp at this; omega
     | cons y l3 => exact ⟨y, l3, rfl⟩
    have HT := HR.out.tl
    rw [if_neg hcap] at HT
    obtain ⟨b2, off2, e2, hb2, d1, d2⟩ := HT.at 0 (by omega)
    simp only [Option.some.injEq, Addr.mk.injEq] at e2
    obtain ⟨rfl, rfl, _⟩ := e2
    have d1 := (HW.out.cell (p := ⟨b, off + 2 + 0 * 2, none⟩) hb2).trans d1
    have d2 := (HW.out.cell (p := ⟨b, off + 2 + 0 * 2 + 1, none⟩) hb2).trans d2
    simp only [List.getD_cons_zero, Nat.zero_mul, Nat.add_zero] at d1 d2
    have HT2 := Lib.hid HT; clear HT
    obtain ⟨y1, y2⟩ := y
    simp only at d1 d2
    have hfy := HF.out (y1, y2) List.mem_cons_self
    simp only at hfy
    obtain ⟨f1, f2, f3⟩ := hfy
    have HJ2 := Lib.hid (joinW_cons av hv y1 y2 l3)
    have i5 : (0 : Int) < ((n' - 1 : Nat) : Int) := by omega
    have t5 : decide (0 < n' - 1) = true := by simp; omega
    by_cases h3 : y1 <= hv + 1
    ·go_wp2_with fail
     go_quiet (fail)
     go_wp2_with fail
     go_region
     go_wp2_with fail
     ·go_step3
      have em : max hv y2 = y2 := by omega
      refine ⟨⟨_, _, _, _, _, _, _, _, _, _, _, _, _, _, _, _, _, _, _, _, _, _, _, _, _, _, _, _, _, _, _, _, _, _, _, _, _, rfl, ?_⟩, ?_⟩
      ·refine ⟨n' - 1, m', pb, av, y2, (y1, y2), l3, G, by omega, HT2.out, HF.out.tl, ?_, (OwnP.drewN HV.out _).stored_other hpn _, ((HW.out.drewN' _).setCell (p := ⟨pb, 1, none⟩) hpw _), rfl, (World.cell?_setCell_other _ _ _ _ (by simp)).trans k1, World.cell?_setCell_same' _ _ _ (by rw [show (wr.drewN (nq + 1)).cell? ⟨pb, 1, none⟩ = _ from k2]; rfl), (by rw [World.frozen?_setCell]; exact k3), hpn, hpw, ha0, by omega, by omega⟩
       rw [HG.out, HJ2.out, if_pos h3, em]
      ·show lenV _ < lenV _; first | (simp [lenV]; done) | (simp [lenV]; omega)
     ·go_step3
      have em : max hv y2 = hv := by omega
      refine ⟨⟨_, _, _, _, _, _, _, _, _, _, _, _, _, _, _, _, _, _, _, _, _, _, _, _, _, _, _, _, _, _, _, _, _, _, _, _, _, rfl, ?_⟩, ?_⟩
      ·refine ⟨n' - 1, m', pb, av, hv, (y1, y2), l3, G, by omega, HT2.out, HF.out.tl, ?_, (OwnP.drewN HV.out _).stored_other hpn _, ((HW.out.drewN' _).setCell (p := ⟨pb, 1, none⟩) hpw _), rfl, (World.cell?_setCell_other _ _ _ _ (by simp)).trans k1, World.cell?_setCell_same' _ _ _ (by rw [show (wr.drewN (nq + 1)).cell? ⟨pb, 1, none⟩ = _ from k2]; rfl), (by rw [World.frozen?_setCell]; exact k3), hpn, hpw, ha0, by omega, by omega⟩
       rw [HG.out, HJ2.out, if_pos h3, em]
      ·show lenV _ < lenV _; first | (simp [lenV]; done) | (simp [lenV]; omega)
    ·have h3' : hv + 1 < y1 := by omega
     go_wp2_with fail
     go_quiet (fail)
     go_wp2_with (at_builtin; refine wpList_pushP rfl (.tmp 35) (.tmp 37) rfl w.heap.size _ _ _ _ _ _ (by rfl) HV.out _ (by rfl) rfl (by omega) hzw ?_
                  intro g1 c1 w2 hp1
                  have HP1 := Lib.hid hp1; clear hp1)
     go_step3
     refine ⟨⟨_, _, _, _, _, _, _, _, _, _, _, _, _, _, _, _, _, _, _, _, _, _, _, _, _, _, _, _, _, _, _, _, _, _, _, _, _, rfl, ?_⟩, ?_⟩
     ·refine ⟨n' - 1, m' + 1, (y1, y2) :: l3, G ++ [(av, hv)], by omega, HT2.out, HF.out, ?_, HP1.out.own, HP1.out.below (HW.out.drewN' _) (Nat.le_refl _) hzw⟩
      rw [HG.out, HJ2.out, if_neg (by omega)]; simp
     ·show lenV _ < lenV _; first | (simp [lenV]; done) | (simp [lenV]; omega)
   ·obtain rfl : n' = 1 := by omega
    obtain rfl : l' = [] := by have := HR.out.1; simp at this; exact this
    go_wp2_with fail
    all_goals
     go_quiet (fail)
     go_wp2_with (at_builtin; refine wpList_pushP rfl (.tmp 35) (.tmp 37) rfl w.heap.size _ _ _ _ _ _ (by rfl) HV.out _ (by rfl) rfl (by omega) hzw ?_
                  intro g1 c1 w2 hp1
                  have HP1 := Lib.hid hp1; clear hp1)
     go_step3
     refine ⟨⟨_, _, _, _, _, _, _, _, _, _, _, _, _, _, _, _, _, _, _, _, _, _, _, _, _, _, _, _, _, _, _, _, _, _, _, _, _, rfl, ?_⟩, ?_⟩
     ·refine ⟨0, m' + 1, [], G ++ [(av, hv)], by omega, ReadsP.zero (by unfold maxLen; omega), HF.out, ?_, HP1.out.own, HP1.out.below (HW.out.drewN' _) (Nat.le_refl _) hzw⟩
      rw [HG.out, joinW_nil]; simp [joinF]
     ·show lenV _ < lenV _; first | (simp [lenV]; done) | (simp [lenV]; omega)
end Go.Proofs.YtfccnadbiglagaaGreat
