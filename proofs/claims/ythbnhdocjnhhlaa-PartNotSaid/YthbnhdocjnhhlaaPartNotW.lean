/- The law PartNot, walked. -/
import Derived.Test.YthbnhdocjnhhlaaPartO
namespace Go.Proofs.Ythbnhdocjnhhlaa
open Go Go.RowKit
set_option linter.unusedVariables false
set_option linter.unusedSimpArgs false

set_option maxRecDepth 100000 in
set_option maxHeartbeats 8000000 in
theorem partNot_walk (a0 : Option Addr) (len0 cap0 : Nat) (z0 : List Int) (a1 : Int) (w : World) (w0 : IsRow .i64 w a0 len0 cap0 z0) (w1 : (Lit.int .i64 a1).wf = true) :
    Calls Try.prog 8 #[.slice a0 len0 cap0, .int .i64 a1] w fun e w' => e = .returned (.bool true) ∧ Below w.heap.size w w' := by
  have Q0 := Lib.hid w0; clear w0 w1
  go_enter Try.func8, Try.ntmps8
  go_wp2_with fail
  refine (known4_any w).mono ?_
  rintro e W1 ⟨rfl, h2⟩
  replace Q0 := Lib.hid (IsRow.below Q0.out h2)
  have BB := Lib.hid h2
  clear h2
  go_wp2_with fail
  refine (sets_x (mo := 8) Q0.out (by omega)).mono ?_
  rintro e W2 ⟨v, n, ss, rfl, hr, hn, h1, h2⟩
  have HR := Lib.hid hr
  have RS := Lib.hid h1.readsL
  have HL := Lib.hid h1.readsL.1
  have OS := Lib.hid h1
  obtain ⟨av, cv, rfl⟩ := h1.slice
  replace BB := Lib.hid (BB.out.trans (h2.mono BB.out.size))
  clear h1 h2 hr Q0
  obtain ⟨vals, ov, vo, hln⟩ := OS.out.vals
  have OV := Lib.hid ov; have VO := Lib.hid vo; have H1 := Lib.hid vo.one
  clear ov vo OS
  by_cases h0 : n = 0
  · have e0 : ((n : Int) == 0) = true := by simp; omega
    clear hln
    subst h0
    go_wp2_with fail
    go_ret
    exact ⟨rfl, BB.out⟩
  have e0 : ((n : Int) == 0) = false := by simp; omega
  have n1 : ¬ (n : Int) = 0 := by omega
  have HLN := Lib.hid hln; clear hln
  go_wp2_with (at_builtin; refine wpList_concatV rfl (.tmp 19) (.tmp 20) rfl W2.heap.size _ _ _ _ (by rfl) (OwnV.empty W2) _ n vals (by rfl) (OV.out.alloc _) H1.out (by omega) (by simp) ?_
               intro v4 w4 h1 h2 h3 _
               have OT := Lib.hid h1
               have B4 := Lib.hid (((Below.refl _ W2).alloc (Nat.le_refl _) _).trans h2)
               clear h1 h2 h3)
  have hz4 := B4.out.size
  have hw := wth_bd a1 n (by omega)
  refine (within4_any _ _ (by omega) (by omega) _).mono ?_
  rintro e w' ⟨rfl, rfl⟩
  generalize wth a1 n = kk at *
  obtain ⟨k, rfl⟩ : ∃ k : Nat, kk = (k : Int) := ⟨kk.toNat, by omega⟩
  obtain ⟨hw1, hw2⟩ := hw
  have hkn : k < n := by omega
  have t1 : decide (k < n) = true := by simpa using hkn
  have RS4 := Lib.hid (RS.out.below B4.out)
  have VO4 := Lib.hid (VO.out.below B4.out)
  obtain ⟨b, off, u, rfl, c1, hu⟩ := RS4.out.at k hkn
  have HRk := Lib.hid (HR.out.at k (by rw [HL.out]; exact hkn))
  have HPN := Lib.hid (part_not HR.out k (by rw [HL.out]; exact hkn))
  have HN := Lib.hid (fun W (h : ReadsP W u (ss.getD k []).length (ss.getD k [])) => rnot_any h HRk.out)
  have HU := Lib.hid hu
  have HNR : Hid (RtAll (ss.set k (notL (ss.getD k [])))) := Lib.hid (fun l hl => by
    rcases List.mem_or_eq_of_mem_set hl with q | rfl
    · exact HR.out l q
    · exact notL_rt HRk.out)
  obtain ⟨a6, c6, e6, -, -, -⟩ := hu.form
  clear hu
  subst e6
  generalize ss.getD k [] = l at *
  rcases OT.out.2 with ⟨_, hx⟩ | ⟨g, capg, cur, rfl, hg, hh, _⟩
  · omega
  have hgz := (Array.getElem?_eq_some_iff.1 hh).1
  clear hh
  go_wp2_with fail
  refine (HN.out _ HU.out).mono ?_
  rintro e w5 ⟨v5, rfl, h1, h2⟩
  generalize hNN : (notL l).length = N at h1
  have HNN := Lib.hid hNN; clear hNN
  obtain ⟨a5, c5, e5, -, -, -⟩ := h1.reads.form
  subst e5
  have ON := Lib.hid h1
  have OT5 := Lib.hid (OT.out.below_top h2)
  have VO5 := Lib.hid (VO4.out.below h2)
  have RS5 := Lib.hid (RS4.out.below h2)
  have B5 := Lib.hid (B4.out.trans (h2.mono hz4))
  clear h1 h2
  have f1 := World.ownsRow.frozenAt OT5.out k
  have d1 : w5.cell? ⟨g, k, none⟩ = some (vals.getD k undef) := by
    rw [World.ownsRow.cellAt OT5.out k (by omega)]
    have hl := OT5.out.len
    simp only [List.nil_append] at hl ⊢
    simp [List.getD, List.getElem?_eq_getElem (show k < vals.length by omega)]
  have hnz : 0 + n = n := Nat.zero_add n
  go_wp2_with fail
  obtain ⟨s1, s2⟩ := World.ownsRow.stored OT5.out k (.slice a5 N c5)
  have hne : (Value.slice a5 N c5).ownBlock ≠ some g := by
    intro e
    have := (ON.out.lt g e).1
    omega
  have ON6 := Lib.hid (ON.out.kept s2 (.inr hne))
  have OT6 : Hid (OwnV (w5.setCell ⟨g, k, none⟩ (.slice a5 N c5)) W2.heap.size (.slice (some ⟨g, 0, none⟩) n capg) n (vals.set k (.slice a5 N c5))) := Lib.hid (by
    have := s1
    rw [Nat.zero_add, List.nil_append] at this
    exact this)
  have B6 := Lib.hid (B5.out.grown s2 B5.out.size (fun r hr => by cases hr; exact hg))
  have RS6 := Lib.hid (RS.out.below B6.out)
  have VO6 := Lib.hid ((VO.out.below B6.out).set k (by rw [HL.out]; exact hkn) (by rw [HNN.out]; exact ON6.out.reads))
  have RT := Lib.hid (OT6.out.reads VO6.out)
  replace BB := Lib.hid (BB.out.trans (B6.out.mono BB.out.size))
  clear s1 s2 d1 f1 c1 OT OT5 VO4 VO5 RS RS4 RS5 B4 B5 HN OT6 VO6 hne ON ON6
  rw [Nat.zero_add] at *
  generalize w5.setCell ⟨g, k, none⟩ (.slice a5 N c5) = W6 at *
  go_wp2_with fail
  refine (cuts_x RS6.out HR.out (by omega)).mono ?_
  rintro e W7 ⟨ma, aca, cca, ala, cla, rfl, hma, r1, r2, h3⟩
  have RCa := Lib.hid r1; have RLa := Lib.hid r2
  replace RT := Lib.hid (RT.out.below h3)
  replace BB := Lib.hid (BB.out.trans (h3.mono BB.out.size))
  clear r1 r2 h3
  go_wp2_with fail
  refine (cuts_x RT.out HNR.out (by omega)).mono ?_
  rintro e W8 ⟨mb, acb, ccb, alb, clb, rfl, hmb, r1, r2, h3⟩
  have RCb := Lib.hid r1; have RLb := Lib.hid r2
  replace RCa := Lib.hid (RCa.out.below h3)
  replace RLa := Lib.hid (RLa.out.below h3)
  replace BB := Lib.hid (BB.out.trans (h3.mono BB.out.size))
  clear r1 r2 h3
  have HC1 : Hid (ReadsI W8 (.slice acb mb ccb) mb (cutsL ss)) := Lib.hid (by rw [HPN.out.1]; exact RCb.out)
  have HC2 : Hid (ReadsI W8 (.slice alb mb clb) mb (letsL ss)) := Lib.hid (by rw [HPN.out.2]; exact RLb.out)
  obtain rfl : ma = mb := by rw [← RCa.out.1, ← HC1.out.1]
  go_wp2_with fail
  refine (ints_any RCa.out.reads HC1.out.reads (by omega)).mono ?_
  rintro e W9 ⟨rfl, h3⟩
  replace RLa := Lib.hid (RLa.out.below h3)
  replace HC2 := Lib.hid (HC2.out.below h3)
  replace BB := Lib.hid (BB.out.trans (h3.mono BB.out.size))
  clear h3
  go_wp2_with fail
  refine (ints_any RLa.out.reads HC2.out.reads (by omega)).mono ?_
  rintro e W10 ⟨rfl, h3⟩
  replace BB := Lib.hid (BB.out.trans (h3.mono BB.out.size))
  clear h3
  go_wp2_with fail
  go_ret
  exact ⟨rfl, BB.out⟩

end Go.Proofs.Ythbnhdocjnhhlaa
