/- The law's summed: bytes with their sum behind them. What a loading tells, program's and reference's. -/
import Derived.Test.YtjkcglgkdclidaaVTableYn
import Derived.Test.YtjkcglgkdclidaaVTableYq
import Derived.Test.YtjkcglgkdclidaaVTableTr
set_option linter.unusedVariables false
set_option linter.unusedSimpArgs false
set_option maxRecDepth 100000
set_option maxHeartbeats 8000000
namespace Go.Proofs.Ytjkcglgkdclidaa
open Go Go.RowKit Go.Proofs
theorem GrowB.last {w W : World} {B : Nat} {v u : Value} {M : List Int} {z y : Int} (h : GrowB w B v W u (M ++ [z])) (e : z = y) : GrowB w B v W u (M ++ [y]) := e ▸ h
theorem summed_any {w : World} {v : Value} {n : Nat} {l : List Int} (h : BytesR w v n l) (hlen : n <= 100000000) :
  Calls Try.prog 20 #[v] w fun e w' => ∃ u, e = .returned u /\ BRow w' w.heap.size u (l ++ be8 (sumI l)) /\ Below w.heap.size w w' := by
  obtain ⟨A, cap, rfl, l1, l2, l3⟩ := h.form
  have HH := Lib.hid h
  have HLL : Hid (l.length = n) := Lib.hid l3
  obtain ⟨x, hx⟩ : ∃ x, sumI l = x := ⟨_, rfl⟩
  have hxi := sumI_in l
  rw [hx] at hxi ⊢
  obtain ⟨x1, x2⟩ := hxi
  have HX := Lib.hid hx
  clear h l3 hx
  go_enter Try.func20, Try.ntmps20
  go_wp2_with fail
  refine (rsum_any HH.out).mono ?_
  rintro e V1 ⟨rfl, rfl⟩
  rw [HX.out]
  have hout : BRow (V1.alloc (.cells #[] 5)) V1.heap.size (.slice (some ⟨V1.heap.size, 0, none⟩) 0 0) [] := BRow.none_ V1
  have HOUT := Lib.hid hout
  have HYA := Lib.hid (HH.out.below (w' := V1.alloc (.cells #[] 5)) ((Below.refl _ _).alloc (Nat.le_refl _) _))
  clear hout
  go_wp2_with (at_builtin; refine wpList_concatB rfl (.tmp 8) (.tmp 9) rfl V1.heap.size (.slice (some ⟨V1.heap.size, 0, none⟩) 0 0) 0 [] (by rfl) HOUT.out (.slice A n cap) n l (by rfl) HYA.out.1 (by omega) (by simp) ?_; intro v' w2 ho hg ha; have hbr : BRow w2 V1.heap.size v' l := (by rw [Nat.zero_add, List.nil_append] at ho; rw [<- HLL.out] at ho; exact ho); have hbl : Below V1.heap.size V1 w2 := ((Below.refl _ _).alloc (Nat.le_refl _) _).grown hg (by simp) (fun q hq => by simp only [Value.ownBlock, Option.some.injEq] at hq; omega); have HBL := Lib.hid hbl; have HG : Hid (GrowB w2 V1.heap.size v' w2 v' (l ++ (be8 x).take 0)) := Lib.hid (by rw [List.take_zero, List.append_nil]; exact GrowB.refl hbr); have HLT := Lib.hid hbr.lt; clear ho hg ha hbr hbl HOUT HYA)
  go_loopw [4, 5] (fun u vi wr => ∃ i : Nat, vi = .int .i64 (i : Int) /\ i <= 8 /\ Hid (GrowB w2 V1.heap.size v' wr u (l ++ (be8 x).take i))) (fun _ vi _ => 8 - (intOf vi).toNat)
  case atStart => exact ⟨0, rfl, Nat.zero_le _, HG⟩
  case round =>
   clear HG
   obtain ⟨i, rfl, hi, HG⟩ := hrel
   by_cases hlt : i < 8
   ·have hbs : V1.heap.size <= wr.heap.size := Nat.le_trans HBL.out.size HG.out.fr.size
    obtain ⟨P, hP⟩ : ∃ P, l ++ (be8 x).take i = P := ⟨_, rfl⟩
    have hPl : P.length <= 1000000000 := by rw [<- hP, List.length_append, List.length_take, HLL.out]; omega
    have hst : l ++ (be8 x).take (i + 1) = P ++ [(be8 x).getD i 0] := by rw [be8_take_succ x hlt, <- List.append_assoc, hP]
    rw [hP] at HG
    have HST := Lib.hid hst
    clear hP hst
    rcases (show i = 0 \/ i = 1 \/ i = 2 \/ i = 3 \/ i = 4 \/ i = 5 \/ i = 6 \/ i = 7 by omega) with rfl | rfl | rfl | rfl | rfl | rfl | rfl | rfl
    all_goals (clear hlt hi)
    all_goals (
     go_wp2_with (at_builtin; refine wpList_pushE (enc := encB) rfl (.tmp 15) (.tmp 23) 34 rfl 1 _ Try.underlying34 info_byte rfl (by omega) (by omega) V1.heap.size wr u4 P.length P _ _ rfl rfl (by simp [encB, Value.oneCell']) (by rfl) HG.out.o wr.heap.size (by rfl) rfl hPl hbs ?_; intro g9 cap9 w9 hp9; have HP := Lib.hid (HG.out.push hp9); clear hp9)
     refine ⟨⟨_, by go_num, by decide, Lib.hid ?_⟩, by simp [intOf]⟩
     rw [HST.out]
     exact GrowB.last HP.out (by first | rfl | (simp only [be8, List.getD_cons_zero, List.getD_cons_succ]; omega)))
   ·obtain rfl : i = 8 := by omega
    go_wp2_with fail
    go_ret
    exact ⟨_, rfl, HG.out.o, HBL.out.trans (HG.out.low HBL.out.size (fun k hk => (HLT.out k hk).1))⟩
end Go.Proofs.Ytjkcglgkdclidaa
namespace Go.Proofs.Ytjkcglgkdclidaa
open Go Go.RowKit Go.Proofs
def ToldP (bs : List Int) (b : Bool) (t : Tab) : Prop := (b = true /\ RightT t /\ bs = saveT t) \/ (b = false /\ t = noT /\ ∀ u, RightT u -> bs ≠ saveT u)
theorem ToldP.uniq {bs : List Int} {b b' : Bool} {t t' : Tab} (h : ToldP bs b t) (h' : ToldP bs b' t') : b' = b /\ t' = t := by
 rcases h with ⟨rfl, h1, h2⟩ | ⟨rfl, rfl, h2⟩ <;> rcases h' with ⟨rfl, h3, h4⟩ | ⟨rfl, rfl, h4⟩
 ·exact ⟨rfl, (saveT_inj h1 h3 (h2.symm.trans h4)).symm⟩
 ·exact absurd h2 (h4 t h1)
 ·exact absurd h4 (h2 t' h3)
 ·exact ⟨rfl, rfl⟩
theorem ToldP.ints {bs : List Int} {b : Bool} {t : Tab} (h : ToldP bs b t) : IntsT t := by
 rcases h with ⟨rfl, h1, h2⟩ | ⟨rfl, rfl, h2⟩
 ·exact h1.intsT
 ·exact noT_ints
theorem ToldP.len {bs : List Int} {b : Bool} {t : Tab} (h : ToldP bs b t) (hl : bs.length <= 8000000) : (enT t).length <= 1000000 := by
 rcases h with ⟨rfl, h1, h2⟩ | ⟨rfl, rfl, h2⟩
 ·rw [h2, saveT_len] at hl; omega
 ·decide
theorem ToldP.no {bs : List Int} {b : Bool} {t : Tab} (h : ToldP bs b t) (hl : ∀ u, bs ≠ saveT u) : b = false := by
 rcases h with ⟨rfl, h1, h2⟩ | ⟨rfl, rfl, h2⟩
 ·exact absurd h2 (hl t)
 ·rfl
theorem odd_not {l : List Int} (h : l.length % 8 ≠ 0) (u : Tab) : l ≠ saveT u := fun e => h (by rw [e, saveT_len]; omega)
def ToldE (w' : World) (e : Ending) (bs : List Int) : Prop := ∃ (A0 A1 A2 A3 A4 A5 : Option Addr) (n0 n1 n2 n3 n4 n5 c0 c1 c2 c3 c4 c5 : Nat) (b : Bool) (t : Tab), e = .returned (.tuple #[.agg #[.slice A0 n0 c0, .slice A1 n1 c1, .slice A2 n2 c2, .slice A3 n3 c3, .slice A4 n4 c4, .slice A5 n5 c5], .bool b]) /\ ToldP bs b t /\ TabR w' (.slice A0 n0 c0) (.slice A1 n1 c1) (.slice A2 n2 c2) (.slice A3 n3 c3) (.slice A4 n4 c4) (.slice A5 n5 c5) t
theorem toldE_of {w' : World} {e : Ending} {bs : List Int} {b : Bool} {vc vl vbn vbo vfn vfe : Value} {t : Tab} (he : e = .returned (.tuple #[.agg #[vc, vl, vbn, vbo, vfn, vfe], .bool b])) (h : ToldP bs b t) (ht : TabR w' vc vl vbn vbo vfn vfe t) : ToldE w' e bs := by
 obtain ⟨A0, c0, rfl, -⟩ := ht.c.form
 obtain ⟨A1, c1, rfl, -⟩ := ht.l.form
 obtain ⟨A2, c2, e2, -⟩ := ht.bn.form
 obtain ⟨A3, c3, rfl, -⟩ := ht.bo.form
 obtain ⟨A4, c4, e4, -⟩ := ht.fn.form
 obtain ⟨A5, c5, e5, -⟩ := ht.fe.form
 subst e2 e4 e5
 exact ⟨_, _, _, _, _, _, _, _, _, _, _, _, _, _, _, _, _, _, b, t, he, h, ht⟩
theorem LoadE.told {w w' : World} {e : Ending} {bs : List Int} (h : LoadE w w' e bs) (hb : ∀ x ∈ bs, ByteI x) : ToldE w' e bs := by
 rcases h with ⟨vc, vl, vbn, vbo, vfn, vfe, t, hp, he, -, ht⟩ | ⟨hn, he⟩
 ·have := (loadP_iff hb t).1 hp
  exact toldE_of he (.inl ⟨rfl, this.1, this.2⟩) ht
 ·exact toldE_of he (.inr ⟨rfl, rfl, fun u hu e => hn u ((loadP_iff hb u).2 ⟨hu, e⟩)⟩) (noT_tab w')
theorem RLoadE.told {w' : World} {e : Ending} {bs : List Int} (h : RLoadE w' e bs) (hb : ∀ x ∈ bs, ByteI x) : ToldE w' e bs := by
 rcases h with ⟨vc, vl, vbn, vbo, vfn, vfe, t, hp, he, ht⟩ | ⟨hn, he⟩
 ·have := (refP_iff hb t).1 hp
  exact toldE_of he (.inl ⟨rfl, this.1, this.2⟩) ht
 ·exact toldE_of he (.inr ⟨rfl, rfl, fun u hu e => hn u ((refP_iff hb u).2 ⟨hu, e⟩)⟩) (noT_tab w')
theorem tload_told {w : World} {v : Value} {n : Nat} {bs : List Int} (h : BytesR w v n bs) (hn : n <= 8000000) :
  Calls Try.prog 16 #[v] w fun e w' => ToldE w' e bs /\ Below w.heap.size w w' :=
  (tload_any h hn).mono fun e w' hh => ⟨hh.1.told h.2, hh.2⟩
theorem rload_told {w : World} {v : Value} {n : Nat} {bs : List Int} (h : BytesR w v n bs) :
  Calls Try.prog 21 #[v] w fun e w' => ToldE w' e bs /\ Below w.heap.size w w' :=
  (rload_any h).mono fun e w' hh => ⟨hh.1.told h.2, hh.2⟩
theorem byte_app {a b : List Int} (ha : ∀ x ∈ a, ByteI x) (hb : ∀ x ∈ b, ByteI x) : ∀ x ∈ a ++ b, ByteI x := fun x hx => by
 rcases List.mem_append.1 hx with h | h
 ·exact ha x h
 ·exact hb x h
theorem byte_take {a : List Int} (ha : ∀ x ∈ a, ByteI x) (k : Nat) : ∀ x ∈ a.take k, ByteI x := fun x hx => ha x (List.mem_of_mem_take hx)
theorem BRow.of_own {w : World} {B n : Nat} {v : Value} {l : List Int} (h : OwnE encB 5 1 w B v n l) (hl : l.length = n) : BRow w B v l := by
 unfold BRow; rw [hl]; exact h
end Go.Proofs.Ytjkcglgkdclidaa
