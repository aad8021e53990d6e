/- What the law's opening test computes: plain. The laws' opening test. What the laws of chapter 7 share. -/
import Derived.Test.YtfccnadbiglagaaGreatVSideNd
import Derived.Test.YtfccnadbiglagaaGreatVSynLg
import Derived.Test.YtfccnadbiglagaaGreatVSynLf
import Derived.Test.YtfccnadbiglagaaGreatVSynLc
set_option linter.unusedVariables false
set_option linter.unusedSimpArgs false
set_option maxRecDepth 100000
set_option maxHeartbeats 8000000
namespace Go.Proofs.YtfccnadbiglagaaGreat
open Go Go.RowKit Go.Proofs
def kPat : Pat := .cat .any_ (.set [118])
def kD : List Bs := (defsOf []).map DefP.name
def kS : SideP := sideOf (ixN kD) kPat
theorem kS_sets : kS.sets = [-1, 1] := by decide
theorem kS_first : kS.first = [0, 1152921504606846976] := by decide
theorem kS_ends : kS.ends = [1152921504606846976, 0] := by decide
theorem kS_none : kS.none_ = 1152921504606846976 := by decide
theorem kS_n : kS.n = 2 := by decide
theorem kS_arcs : arcsOf 2 kS.arc = [((0 : Int), (1 : Int), (0 : Int))] := by decide
theorem kS_size : sizeC kPat = 2 := by decide
theorem kPat_ok : kPat.Ok kD true := ⟨trivial, show ([118] : Bs) ∈ kD by decide⟩
theorem kPat_tree : kPat.tree = .mk 4 0 0 0 [] [.mk 3 0 0 0 [] [], .mk 2 0 0 0 [118] []] := rfl
theorem kSet_v : (setsOf (defsOf []) (defsOf []).length).getD 1 [] = [((97 : Int), (99 : Int))] := by decide
theorem kCost {S : List Int} (hS : S = [-1, 1]) : costL 2 S [0, 1152921504606846976] [1152921504606846976, 0] [((0 : Int), (1 : Int), (0 : Int))] (inRows (setsOf (defsOf []) (defsOf []).length) (setsOf (defsOf []) (defsOf []).length).length) 1152921504606846976 (letOf (setsOf (defsOf []) (defsOf []).length)) [120, 97] = 0 := by
 have hrt : RtAll (setsOf (defsOf []) (defsOf []).length) := setsOf_rt _ _
 have hl : (setsOf (defsOf []) (defsOf []).length).length = 4 := setsOf_len _ _ (Nat.le_refl _)
 have hv : (inRow (setsOf (defsOf []) (defsOf []).length) 1).getD (letOf (setsOf (defsOf []) (defsOf []).length) 97) false = true := by
  rw [inRow_at hrt 97 (by omega) (by omega) 1 (by rw [hl]; omega), kSet_v]
  decide
 rw [hl]
 generalize setsOf (defsOf []) (defsOf []).length = ss at *
 have h0 : ∀ k, hasN S (inRows ss 4) 0 k = true := fun k => by subst hS; rfl
 have h1 : hasN S (inRows ss 4) 1 (letOf ss 97) = true := by
  subst hS
  show ((1 : Int) == -1 || (rowI (inRows ss 4) 1).getD (letOf ss 97) false) = true
  rw [show rowI (inRows ss 4) 1 = inRow ss 1 by unfold rowI inRows; simp, hv]
  rfl
 have hP0 : onlyL S (inRows ss 4) [0, 1152921504606846976] (letOf ss 120) = [0, 1152921504606846976] := by
  unfold onlyL
  simp [List.range_succ, h0, infC]
 have hN : nextL 2 [0, 1152921504606846976] [((0 : Int), (1 : Int), (0 : Int))] = [1152921504606846976, 0] := by decide
 have hP1 : onlyL S (inRows ss 4) [1152921504606846976, 0] (letOf ss 97) = [1152921504606846976, 0] := by
  unfold onlyL
  simp [List.range_succ, h0, h1, infC]
 show endL (walkL 2 S _ (inRows ss 4) (letOf ss) (onlyL S (inRows ss 4) [0, 1152921504606846976] (letOf ss 120)) [97]) _ = 0
 rw [hP0]
 show endL (onlyL S (inRows ss 4) (nextL 2 [0, 1152921504606846976] _) (letOf ss 97)) _ = 0
 rw [hN, hP1]
 decide
end Go.Proofs.YtfccnadbiglagaaGreat
namespace Go.Proofs.YtfccnadbiglagaaGreat
open Go Go.RowKit Go.Proofs
theorem Names.low {w : World} {S : Nat -> Prop} {v : Value} {D : List Bs} (h : Names w S v D) : Names w (fun g => g < w.heap.size) v D := by
 obtain ⟨A, c, h1, h2, h3, h4, h5⟩ := h
 refine ⟨A, c, h1, h2, h3, h4, fun i hi => ?_⟩
 obtain ⟨b, o, e, e1, e2, r⟩ := h5 i hi
 exact ⟨b, o, e, e2, e2, r⟩
theorem own_some {w : World} {B n : Nat} {v : Value} {l : List Int} (h : Own w B v n l) (hn : 0 < n) : ∃ g c, v = .slice (some ⟨g, 0, none⟩) n c /\ ∀ i, i < n -> w.cell? ⟨g, i, none⟩ = some (.int .i64 (l.getD i 0)) := by
 rcases h.form with ⟨_, e, _⟩ | ⟨g, c, e, _, _, _, hc⟩
 ·omega
 ·exact ⟨g, c, e, fun i hi => by have := hc i hi; rwa [Nat.zero_add] at this⟩
theorem nil_cap {w : World} {B : Nat} {e : TypeId} {k n : Nat} {A : Option Addr} {m c : Nat} {xs : List Value} (h : w.ownsRow B e k (.slice A m c) n xs) : A = none -> c = 0 := fun ha => by
 rcases h.2 with ⟨e, _⟩ | ⟨g, cap, cur, e, _⟩
 ·simp only [Value.slice.injEq] at e; exact e.2.2
 ·simp only [Value.slice.injEq] at e; rw [ha] at e; cases e.1
theorem known7_ok (w : World) : Calls Tryz.prog 13 #[] w fun e w' => e = .returned (.bool true) /\ Below w.heap.size w w' := by
 have hdf := defs_made [] w (.slice none 0 0) (IntsR.nil w)
 have HDF := Lib.hid hdf; clear hdf
 go_enter Tryz.func13, Tryz.ntmps13
 go_wp2_with fail
 refine HDF.out.mono ?_
 rintro e w1 ⟨u, rfl, hdo, hb1⟩
 have hda := hdo.at_
 obtain ⟨dA, dc, cs, rfl, hd1, hd2, hd3, hd4, hd5⟩ := id hda
 have hdl : ((defsOf []).map DefP.tree).length = 4 := rfl
 rw [hdl] at hdo hda ⊢
 have hnil : dA = none -> dc = 0 := nil_cap hdo.choose_spec.1
 obtain ⟨Fb, hFb⟩ : ∃ b, w1.heap.size = b := ⟨_, rfl⟩
 obtain ⟨W2, hW2⟩ : ∃ W2, (w1.alloc (.cells #[.slice dA 4 dc, .slice none 0 0] 30)).alloc (.cells #[.int .i64 3, .int .i64 0, .int .i64 0, .int .i64 0, .string ⟨#[]⟩, .slice none 0 0, .int .i64 2, .int .i64 0, .int .i64 0, .int .i64 0, .string ⟨#[118]⟩, .slice none 0 0] 33) = W2 := ⟨_, rfl⟩
 have hb2 : Below w1.heap.size w1 W2 := by rw [<- hW2]; exact ((Below.refl _ _).alloc (Nat.le_refl _) _).alloc (by simp) _
 have hxf : Blk W2 w1.heap.size 30 #[.slice dA 4 dc, .slice none 0 0] := by rw [<- hW2]; exact Blk.alloc (Blk.new _ _ _) _
 have hxr : Blk W2 (w1.heap.size + 1) 33 #[.int .i64 3, .int .i64 0, .int .i64 0, .int .i64 0, .string ⟨#[]⟩, .slice none 0 0, .int .i64 2, .int .i64 0, .int .i64 0, .int .i64 0, .string ⟨#[118]⟩, .slice none 0 0] := by
  rw [<- hW2]
  have := Blk.new (w1.alloc (.cells #[.slice dA 4 dc, .slice none 0 0] 30)) 33 #[.int .i64 3, .int .i64 0, .int .i64 0, .int .i64 0, .string ⟨#[]⟩, .slice none 0 0, .int .i64 2, .int .i64 0, .int .i64 0, .int .i64 0, .string ⟨#[118]⟩, .slice none 0 0]
  rwa [World.size_alloc] at this
 have hz2 : W2.heap.size = w1.heap.size + 2 := by rw [<- hW2]; simp
 have hT : TreeV true W2 (fun g => g < W2.heap.size) (.agg #[.int .i64 4, .int .i64 0, .int .i64 0, .int .i64 0, .string ⟨#[]⟩, .slice (some ⟨w1.heap.size + 1, 0, none⟩) 2 2]) kPat.tree := by
  rw [kPat_tree]
  exact TreeV.two6 4 hxr (TreeV.leaf true W2 _ 3 0 0 0 ⟨#[]⟩ (fun e => by cases e)) (TreeV.leaf true W2 _ 2 0 0 0 ⟨#[118]⟩ (fun e => by cases e)) (by omega)
 have hNm : Names W2 (fun g => g < W2.heap.size) (.slice dA 4 dc) kD := ((hda.names (fun A n c e q => by simp only [Value.slice.injEq] at e; obtain ⟨rfl, _, rfl⟩ := e; exact hnil q) (fun g h => h)).keep (fun _ h => h) (fun g _ i x hx => bel_q hb2 hx)).low
 have hmk := smake_any kPat true kPat_ok (by decide) W2 _ dA none 4 dc 0 0 hT hNm
 have HMK := Lib.hid hmk; have HDO := Lib.hid hda; have HNIL := Lib.hid hnil; have HB2 := Lib.hid (hb1.trans (hb2.mono hb1.size)); have HXF := Lib.hid hxf; have HW2 := Lib.hid hW2; have HFB := Lib.hid hFb; have HB12 := Lib.hid hb2
 clear HDF hdo hda hdl hd1 hd2 hd3 hd4 hd5 hnil hb1 hb2 hxf hxr hz2 hT hNm hmk hW2 hFb
 go_wp2_with fail
 rw [HW2.out]
 refine HMK.out.mono ?_
 clear HMK
 rintro e w2 ⟨hb3, h⟩
 obtain ⟨v, rfl, hsv⟩ : ∃ v, e = .returned (.tuple #[v, .bool true]) /\ SideV w2 W2.heap.size v kS := by
  rcases h with ⟨_, v, e1, e2⟩ | ⟨e1, _⟩
  ·exact ⟨v, e1, e2⟩
  ·rw [kS_size] at e1; omega
 clear h
 have hsr := hsv.reads
 obtain ⟨vs, vf, ve, va, rfl, h1, h2, h3, h4⟩ := hsv
 rw [kS_n] at h1 h2 h3 h4 hsr
 rw [kS_sets] at h1
 rw [kS_first] at h2 hsr
 rw [kS_ends] at h3 hsr
 rw [kS_arcs] at h4 hsr
 rw [kS_none] at hsr ⊢
 obtain ⟨gs, ks, rfl, hcs⟩ := own_some h1 (by omega)
 obtain ⟨gf, kf, rfl, hcf⟩ := own_some h2 (by omega)
 obtain ⟨ge, ke, rfl, -⟩ := own_some h3 (by omega)
 obtain ⟨ga, ka, rfl⟩ : ∃ g c, va = .slice (some ⟨g, 0, none⟩) 1 c := by
  rcases h4.form encA_len (by omega) with ⟨_, e, _⟩ | ⟨g, c, e, _⟩
  ·cases e
  ·exact ⟨g, c, e⟩
 have s0 := hcs 0 (by omega); have s1 := hcs 1 (by omega); have t0 := hcf 0 (by omega); have t1 := hcf 1 (by omega)
 have hxf2 := Blk.below HXF.out hb3 HXF.out.lt
 rw [HFB.out] at hxf2
 obtain ⟨X, hX⟩ : ∃ X, w2.heap.size = X := ⟨_, rfl⟩
 obtain ⟨w3, hw3⟩ : ∃ w3, w2.alloc (.cells #[.slice (some ⟨gs, 0, none⟩) 2 ks, .slice (some ⟨gf, 0, none⟩) 2 kf, .slice (some ⟨ge, 0, none⟩) 2 ke, .slice (some ⟨ga, 0, none⟩) 1 ka, .int .i64 1152921504606846976] 39) = w3 := ⟨_, rfl⟩
 have hb4 : Below w2.heap.size w2 w3 := by rw [<- hw3]; exact (Below.refl _ _).alloc (Nat.le_refl _) _
 have hxs : Blk w3 X 39 #[.slice (some ⟨gs, 0, none⟩) 2 ks, .slice (some ⟨gf, 0, none⟩) 2 kf, .slice (some ⟨ge, 0, none⟩) 2 ke, .slice (some ⟨ga, 0, none⟩) 1 ka, .int .i64 1152921504606846976] := by rw [<- hw3, <- hX]; exact Blk.new _ _ _
 have hks : ∀ W, Below w3.heap.size w3 W -> (fun w' : World => w'.cell? ⟨X, 0, none⟩ = some (.slice (some ⟨gs, 0, none⟩) 2 ks) /\ w'.cell? ⟨X, 1, none⟩ = some (.slice (some ⟨gf, 0, none⟩) 2 kf) /\ w'.cell? ⟨X, 2, none⟩ = some (.slice (some ⟨ge, 0, none⟩) 2 ke) /\ w'.cell? ⟨X, 3, none⟩ = some (.slice (some ⟨ga, 0, none⟩) 1 ka) /\ w'.cell? ⟨X, 4, none⟩ = some (.int .i64 1152921504606846976) /\ w'.cell? ⟨gs, 0, none⟩ = some (.int .i64 (-1)) /\ w'.cell? ⟨gs, 1, none⟩ = some (.int .i64 1) /\ w'.cell? ⟨gf, 0, none⟩ = some (.int .i64 0) /\ w'.cell? ⟨gf, 1, none⟩ = some (.int .i64 1152921504606846976) /\ w'.cell? ⟨Fb, 0, none⟩ = some (.slice dA 4 dc) /\ w'.cell? ⟨Fb, 1, none⟩ = some (.slice none 0 0)) W := fun W hW => ⟨bel_q hW (Blk.cell hxs 0), bel_q hW (Blk.cell hxs 1), bel_q hW (Blk.cell hxs 2), bel_q hW (Blk.cell hxs 3), bel_q hW (Blk.cell hxs 4), bel_q hW (bel_q hb4 s0), bel_q hW (bel_q hb4 s1), bel_q hW (bel_q hb4 t0), bel_q hW (bel_q hb4 t1), bel_q hW (bel_q hb4 (Blk.cell hxf2 0)), bel_q hW (bel_q hb4 (Blk.cell hxf2 1))⟩
 have hsr3 := hsr.below hb4
 have hai : ArcsIn 2 [((0 : Int), (1 : Int), (0 : Int))] := by
  intro x hx
  simp at hx
  subst hx
  exact ⟨⟨0, rfl, by omega⟩, ⟨1, rfl, by omega⟩, zeroC_is⟩
 have hdv : ∀ V, Below w3.heap.size w3 V -> DefsAt V (fun g => g < V.heap.size) (.slice dA 4 dc) ((defsOf []).map DefP.tree) := fun V hV => by
  have hq : Below w1.heap.size w1 V := (HB12.out.trans (hb3.mono HB12.out.size)).trans ((hb4.trans (hV.mono hb4.size)).mono (Nat.le_trans HB12.out.size hb3.size))
  exact HDO.out.keep (fun g hg _ => by have := hq.size; omega) (fun g hg i y hy => by rw [hq.cell (p := ⟨g, i, none⟩) hg]; exact hy)
 have HKS := Lib.hid hks; have HSR := Lib.hid hsr3; have HAI := Lib.hid hai; have HDA := Lib.hid hdv; have HW3 := Lib.hid hw3; have HXE := Lib.hid hX; have HBW := Lib.hid ((HB2.out.trans (hb3.mono HB2.out.size)).trans (hb4.mono (Nat.le_trans HB2.out.size hb3.size)))
 clear hb3 hsr h1 h2 h3 h4 hcs hcf s0 s1 t0 t1 hxf2 hb4 hxs hks hsr3 hai hdv hw3 hX HDO HXF HB2 HB12
 go_wp2_with fail
 rw [HW3.out]
 try rw [HXE.out]
 try rw [HFB.out]
 refine (ssize_1 0 0 0 ⟨#[]⟩ none 0 0 w3).mono ?_
 rintro e w4 ⟨rfl, hb4⟩
 obtain ⟨b0, b1, b2, b3, b4, b5, b6, b7, b8, b9, b10⟩ := HKS.out w4 hb4
 obtain ⟨V5, eV⟩ : ∃ W', w4.alloc (.cells #[.int .i64 120, .int .i64 97] 3) = W' := ⟨_, rfl⟩
 have hb5 : Below w4.heap.size w4 V5 := by rw [<- eV]; exact (Below.refl _ _).alloc (Nat.le_refl _) _
 have hx5 : Blk V5 w4.heap.size 3 #[.int .i64 120, .int .i64 97] := by rw [<- eV]; exact Blk.new _ _ _
 have hR5 := hb4.trans (hb5.mono hb4.size)
 have htx : ReadsI V5 (.slice (some ⟨w4.heap.size, 0, none⟩) 2 2) 2 [120, 97] := (own_of_blk (B := 0) (l := [120, 97]) hx5 (Nat.zero_le _) (by decide)).readsI
 have hco := scost_any (defsOf []) (by decide) (HSR.out.below hR5) (by omega) HAI.out (by decide) (by intro x hx; simp at hx; rcases hx with rfl | rfl; exact zeroC_is; exact infC_is) (by intro x hx; simp at hx; rcases hx with rfl | rfl; exact infC_is; exact zeroC_is) (RA := none) (Rn := 0) (Rc := 0) (HDA.out V5 hR5) HNIL.out htx (by intro x hx; simp at hx; rcases hx with rfl | rfl <;> exact ⟨by omega, by omega⟩) 0 2 (by omega) (by omega) (by omega)
 rw [show (([120, 97] : List Int).drop 0).take (2 - 0) = [120, 97] from rfl, kCost kS_sets] at hco
 rw [show (((0 : Nat) : Int)) = 0 from rfl, show (((2 : Nat) : Int)) = 2 from rfl] at hco
 have HCO := Lib.hid hco; have HV5 := Lib.hid eV; have HR5 := Lib.hid hR5
 clear hb4 eV hb5 hx5 hR5 htx hco
 go_wp2_with fail
 rw [HV5.out]
 refine HCO.out.mono ?_
 rintro e w6 ⟨rfl, hb6⟩
 have HR6 := Lib.hid (HR5.out.trans (hb6.mono HR5.out.size))
 clear hb6 b0 b1 b2 b3 b4 b5 b6 b7 b8 b9 b10
 go_wp2_with fail
 go_ret
 exact ⟨rfl, HBW.out.trans (HR6.out.mono HBW.out.size)⟩
end Go.Proofs.YtfccnadbiglagaaGreat
namespace Go.Proofs.YtfccnadbiglagaaGreat
open Go Go.RowKit Go.Proofs
theorem swth_any (x n : Int) (hn : 0 < n) (hn2 : n <= 1099511627776) (w : World) :
  Calls Tryz.prog 30 #[.int .i64 x, .int .i64 n] w fun e w' => e = .returned (.int .i64 (wthN x n : Nat)) /\ w = w' := by
  have h1 := Int.tmod_lt_of_pos x hn
  have h2 : -n < x.tmod n := by
   have := Int.tmod_lt_of_pos (-x) hn
   rw [Int.neg_tmod] at this
   omega
  have E := Lib.hid (wthN_eq x n hn)
  have hne : ¬ n = 0 := by omega
  go_enter Tryz.func30, Tryz.ntmps30
  by_cases hlt : x.tmod n < 0
  ·go_wp2_with fail
   go_ret
   exact ⟨by rw [E.out, if_pos hlt]; rfl, rfl⟩
  ·go_wp2_with fail
   go_ret
   exact ⟨by rw [E.out, if_neg (by omega)]; rfl, rfl⟩
end Go.Proofs.YtfccnadbiglagaaGreat
