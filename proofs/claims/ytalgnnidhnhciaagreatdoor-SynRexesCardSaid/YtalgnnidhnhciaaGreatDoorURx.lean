/- What the law SynRexes asks: a rule of two patterns, written behind the laws' four sets, is read as it was; plain. Contract of the reference's Text of a file that has no rules. The law SynRexes, walked. -/
import Derived.Test.YtalgnnidhnhciaaGreatDoorULa
import Derived.Test.YtalgnnidhnhciaaGreatDoorShort
import Derived.Test.YtalgnnidhnhciaaGreatDoorURw
import Derived.Test.YtalgnnidhnhciaaGreatDoorUSynMd
import Derived.Test.YtalgnnidhnhciaaGreatDoorULj
import Derived.Test.YtalgnnidhnhciaaGreatDoorUOw
import Derived.Test.YtalgnnidhnhciaaGreatDoorUSynKa
set_option linter.unusedVariables false
set_option linter.unusedSimpArgs false
set_option linter.unusedVariables false
set_option linter.unusedSimpArgs false
namespace Go.Proofs.YtalgnnidhnhciaaGreatDoor
open Go
def hyphen7 : Bs := [104, 121, 112, 104, 101, 110, 32, 55, 58, 32]
def slash3 : Bs := [32, 47, 32]
theorem defs4_names' : defs4.map DefP.name = dNames := rfl
theorem rexes_parse {x y : Pat} (hx : x.Ok dNames true /\ x.deep <= 12) (hy : y.Ok dNames false /\ y.deep <= 12) (hl : x.text.length + y.text.length <= 3000) :
  parseT (defsText defs4 ++ hyphen7 ++ x.text ++ slash3 ++ y.text ++ [59]) = ((defs4.map DefP.tree, [⟨1, 7, x.tree, y.tree⟩]), 0, 0) := by
  have hn := names_ok defs4 [] (by simp) defs4_ok
  have hn' : ∀ s ∈ dNames, nameOk s := by simpa [defs4_names'] using hn
  have ht := defs4_text
  refine parse_of_toks _ defs4 [⟨1, 7, x, y⟩] defs4_ok (fun r hr => ?_) (by decide) (by simp) ?_ ?_
  ·obtain rfl := List.mem_singleton.1 hr
   exact ⟨(by decide : 1 <= 2), (by decide : 7 <= 1000000), hx.1, hx.2, hy.1, hy.2⟩
  ·have e : defsText defs4 ++ hyphen7 ++ x.text ++ slash3 ++ y.text ++ [59] = defsText defs4 ++ (catW 1 ++ 32 :: (Lib.decDigits 7 ++ 58 :: 32 :: (x.text ++ 32 :: 47 :: 32 :: (y.text ++ 59 :: [])))) := by
    rw [dec_small' (u := 7) (by omega)]
    simp [hyphen7, slash3, catW, wHyphen]
   rw [e, defs_toks defs4 [] (by simp) defs4_ok, cat_word 1 (by omega), toksT_num 7 _ (by omega) (sep_cons (by decide)), m_ _ (by decide), toksT_blank, pat_toks hn' x hx.1 _ (sep_cons (by decide)), toksT_blank, m_ _ (by decide), toksT_blank,
    pat_toks hn' y hy.1 _ (sep_cons (by decide)), m_ _ (by decide), toksT_nil]
   simp [rulesToks, RuleP.toks, mkT]
  ·simp only [List.length_append, hyphen7, slash3, List.length_cons, List.length_nil]
   omega
end Go.Proofs.YtalgnnidhnhciaaGreatDoor

set_option linter.unusedVariables false
set_option linter.unusedSimpArgs false
set_option maxRecDepth 100000
set_option maxHeartbeats 16000000
namespace Go.Proofs.YtalgnnidhnhciaaGreatDoor
open Go Go.RowKit Go.Proofs
theorem DefsAt.getQ {w : World} {S : Nat -> Prop} {A : Option Addr} {n c : Nat} {l : List DefP} (h : DefsAt w S (.slice A n c) (l.map DefP.tree)) : n = l.length /\ n <= c /\ c <= maxLen /\ ∀ i (hi : i < l.length), ∃ g o x, A = some ⟨g, o, none⟩ /\ CellsAt w g (o + i * 6) (DCell.enc x) /\ DefR w S x (l[i]).tree := by
 obtain ⟨A', c', cs, e, h2, h3, h4, h5, h6⟩ := h
 injection e with e1 e2 e3
 subst e1; subst e2; subst e3
 rw [List.length_map] at h2 h4 ⊢
 refine ⟨rfl, h2, h3, fun i hi => ?_⟩
 obtain ⟨g, o, rfl⟩ := h4.some (by omega)
 have hc : i < cs.length := by rw [h5.len, List.length_map]; exact hi
 refine ⟨g, o, cs[i], rfl, (h6 g o rfl i hc).2, ?_⟩
 have := h5.at_ i hc (by rw [List.length_map]; exact hi)
 simpa using this
theorem rtextD_ok (DF : List DefP) (hcls : ∀ d ∈ DF, ∃ D, d.c.Ok D) (hld : (defsText DF).length <= 100000) (w : World) (S : Nat -> Prop) (dv : Value) (hD : DefsAt w S dv (DF.map DefP.tree)) :
  Calls Tryz.prog 18 #[.agg #[dv, .slice none 0 0]] w (WrR w (defsText DF)) := by
  have hD0 := hD
  obtain ⟨DA, dc, -, rfl, -⟩ := hD
  obtain ⟨hnd, hd1, hd2, hdget⟩ := hD0.getQ
  generalize (DF.map DefP.tree).length = nd at *
  unfold maxLen at hd2
  have hB0 := BoxS.mk' w 28 #[.slice DA nd dc, .slice none 0 0]
  have HND := Lib.hid hnd; have HDG := Lib.hid hdget; have HB0 := Lib.hid hB0; have HCLS := Lib.hid hcls; have HLD := Lib.hid hld
  clear hnd hdget hB0 hcls hld hD0
  go_enter Tryz.func18, Tryz.ntmps18
  go_wp2_with fail
  go_loopg [3, 4] nd (fun gk vs vi wr => ∃ (i : Nat) (t : ByteArray), vs = .string t /\ vi = .int .i64 i /\ gk = nd - i /\ i <= nd /\ t.size <= 100000 /\ Hid (t.data.toList = defsText (DF.take i)) /\ Hid (BoxS w 28 #[.slice DA nd dc, .slice none 0 0] wr))
  case atStart => exact ⟨0, ⟨#[]⟩, rfl, rfl, rfl, Nat.zero_le _, by decide, Lib.hid rfl, HB0⟩
  case round =>
   clear HB0
   obtain ⟨i, t, rfl, rfl, hgk, hin, hts, HTL, HB⟩ := hrel
   have HGK := Lib.hid hgk; clear hgk
   have i0 : (0 : Int) <= (i : Int) := Int.natCast_nonneg _
   have b0 := Blk.cell HB.out.a 0
   simp only [List.getElem?_toArray, List.getElem?_cons_zero, List.getElem?_cons_succ] at b0
   by_cases hlt : i < nd
   ·have i1 : (i : Int) < (nd : Int) := by omega
    have hil : i < DF.length := by rw [<- HND.out]; exact hlt
    obtain ⟨g, o, x, rfl, hcells, hdr⟩ := HDG.out i hil
    obtain ⟨D, hok⟩ := HCLS.out _ (List.getElem_mem hil)
    obtain ⟨nm0, k, lo, hi, nm, A, n, c⟩ := x
    obtain ⟨hnm, htv⟩ := hdr
    have hnm' : nm0.data.toList = (DF[i]).name := hnm
    have htv' : TreeV false w S (.agg #[.int .i64 k, .int .i64 lo, .int .i64 hi, .string nm, .slice A n c]) (DF[i]).c.tree := htv
    have hll := defsText_len DF i hil
    have htk := defsText_take DF i hil
    have hdt : (DF[i]).text = [99, 108, 97, 115, 115, 32] ++ nm0.data.toList ++ [32, 61, 32] ++ (DF[i]).c.text ++ [59, 10] := by rw [hnm']; simp [DefP.text, wClass]
    have hLt : t.size = (defsText (DF.take i)).length := by rw [size_list, HTL.out]
    have hL6 := congrArg List.length hdt
    simp only [List.length_append, List.length_cons, List.length_nil, <- size_list] at hL6
    have hLD := HLD.out
    have hb1 : t.size + nm0.size + (DF[i]).c.text.length + 11 <= 100000 := by omega
    have hcl := fun W (hb : Below w.heap.size w W) => rclass_ok (DF[i]).c hok (by omega) W S _ (htv'.bel (fun _ h => h) hb)
    have hRf : ∀ W : World, BoxS w 28 #[.slice (some ⟨g, o, none⟩) nd dc, .slice none 0 0] W -> (fun w' : World => w'.cell? ⟨w.heap.size, 0, none⟩ = some (.slice (some ⟨g, o, none⟩) nd dc) /\ w'.cell? ⟨g, o + i * 6, none⟩ = some (.string nm0) /\ w'.cell? ⟨g, o + i * 6 + 1, none⟩ = some (.int .i64 k) /\ w'.cell? ⟨g, o + i * 6 + 2, none⟩ = some (.int .i64 lo) /\ w'.cell? ⟨g, o + i * 6 + 3, none⟩ = some (.int .i64 hi) /\ w'.cell? ⟨g, o + i * 6 + 4, none⟩ = some (.string nm) /\ w'.cell? ⟨g, o + i * 6 + 5, none⟩ = some (.slice A n c)) W := fun W hW => by
     have hc := hcells.bel hW.below
     exact ⟨Blk.cell hW.a 0, hc 0 _ rfl, hc 1 _ rfl, hc 2 _ rfl, hc 3 _ rfl, hc 4 _ rfl, hc 5 _ rfl⟩
    rw [hdt] at htk
    obtain ⟨P, hP⟩ : ∃ P, (DF[i]).c.text = P := ⟨_, rfl⟩
    rw [hP] at htk hcl hb1
    have hPl : P.length <= 100000 := by omega
    have hbox : BoxS w 28 #[.slice (some ⟨g, o, none⟩) nd dc, .slice none 0 0] wr := HB.out
    have HCL := Lib.hid hcl; have HTK := Lib.hid htk; have HRF := Lib.hid hRf; have HPL := Lib.hid hPl; have HB1 := Lib.hid hb1; have HBX := Lib.hid hbox
    have hnz : nm0.size <= 100000 := by omega
    clear hcl htk hRf hPl hb1 hbox hcells htv htv' hnm hnm' hdt hP hll hL6 hok HDG HB hLt hLD
    go_wp2_with fail
    have hB0d := HBX.out.drew
    refine region_x 19 (fun w' : World => w'.cell? ⟨w.heap.size, 0, none⟩ = some (.slice (some ⟨g, o, none⟩) nd dc) /\ w'.cell? ⟨g, o + i * 6, none⟩ = some (.string nm0) /\ w'.cell? ⟨g, o + i * 6 + 1, none⟩ = some (.int .i64 k) /\ w'.cell? ⟨g, o + i * 6 + 2, none⟩ = some (.int .i64 lo) /\ w'.cell? ⟨g, o + i * 6 + 3, none⟩ = some (.int .i64 hi) /\ w'.cell? ⟨g, o + i * 6 + 4, none⟩ = some (.string nm) /\ w'.cell? ⟨g, o + i * 6 + 5, none⟩ = some (.slice A n c)) (by kernel_rfl) ?_
    have hS := HRF.out _ hB0d
    have g0 : ¬ 9223372036854775807 < t.size + 6 := by omega
    have g1 : ¬ 9223372036854775807 < t.size + 6 + nm0.size := by omega
    have g2 : ¬ 9223372036854775807 < t.size + 6 + nm0.size + 3 := by omega
    refine tkx (i := 0) (v := ?_) hS ?_ ?_
    rotate_left
    ·rintro w' ⟨b0, e0, e1, e2, e3, e4, e5⟩
     go_simp
     try with_reducible rfl
    try simp only [Act.put, zq1, zq2, zq3, zq4, zq5, zq6]
    refine tkx (i := 1) (v := ?_) hS ?_ ?_
    rotate_left
    ·rintro w' ⟨b0, e0, e1, e2, e3, e4, e5⟩
     go_simp
     try with_reducible rfl
    try simp only [Act.put, zq1, zq2, zq3, zq4, zq5, zq6]
    refine tkx (i := 2) (v := ?_) hS ?_ ?_
    rotate_left
    ·rintro w' ⟨b0, e0, e1, e2, e3, e4, e5⟩
     go_simp
     try with_reducible rfl
    try simp only [Act.put, zq1, zq2, zq3, zq4, zq5, zq6]
    refine tkx (i := 3) (v := ?_) hS ?_ ?_
    rotate_left
    ·rintro w' ⟨b0, e0, e1, e2, e3, e4, e5⟩
     go_simp
     try with_reducible rfl
    try simp only [Act.put, zq1, zq2, zq3, zq4, zq5, zq6]
    refine tkx (i := 4) (v := ?_) hS ?_ ?_
    rotate_left
    ·rintro w' ⟨b0, e0, e1, e2, e3, e4, e5⟩
     go_simp
     try with_reducible rfl
    try simp only [Act.put, zq1, zq2, zq3, zq4, zq5, zq6]
    refine tkx (i := 5) (v := ?_) hS ?_ ?_
    rotate_left
    ·rintro w' ⟨b0, e0, e1, e2, e3, e4, e5⟩
     go_simp
     try with_reducible rfl
    try simp only [Act.put, zq1, zq2, zq3, zq4, zq5, zq6]
    refine tkx (i := 6) (v := ?_) hS ?_ ?_
    rotate_left
    ·rintro w' ⟨b0, e0, e1, e2, e3, e4, e5⟩
     go_simp
     try with_reducible rfl
    try simp only [Act.put, zq1, zq2, zq3, zq4, zq5, zq6]
    refine tkx (i := 7) (v := ?_) hS ?_ ?_
    rotate_left
    ·rintro w' ⟨b0, e0, e1, e2, e3, e4, e5⟩
     go_simp
     try with_reducible rfl
    try simp only [Act.put, zq1, zq2, zq3, zq4, zq5, zq6]
    refine tkx (i := 8) (v := ?_) hS ?_ ?_
    rotate_left
    ·rintro w' ⟨b0, e0, e1, e2, e3, e4, e5⟩
     go_simp
     try with_reducible rfl
    try simp only [Act.put, zq1, zq2, zq3, zq4, zq5, zq6]
    refine tkx (i := 9) (v := ?_) hS ?_ ?_
    rotate_left
    ·rintro w' ⟨b0, e0, e1, e2, e3, e4, e5⟩
     go_simp
     try with_reducible rfl
    try simp only [Act.put, zq1, zq2, zq3, zq4, zq5, zq6]
    refine tkx (i := 10) (v := ?_) hS ?_ ?_
    rotate_left
    ·rintro w' ⟨b0, e0, e1, e2, e3, e4, e5⟩
     go_simp
     try with_reducible rfl
    try simp only [Act.put, zq1, zq2, zq3, zq4, zq5, zq6]
    refine tkx (i := 11) (v := ?_) hS ?_ ?_
    rotate_left
    ·rintro w' ⟨b0, e0, e1, e2, e3, e4, e5⟩
     go_simp
     try with_reducible rfl
    try simp only [Act.put, zq1, zq2, zq3, zq4, zq5, zq6]
    refine tkx (i := 12) (v := ?_) hS ?_ ?_
    rotate_left
    ·rintro w' ⟨b0, e0, e1, e2, e3, e4, e5⟩
     go_simp
     try with_reducible rfl
    try simp only [Act.put, zq1, zq2, zq3, zq4, zq5, zq6]
    refine tkx (i := 13) (v := ?_) hS ?_ ?_
    rotate_left
    ·rintro w' ⟨b0, e0, e1, e2, e3, e4, e5⟩
     go_simp
     try with_reducible rfl
    try simp only [Act.put, zq1, zq2, zq3, zq4, zq5, zq6]
    refine tkx (i := 14) (v := ?_) hS ?_ ?_
    rotate_left
    ·rintro w' ⟨b0, e0, e1, e2, e3, e4, e5⟩
     go_simp
     try with_reducible rfl
    try simp only [Act.put, zq1, zq2, zq3, zq4, zq5, zq6]
    refine tkx (i := 15) (v := ?_) hS ?_ ?_
    rotate_left
    ·rintro w' ⟨b0, e0, e1, e2, e3, e4, e5⟩
     go_simp
     try with_reducible rfl
    try simp only [Act.put, zq1, zq2, zq3, zq4, zq5, zq6]
    refine anyX_g (i := 16) (by kernel_rfl) (by decide) rfl (by rfl) ?_
    intro K hK
    try simp only [zq1, zq2, zq3]
    refine wp_enterE #[.agg #[.int .i64 k, .int .i64 lo, .int .i64 hi, .string nm, .slice A n c]] Tryz.func35 (by kernel_rfl) (by kernel_rfl) ?_ (HCL.out _ hB0d.below) ?_
    ·go_simp
    rintro e w1 ⟨t1, rfl, ht1, hz1, hb1⟩
    refine ⟨_, rfl, ?_⟩
    have hR1 := hB0d.bel hb1
    have hS1 := HRF.out _ hR1
    have hs1 : t1.size <= 100000 := by rw [hz1]; exact HPL.out
    have HT1 := Lib.hid ht1; clear ht1 hz1 hb1
    refine hK _ _ hS1 ?_
    clear hK
    try simp only [Act.put, zq1, zq2, zq3, zq4, zq5, zq6]
    have g3 : ¬ 9223372036854775807 < t.size + 6 + nm0.size + 3 + t1.size := by omega
    have g4 : ¬ 9223372036854775807 < t.size + 6 + nm0.size + 3 + t1.size + 2 := by omega
    refine tkx (i := 17) (v := ?_) hS1 ?_ ?_
    rotate_left
    ·rintro w' ⟨b0, e0, e1, e2, e3, e4, e5⟩
     go_simp
     try with_reducible rfl
    try simp only [Act.put, zq1, zq2, zq3, zq4, zq5, zq6]
    refine tkx (i := 18) (v := ?_) hS1 ?_ ?_
    rotate_left
    ·rintro w' ⟨b0, e0, e1, e2, e3, e4, e5⟩
     go_simp
     try with_reducible rfl
    try simp only [Act.put, zq1, zq2, zq3, zq4, zq5, zq6]
    have HE := Lib.hid hR1
    clear hS hS1 hR1 hB0d b0
    refine anyX_last (by kernel_rfl) (by kernel_rfl) rfl rfl ?_
    try simp only [zq1, zq2, zq3]
    go_simp
    try apply_assumption
    clear g0 g1 g2 g3 g4
    go_wp2_with fail
    go_roundg (nd - (i + 1))
    case measure => have := HGK.out; omega
    case rel =>
     refine ⟨i + 1, _, rfl, by go_num, rfl, hlt, ?_, Lib.hid (by rw [HTK.out]; simp [HTL.out, HT1.out]), HE⟩
     have := HB1.out
     have h1 : t1.size = P.length := by rw [size_list, HT1.out]
     simp only [ByteArray.size_append]
     have e1 : (ByteArray.mk #[99, 108, 97, 115, 115, 32]).size = 6 := rfl
     have e2 : (ByteArray.mk #[32, 61, 32]).size = 3 := rfl
     have e3 : (ByteArray.mk #[59, 10]).size = 2 := rfl
     omega
   ·have hin' : i = nd := by omega
    have htl := HTL.out
    have HIN := Lib.hid hin'
    rw [List.take_of_length_le (by rw [<- HND.out]; omega)] at htl
    have HTD := Lib.hid htl; have HBX := HB
    clear hin' htl HB HTL HDG HGK
    go_wp2_with fail
    clear b0 i0
    go_loopg [3, 5] 0 (fun gk2 vs vj wr2 => vs = .string t /\ vj = .int .i64 0 /\ gk2 = 0 /\ Hid (BoxS w 28 #[.slice DA nd dc, .slice none 0 0] wr2))
    case atStart => exact ⟨rfl, rfl, rfl, HBX⟩
    case round =>
     clear HBX hts
     obtain ⟨rfl, rfl, hgk, HB⟩ := hrel
     have b1 := Blk.cell HB.out.a 1
     simp only [List.getElem?_toArray, List.getElem?_cons_zero, List.getElem?_cons_succ] at b1
     have HE := Lib.hid HB.out.below
     clear HB hgk
     go_wp2_with fail
     go_ret
     exact WrR.mk' _ HTD.out HE.out
end Go.Proofs.YtalgnnidhnhciaaGreatDoor

set_option linter.unusedVariables false
set_option linter.unusedSimpArgs false
set_option maxRecDepth 100000
set_option maxHeartbeats 64000000
namespace Go.Proofs.YtalgnnidhnhciaaGreatDoor
open Go Go.RowKit Go.Proofs
structure P12 where
 g5 : Nat
 g6 : Nat
 k2 : Int
 lo2 : Int
 hi2 : Int
 wt2 : Int
 nm2 : ByteArray
 A2 : Option Addr
 n2 : Nat
 c2 : Nat
 k3 : Int
 lo3 : Int
 hi3 : Int
 wt3 : Int
 nm3 : ByteArray
 A3 : Option Addr
 n3 : Nat
 c3 : Nat
structure TwoRx (wr : World) (ta tb : Tree) (g5 g6 : Nat) (c5 c6 v0 v1 : Array Value) (W : World) : Prop where
 below : Below wr.heap.size wr W
 l5 : wr.heap.size <= g5
 l6 : wr.heap.size <= g6
 ne : g5 ≠ g6
 x5 : Blk W g5 46 c5
 x6 : Blk W g6 46 c6
 t0 : TreeV true W (fun g => g ≠ g5 /\ g ≠ g6) (.agg v0) ta
 t1 : TreeV true W (fun g => g ≠ g5 /\ g ≠ g6) (.agg v1) tb
theorem TwoRx.bel {wr W W' : World} {ta tb : Tree} {g5 g6 : Nat} {c5 c6 v0 v1 : Array Value} (h : TwoRx wr ta tb g5 g6 c5 c6 v0 v1 W) (hb : Below W.heap.size W W') : TwoRx wr ta tb g5 g6 c5 c6 v0 v1 W' :=
 ⟨h.below.trans (hb.mono h.below.size), h.l5, h.l6, h.ne, Blk.below h.x5 hb h.x5.lt, Blk.below h.x6 hb h.x6.lt, h.t0.bel (fun _ h => h) hb, h.t1.bel (fun _ h => h) hb⟩
theorem TwoRx.drew {wr W : World} {ta tb : Tree} {g5 g6 : Nat} {c5 c6 v0 v1 : Array Value} (h : TwoRx wr ta tb g5 g6 c5 c6 v0 v1 W) : TwoRx wr ta tb g5 g6 c5 c6 v0 v1 W.drew := h.bel (Below.refl _ _).drew
structure BoxX (wr : World) (ta tb : Tree) (g5 g6 : Nat) (c5 c6 : Array Value) (F : Nat) (cf : Array Value) (gr : Nat) (l : List Value) (W : World) : Prop where
 t : TwoRx wr ta tb g5 g6 c5 c6 c5 c6 W
 f : Blk W F 28 cf
 r : CellsAt W gr 0 l
theorem BoxX.bel {wr W W' : World} {ta tb : Tree} {g5 g6 : Nat} {c5 c6 : Array Value} {F : Nat} {cf : Array Value} {gr : Nat} {l : List Value} (h : BoxX wr ta tb g5 g6 c5 c6 F cf gr l W) (hb : Below W.heap.size W W') : BoxX wr ta tb g5 g6 c5 c6 F cf gr l W' :=
 ⟨h.t.bel hb, Blk.below h.f hb h.f.lt, h.r.bel hb⟩
theorem BoxX.drew {wr W : World} {ta tb : Tree} {g5 g6 : Nat} {c5 c6 : Array Value} {F : Nat} {cf : Array Value} {gr : Nat} {l : List Value} (h : BoxX wr ta tb g5 g6 c5 c6 F cf gr l W) : BoxX wr ta tb g5 g6 c5 c6 F cf gr l W.drew := h.bel (Below.refl _ _).drew
theorem below_six {w W : World} {B H : Nat} {a1 a2 a3 a4 a5 a6 : Value} (h : Below B w W) (hB : B <= H) : Below B w (sixAt W H a1 a2 a3 a4 a5 a6) :=
 (((((h.setCell (p := ⟨H, 0, none⟩) hB a1).setCell (p := ⟨H, 1, none⟩) hB a2).setCell (p := ⟨H, 2, none⟩) hB a3).setCell (p := ⟨H, 3, none⟩) hB a4).setCell (p := ⟨H, 4, none⟩) hB a5).setCell (p := ⟨H, 5, none⟩) hB a6
theorem text_ne {wg : Bool} (p : Pat) (h : p.Ok dNames wg) : p.text ≠ [] := by
 cases p with
 | set s =>
   have h' : s ∈ dNames := h
   simp only [dNames, List.mem_cons, List.not_mem_nil, or_false] at h'
   rcases h' with rfl | rfl | rfl | rfl <;> simp [Pat.text, nmA, nmV, nmD, nmS]
 | any_ => simp [Pat.text, wAny]
 | _ => simp [Pat.text]
theorem defs4_cls : ∀ d ∈ defs4, ∃ D, d.c.Ok D := by
 intro d hd
 simp only [defs4, List.mem_cons, List.not_mem_nil, or_false] at hd
 rcases hd with rfl | rfl | rfl | rfl
 ·exact ⟨[], by decide, by decide⟩
 ·exact ⟨[], by decide, by decide⟩
 ·exact ⟨[], ⟨by decide, by decide⟩, ⟨by decide, by decide⟩⟩
 ·exact ⟨[nmV], trivial, List.mem_singleton.2 rfl⟩
theorem synRexes_walk (lv : Value) (l : List RawP) (w : World) (w0 : RawL w lv l) (hE : ErrV w) (hT : TabD w) :
  Calls Tryz.prog 4 #[lv] w fun e w' => e = .returned (.bool true) /\ Below w.heap.size w w' := by
  have hL := w0
  obtain ⟨LA, ll, lc, rfl, hll, -⟩ := w0
  have HKN := Lib.hid (known5_ok w hE hT); have HL := Lib.hid hL; have HE := Lib.hid hE; have HT := Lib.hid hT; have HLL := Lib.hid hll
  clear hE hT hL hll
  go_enter Tryz.func4, Tryz.ntmps4
  go_wp2_with fail
  refine HKN.out.mono ?_
  rintro e W1 ⟨rfl, hb1⟩
  have hfw := few_any l W1 _ (HL.out.below hb1)
  have HB1 := Lib.hid hb1; clear hb1 HKN
  by_cases hfew : sizeR 6 l <= 30
  ·have hf : fewB l = true := by unfold fewB; simpa using hfew
   rw [hf] at hfw
   have HFW := Lib.hid hfw; have HFEW := Lib.hid hfew
   clear hfw hf hfew
   go_wp2_with fail
   refine HFW.out.mono ?_
   rintro e W ⟨rfl, rfl⟩
   have hdm := defs_made [] W1 (.slice none 0 0) (IntsR.nil W1)
   have HDM := Lib.hid hdm
   clear hdm HFW
   go_wp2_with fail
   refine HDM.out.mono ?_
   rintro e W2 ⟨dv, rfl, hdo, hb2⟩
   have hdo' : DefsOwn W2 W1.heap.size dv (defs4.map DefP.tree) := hdo
   have htx := rtextD_ok defs4 defs4_cls (Nat.le_trans defs4_text (by decide)) W2 _ dv hdo'.at_
   obtain ⟨dA, dc, rfl, -, -, -⟩ := hdo'.form
   obtain ⟨nd, hnd⟩ : ∃ n, (defs4.map DefP.tree).length = n := ⟨_, rfl⟩
   rw [hnd] at htx ⊢
   have HTXT := Lib.hid htx; have HB2 := Lib.hid (HB1.out.trans (hb2.mono HB1.out.size))
   clear hdo hdo' htx hb2 hnd HDM HB1
   go_wp2_with fail
   refine HTXT.out.mono ?_
   rintro e W3 ⟨td, rfl, htd, htz, hb3⟩
   have hdz : td.size <= 130 := by rw [htz]; exact defs4_text
   have HTD := Lib.hid htd; have HB3 := Lib.hid (HB2.out.trans (hb3.mono HB2.out.size))
   clear htd htz hb3 HTXT HB2
   go_wp2_with fail
   go_loopg [4] 6 (fun gk vi wr => ∃ i : Nat, vi = .int .i64 i /\ gk = 6 - i /\ i <= 5 /\ i <= ll /\ Hid (Below w.heap.size w wr))
   case atStart => exact ⟨0, rfl, rfl, by omega, by omega, HB3⟩
   case round =>
    clear HB3
    obtain ⟨i, rfl, hgk, hi5, hil, HBW⟩ := hrel
    have HGK := Lib.hid hgk; clear hgk
    have i0 : (0 : Int) <= (i : Int) := Int.natCast_nonneg _
    by_cases hlt : i < ll /\ i < 5
    ·obtain ⟨hlt1, hlt2⟩ := hlt
     have i1 : (i : Int) < (ll : Int) := by omega
     have i2 : (i : Int) < 5 := by omega
     have hin : i < l.length := by rw [HLL.out]; omega
     obtain ⟨g, o, m', c', u, e, -, -, hcm, hcs, -, hw, hu⟩ := HL.out.get hin
     injection e with e1 e2 e3
     subst e1; subst e2; subst e3
     unfold maxLen at hcm
     have hfx := (few_mem HFEW.out (List.getElem_mem hin)).1
     have hfn := (few_mem HFEW.out (List.getElem_mem hin)).2
     have hmk2 : ∀ W, Below w.heap.size w W -> Calls Tryz.prog 19 #[.agg #[.int .i64 (l[i]).k, .int .i64 (l[i]).n, u], .bool false] W (MadeR W ((l[i]).pat false)) := fun W hW => make_any false 5 (l[i]) W u hfx (hu.below hW) hw
     have hmk3 : ∀ W, Below w.heap.size w W -> Calls Tryz.prog 19 #[.agg #[.int .i64 (l[i]).k, .int .i64 (l[i]).n, u], .bool true] W (MadeR W ((l[i]).pat true)) := fun W hW => make_any true 5 (l[i]) W u hfx (hu.below hW) hw
     have hokx := RawP.ok (D := dNames) (fun s h => h) false 5 (l[i]) hfx
     have hoky := RawP.ok (D := dNames) (fun s h => h) true 5 (l[i]) hfx
     have hlx := RawP.len false 5 (l[i]) hfx
     have hly := RawP.len true 5 (l[i]) hfx
     have hsx := RawP.small false 5 (l[i]) hfx
     have hsy := RawP.small true 5 (l[i]) hfx
     obtain ⟨pk, hpk⟩ : ∃ z, (l[i]).k = z := ⟨_, rfl⟩
     obtain ⟨pn, hpn⟩ : ∃ z, (l[i]).n = z := ⟨_, rfl⟩
     obtain ⟨pa, hpa⟩ : ∃ z, (l[i]).pat false = z := ⟨_, rfl⟩
     obtain ⟨pb, hpb⟩ : ∃ z, (l[i]).pat true = z := ⟨_, rfl⟩
     rw [hpk, hpn] at hmk2 hmk3 hcs
     rw [hpa] at hmk2 hokx hlx hsx
     rw [hpb] at hmk3 hoky hly hsy
     obtain ⟨uA, un, ucc, rfl, -⟩ := hu
     have hpv := rexes_parse (x := pa) (y := pb) ⟨hokx.1, by omega⟩ ⟨hoky.1, by omega⟩ (by omega)
     have hrxa := fun (U : World) (hU : Below w.heap.size w U) S v hv => rexF_ok pa hsx (text_ne pa hokx.1) (by omega) U (HT.out.below hU HT.out.lt) S v hv
     have hrxb := fun (U : World) (hU : Below w.heap.size w U) S v hv => rexF_ok pb hsy (text_ne pb hoky.1) (by omega) U (HT.out.below hU HT.out.lt) S v hv
     have hrfa := fun (U : World) (hU : Below w.heap.size w U) S v hv => rrex_ok pa hsx (by omega) U S v hv
     have hrfb := fun (U : World) (hU : Below w.heap.size w U) S v hv => rrex_ok pb hsy (by omega) U S v hv
     obtain ⟨X, hX⟩ : ∃ z, pa.text = z := ⟨_, rfl⟩
     obtain ⟨Y, hY⟩ : ∃ z, pb.text = z := ⟨_, rfl⟩
     rw [hX] at hlx hpv hrxa hrfa
     rw [hY] at hly hpv hrxb hrfb
     obtain ⟨tx, htx⟩ : ∃ t : ByteArray, (⟨X.toArray⟩ : ByteArray) = t := ⟨_, rfl⟩
     obtain ⟨ty, hty⟩ : ∃ t : ByteArray, (⟨Y.toArray⟩ : ByteArray) = t := ⟨_, rfl⟩
     have htx' : tx.data.toList = X := by rw [<- htx]
     have hty' : ty.data.toList = Y := by rw [<- hty]
     have hxz : tx.size <= 270 := by rw [size_list, htx']; omega
     have hyz : ty.size <= 270 := by rw [size_list, hty']; omega
     rw [htx] at hrxa
     rw [hty] at hrxb
     have hls : IntKind.i64.wrap ((tx.size : Int) + (ty.size : Int)) = ((tx.size + ty.size : Nat) : Int) := by rw [IntWalk.i64_in _ (by omega)]; omega
     obtain ⟨ta, hta⟩ : ∃ z, pa.tree = z := ⟨_, rfl⟩
     obtain ⟨tb, htb⟩ : ∃ z, pb.tree = z := ⟨_, rfl⟩
     unfold MadeR at hmk2 hmk3
     have hsra := sameRexes pa; have hsrb := sameRexes pb
     unfold SmSpecRexes at hsra hsrb
     rw [hta] at hmk2 hrxa hrfa hpv hsra
     rw [htb] at hmk3 hrxb hrfb hpv hsrb
     have hcw := (hcs.bel HBW.out).at3
     have hks : ∀ W : World, Below wr.heap.size wr W -> (fun w' : World => w'.cell? ⟨g, o + i * 3, none⟩ = some (.int .i64 pk) /\ w'.cell? ⟨g, o + i * 3 + 1, none⟩ = some (.int .i64 pn) /\ w'.cell? ⟨g, o + i * 3 + 2, none⟩ = some (.slice uA un ucc)) W := fun W hW => ⟨bel_c hW hcw.1, bel_c hW hcw.2.1, bel_c hW hcw.2.2⟩
     have hS0 := hks wr.drew (Below.refl _ _).drew
     have HMK2 := Lib.hid hmk2; have HMK3 := Lib.hid hmk3; have HRXA := Lib.hid hrxa; have HRXB := Lib.hid hrxb; have HRFA := Lib.hid hrfa; have HRFB := Lib.hid hrfb; have HPV := Lib.hid hpv; have HTX := Lib.hid htx'; have HTY := Lib.hid hty'; have HLS := Lib.hid hls; have HKS := Lib.hid hks; have HSRA := Lib.hid hsra; have HSRB := Lib.hid hsrb; have HS0 := Lib.hid hS0
     clear hmk2 hmk3 hrxa hrxb hrfa hrfb hpv htx' hty' htx hty hls hks hsra hsrb hS0 hokx hoky hlx hly hsx hsy hta htb hX hY hpa hpb hpk hpn hfx hfn hcs hcw hw HL HT
     go_wp2_with fail
     refine region_xq (π := P12) 13 (fun w' : World => w'.cell? ⟨g, o + i * 3, none⟩ = some (.int .i64 pk) /\ w'.cell? ⟨g, o + i * 3 + 1, none⟩ = some (.int .i64 pn) /\ w'.cell? ⟨g, o + i * 3 + 2, none⟩ = some (.slice uA un ucc)) (fun (p : P12) (a : Act) => (((((((((((a.put (some 30) (.slice (some ⟨g, o, none⟩) ll lc)).put (some 31) (.int .i64 i)).put (some 32) (.pointer (some ⟨g, o + i * 3, none⟩))).put (some 33) (.agg #[.int .i64 pk, .int .i64 pn, .slice uA un ucc])).put (some 34) (.agg #[.int .i64 p.k2, .int .i64 p.lo2, .int .i64 p.hi2, .int .i64 p.wt2, .string p.nm2, .slice p.A2 p.n2 p.c2])).put (some 35) (.slice (some ⟨g, o, none⟩) ll lc)).put (some 36) (.int .i64 i)).put (some 37) (.pointer (some ⟨g, o + i * 3, none⟩))).put (some 38) (.agg #[.int .i64 pk, .int .i64 pn, .slice uA un ucc])).put (some 39) (.agg #[.int .i64 p.k3, .int .i64 p.lo3, .int .i64 p.hi3, .int .i64 p.wt3, .string p.nm3, .slice p.A3 p.n3 p.c3])).put (some 5) (.pointer (some ⟨p.g5, 0, none⟩))).put (some 6) (.pointer (some ⟨p.g6, 0, none⟩))) (fun (p : P12) (W : World) => TwoRx wr ta tb p.g5 p.g6 #[.int .i64 p.k2, .int .i64 p.lo2, .int .i64 p.hi2, .int .i64 p.wt2, .string p.nm2, .slice p.A2 p.n2 p.c2] #[.int .i64 p.k3, .int .i64 p.lo3, .int .i64 p.hi3, .int .i64 p.wt3, .string p.nm3, .slice p.A3 p.n3 p.c3] #[.int .i64 p.k2, .int .i64 p.lo2, .int .i64 p.hi2, .int .i64 p.wt2, .string p.nm2, .slice p.A2 p.n2 p.c2] #[.int .i64 p.k3, .int .i64 p.lo3, .int .i64 p.hi3, .int .i64 p.wt3, .string p.nm3, .slice p.A3 p.n3 p.c3] W) (fun (p : P12) (W : World) => TwoRx wr ta tb p.g5 p.g6 #[.int .i64 0, .int .i64 0, .int .i64 0, .int .i64 0, .string ⟨#[]⟩, .slice none 0 0] #[.int .i64 0, .int .i64 0, .int .i64 0, .int .i64 0, .string ⟨#[]⟩, .slice none 0 0] #[.int .i64 p.k2, .int .i64 p.lo2, .int .i64 p.hi2, .int .i64 p.wt2, .string p.nm2, .slice p.A2 p.n2 p.c2] #[.int .i64 p.k3, .int .i64 p.lo3, .int .i64 p.hi3, .int .i64 p.wt3, .string p.nm3, .slice p.A3 p.n3 p.c3] W /\ (fun w' : World => w'.cell? ⟨g, o + i * 3, none⟩ = some (.int .i64 pk) /\ w'.cell? ⟨g, o + i * 3 + 1, none⟩ = some (.int .i64 pn) /\ w'.cell? ⟨g, o + i * 3 + 2, none⟩ = some (.slice uA un ucc)) W) 2 #[true, true, true, true, true, true, true, true, true, true, true, true, false, false] (by kernel_rfl) ?_ ?_ ?_
     ·clear HMK2 HMK3 HRXA HRXB HRFA HRFB HPV HSRA HSRB HTD HE HFEW
      rintro ⟨G5, G6, k2, lo2, hi2, wt2, nm2, A2, n2, c2, k3, lo3, hi3, wt3, nm3, A3, n3, c3⟩ W ⟨⟨q0, l5, l6, hne, x5, x6, t2, t3⟩, hSW⟩
      dsimp only at l5 l6 hne x5 x6 t2 t3 ⊢
      try simp only [Act.put, zq1, zq2, zq3, zq4, zq5, zq6]
      have f5 := fun i => Blk.frozen x5 i
      have u0 := Blk.cell x5 0
      have u1 := Blk.cell x5 1
      have u2 := Blk.cell x5 2
      have u3 := Blk.cell x5 3
      have u4 := Blk.cell x5 4
      have u5 := Blk.cell x5 5
      simp only [List.getElem?_toArray, List.getElem?_cons_zero, List.getElem?_cons_succ] at u0 u1 u2 u3 u4 u5
      refine anyX_g (i := 12) (by kernel_rfl) (by decide) rfl (by rfl) ?_
      intro K9 hK9
      try simp only [zq1, zq2, zq3]
      go_simp
      obtain ⟨V8, e8⟩ : ∃ W', sixAt W G5 (.int .i64 k2) (.int .i64 lo2) (.int .i64 hi2) (.int .i64 wt2) (.string nm2) (.slice A2 n2 c2) = W' := ⟨_, rfl⟩
      have y5 := Blk.six (a1 := .int .i64 k2) (a2 := .int .i64 lo2) (a3 := .int .i64 hi2) (a4 := .int .i64 wt2) (a5 := .string nm2) (a6 := .slice A2 n2 c2) x5
      have y6 := Blk.six_far (H := G5) (a1 := .int .i64 k2) (a2 := .int .i64 lo2) (a3 := .int .i64 hi2) (a4 := .int .i64 wt2) (a5 := .string nm2) (a6 := .slice A2 n2 c2) x6 (Ne.symm hne)
      have z2 := TreeV.six (H := G5) (a1 := .int .i64 k2) (a2 := .int .i64 lo2) (a3 := .int .i64 hi2) (a4 := .int .i64 wt2) (a5 := .string nm2) (a6 := .slice A2 n2 c2) t2 (fun _ h => h) (fun g hg => hg.1)
      have z3 := TreeV.six (H := G5) (a1 := .int .i64 k2) (a2 := .int .i64 lo2) (a3 := .int .i64 hi2) (a4 := .int .i64 wt2) (a5 := .string nm2) (a6 := .slice A2 n2 c2) t3 (fun _ h => h) (fun g hg => hg.1)
      have hb8 := below_six (H := G5) (a1 := .int .i64 k2) (a2 := .int .i64 lo2) (a3 := .int .i64 hi2) (a4 := .int .i64 wt2) (a5 := .string nm2) (a6 := .slice A2 n2 c2) q0 l5
      rw [e8] at y5 y6 z2 z3 hb8
      dsimp only [sixAt] at e8
      rw [e8]
      have hS8 := HKS.out _ hb8
      refine hK9 _ _ hS8 ?_
      clear hK9 e8 f5 u0 u1 u2 u3 u4 u5
      try simp only [Act.put, zq1, zq2, zq3, zq4, zq5, zq6]
      have f6 := fun i => Blk.frozen y6 i
      have u0 := Blk.cell y6 0
      have u1 := Blk.cell y6 1
      have u2 := Blk.cell y6 2
      have u3 := Blk.cell y6 3
      have u4 := Blk.cell y6 4
      have u5 := Blk.cell y6 5
      simp only [List.getElem?_toArray, List.getElem?_cons_zero, List.getElem?_cons_succ] at u0 u1 u2 u3 u4 u5
      refine anyX_last (by kernel_rfl) (by kernel_rfl) rfl rfl ?_
      try simp only [zq1, zq2, zq3]
      go_simp
      refine .inl ⟨⟨G5, G6, k2, lo2, hi2, wt2, nm2, A2, n2, c2, k3, lo3, hi3, wt3, nm3, A3, n3, c3⟩, rfl, ?_, ?_⟩
      ·dsimp only
       simp only [Act.put, zq1, zq2, zq3, zq4, zq5, zq6]
      exact ⟨below_six hb8 l6, l5, l6, hne, Blk.six_far y5 hne, Blk.six y6, TreeV.six z2 (fun _ h => h) (fun g hg => hg.2), TreeV.six z3 (fun _ h => h) (fun g hg => hg.2)⟩
     ·intro HLF
      obtain ⟨V0, eV0⟩ : ∃ V0, wr.drew = V0 := ⟨_, rfl⟩
      have hS := HS0.out
      have q0 : Below wr.heap.size wr V0 := by rw [<- eV0]; exact (Below.refl _ _).drew
      rw [eV0] at hS ⊢
      clear eV0 HS0 HRXA HRXB HRFA HRFB HPV HSRA HSRB HTD HE HFEW
      refine anyX_take (i := 0) (v := ?_) rfl (by kernel_rfl) (by kernel_rfl) (by kernel_rfl) (by kernel_rfl) (ends_panic _ _ (fun _ _ _ h => h)) (Or.inl ⟨by rfl, ?_⟩) hS ?_
      rotate_left
      ·rintro w' ⟨s0, s1, s2⟩
       go_simp
       try with_reducible rfl
      try simp only [Act.put, zq1, zq2, zq3, zq4, zq5, zq6]
      refine anyX_take (i := 1) (v := ?_) rfl (by kernel_rfl) (by kernel_rfl) (by kernel_rfl) (by kernel_rfl) (ends_panic _ _ (fun _ _ _ h => h)) (Or.inl ⟨by rfl, ?_⟩) hS ?_
      rotate_left
      ·rintro w' ⟨s0, s1, s2⟩
       go_simp
       try with_reducible rfl
      try simp only [Act.put, zq1, zq2, zq3, zq4, zq5, zq6]
      refine anyX_take (i := 2) (v := ?_) rfl (by kernel_rfl) (by kernel_rfl) (by kernel_rfl) (by kernel_rfl) (ends_panic _ _ (fun _ _ _ h => h)) (Or.inl ⟨by rfl, ?_⟩) hS ?_
      rotate_left
      ·rintro w' ⟨s0, s1, s2⟩
       go_simp
       try with_reducible rfl
      try simp only [Act.put, zq1, zq2, zq3, zq4, zq5, zq6]
      refine anyX_take (i := 3) (v := ?_) rfl (by kernel_rfl) (by kernel_rfl) (by kernel_rfl) (by kernel_rfl) (ends_panic _ _ (fun _ _ _ h => h)) (Or.inl ⟨by rfl, ?_⟩) hS ?_
      rotate_left
      ·rintro w' ⟨s0, s1, s2⟩
       go_simp
       try with_reducible rfl
      try simp only [Act.put, zq1, zq2, zq3, zq4, zq5, zq6]
      refine anyX_take (i := 5) (v := ?_) rfl (by kernel_rfl) (by kernel_rfl) (by kernel_rfl) (by kernel_rfl) (ends_panic _ _ (fun _ _ _ h => h)) (Or.inl ⟨by rfl, ?_⟩) hS ?_
      rotate_left
      ·rintro w' ⟨s0, s1, s2⟩
       go_simp
       try with_reducible rfl
      try simp only [Act.put, zq1, zq2, zq3, zq4, zq5, zq6]
      refine anyX_take (i := 6) (v := ?_) rfl (by kernel_rfl) (by kernel_rfl) (by kernel_rfl) (by kernel_rfl) (ends_panic _ _ (fun _ _ _ h => h)) (Or.inl ⟨by rfl, ?_⟩) hS ?_
      rotate_left
      ·rintro w' ⟨s0, s1, s2⟩
       go_simp
       try with_reducible rfl
      try simp only [Act.put, zq1, zq2, zq3, zq4, zq5, zq6]
      refine anyX_take (i := 7) (v := ?_) rfl (by kernel_rfl) (by kernel_rfl) (by kernel_rfl) (by kernel_rfl) (ends_panic _ _ (fun _ _ _ h => h)) (Or.inl ⟨by rfl, ?_⟩) hS ?_
      rotate_left
      ·rintro w' ⟨s0, s1, s2⟩
       go_simp
       try with_reducible rfl
      try simp only [Act.put, zq1, zq2, zq3, zq4, zq5, zq6]
      refine anyX_take (i := 8) (v := ?_) rfl (by kernel_rfl) (by kernel_rfl) (by kernel_rfl) (by kernel_rfl) (ends_panic _ _ (fun _ _ _ h => h)) (Or.inl ⟨by rfl, ?_⟩) hS ?_
      rotate_left
      ·rintro w' ⟨s0, s1, s2⟩
       go_simp
       try with_reducible rfl
      try simp only [Act.put, zq1, zq2, zq3, zq4, zq5, zq6]
      all_goals (
       refine anyX_3 (i := 4) (j := 10) (l := 11) (by kernel_rfl) (by decide) (by decide) (by decide) rfl rfl rfl rfl rfl rfl ?_ ?_ ?_
       focus
        intro K hK
        try simp only [zq1, zq2, zq3]
        refine wp_enterE #[.agg #[.int .i64 pk, .int .i64 pn, .slice uA un ucc], .bool false] Tryz.func19 (by kernel_rfl) (by kernel_rfl) ?_ (HMK2.out V0 (HBW.out.trans (q0.mono HBW.out.size))) ?_
        ·go_simp
        rintro e V1 ⟨v2, rfl, hh2, ht2, hb⟩
        obtain ⟨k2, lo2, hi2, wt2, nm2, A2, n2, c2, rfl⟩ := hh2.lit6'
        refine ⟨_, rfl, ?_⟩
        have t2 : TreeV true V1 (fun g => V0.heap.size <= g /\ g < V1.heap.size) (.agg #[.int .i64 k2, .int .i64 lo2, .int .i64 hi2, .int .i64 wt2, .string nm2, .slice A2 n2 c2]) ta := ht2.bound
        obtain ⟨S2, eS⟩ : ∃ S : Nat -> Prop, (fun g => V0.heap.size <= g /\ g < V1.heap.size) = S := ⟨_, rfl⟩
        have u2 : ∀ g, S2 g -> g < V1.heap.size := by rw [<- eS]; exact fun g h => h.2
        rw [eS] at t2
        clear eS ht2 hh2
        replace q0 := q0.trans (hb.mono q0.size)
        have hS := HKS.out _ q0
        clear hb
        refine hK _ _ hS ?_
        clear hK hS
        try simp only [Act.put, zq1, zq2, zq3, zq4, zq5, zq6]
       rotate_left
       focus
        intro K hK
        try simp only [zq1, zq2, zq3]
        go_simp
        obtain ⟨V1, eV⟩ : ∃ W', V0.alloc (.cells #[.int .i64 0, .int .i64 0, .int .i64 0, .int .i64 0, .string ⟨#[]⟩, .slice none 0 0] 46) = W' := ⟨_, rfl⟩
        have hb : Below V0.heap.size V0 V1 := by rw [<- eV]; exact (Below.refl _ _).alloc (Nat.le_refl _) _
        have x5 : Blk V1 V0.heap.size 46 #[.int .i64 0, .int .i64 0, .int .i64 0, .int .i64 0, .string ⟨#[]⟩, .slice none 0 0] := by rw [<- eV]; exact Blk.new _ _ _
        rw [eV]
        obtain ⟨G5, eG⟩ : ∃ G, V0.heap.size = G := ⟨_, rfl⟩
        have l5 : wr.heap.size <= G5 := by rw [<- eG]; exact q0.size
        rw [eG] at x5 ⊢
        replace q0 := q0.trans (hb.mono q0.size)
        have hS := HKS.out _ q0
        clear hb eV eG
        refine hK _ _ hS ?_
        clear hK hS
        try simp only [Act.put, zq1, zq2, zq3, zq4, zq5, zq6]
       rotate_left
       focus
        intro K hK
        try simp only [zq1, zq2, zq3]
        go_simp
        obtain ⟨V1, eV⟩ : ∃ W', V0.alloc (.cells #[.int .i64 0, .int .i64 0, .int .i64 0, .int .i64 0, .string ⟨#[]⟩, .slice none 0 0] 46) = W' := ⟨_, rfl⟩
        have hb : Below V0.heap.size V0 V1 := by rw [<- eV]; exact (Below.refl _ _).alloc (Nat.le_refl _) _
        have x6 : Blk V1 V0.heap.size 46 #[.int .i64 0, .int .i64 0, .int .i64 0, .int .i64 0, .string ⟨#[]⟩, .slice none 0 0] := by rw [<- eV]; exact Blk.new _ _ _
        rw [eV]
        obtain ⟨G6, eG⟩ : ∃ G, V0.heap.size = G := ⟨_, rfl⟩
        have l6 : wr.heap.size <= G6 := by rw [<- eG]; exact q0.size
        rw [eG] at x6 ⊢
        replace q0 := q0.trans (hb.mono q0.size)
        have hS := HKS.out _ q0
        clear hb eV eG
        refine hK _ _ hS ?_
        clear hK hS
        try simp only [Act.put, zq1, zq2, zq3, zq4, zq5, zq6])
      all_goals try (
       refine anyX_2 (i := 4) (j := 10) (by kernel_rfl) (by decide) (by decide) rfl rfl rfl rfl ?_ ?_
       focus
        intro K hK
        try simp only [zq1, zq2, zq3]
        refine wp_enterE #[.agg #[.int .i64 pk, .int .i64 pn, .slice uA un ucc], .bool false] Tryz.func19 (by kernel_rfl) (by kernel_rfl) ?_ (HMK2.out V1 (HBW.out.trans (q0.mono HBW.out.size))) ?_
        ·go_simp
        rintro e V2 ⟨v2, rfl, hh2, ht2, hb⟩
        obtain ⟨k2, lo2, hi2, wt2, nm2, A2, n2, c2, rfl⟩ := hh2.lit6'
        refine ⟨_, rfl, ?_⟩
        have t2 : TreeV true V2 (fun g => V1.heap.size <= g /\ g < V2.heap.size) (.agg #[.int .i64 k2, .int .i64 lo2, .int .i64 hi2, .int .i64 wt2, .string nm2, .slice A2 n2 c2]) ta := ht2.bound
        obtain ⟨S2, eS⟩ : ∃ S : Nat -> Prop, (fun g => V1.heap.size <= g /\ g < V2.heap.size) = S := ⟨_, rfl⟩
        have u2 : ∀ g, S2 g -> g < V2.heap.size := by rw [<- eS]; exact fun g h => h.2
        have n26 : ∀ g, S2 g -> g ≠ G6 := by rw [<- eS]; exact fun g h => by have := Blk.lt x6; have := h.1; omega
        rw [eS] at t2
        clear eS ht2 hh2
        replace x6 := Blk.below x6 hb (Blk.lt x6)
        replace q0 := q0.trans (hb.mono q0.size)
        have hS := HKS.out _ q0
        clear hb
        refine hK _ _ hS ?_
        clear hK hS
        try simp only [Act.put, zq1, zq2, zq3, zq4, zq5, zq6]
       rotate_left
       focus
        intro K hK
        try simp only [zq1, zq2, zq3]
        go_simp
        obtain ⟨V2, eV⟩ : ∃ W', V1.alloc (.cells #[.int .i64 0, .int .i64 0, .int .i64 0, .int .i64 0, .string ⟨#[]⟩, .slice none 0 0] 46) = W' := ⟨_, rfl⟩
        have hb : Below V1.heap.size V1 V2 := by rw [<- eV]; exact (Below.refl _ _).alloc (Nat.le_refl _) _
        have x5 : Blk V2 V1.heap.size 46 #[.int .i64 0, .int .i64 0, .int .i64 0, .int .i64 0, .string ⟨#[]⟩, .slice none 0 0] := by rw [<- eV]; exact Blk.new _ _ _
        rw [eV]
        obtain ⟨G5, eG⟩ : ∃ G, V1.heap.size = G := ⟨_, rfl⟩
        have l5 : wr.heap.size <= G5 := by rw [<- eG]; exact q0.size
        have hne : G5 ≠ G6 := by have := Blk.lt x6; omega
        rw [eG] at x5 ⊢
        replace x6 := Blk.below x6 hb (Blk.lt x6)
        replace q0 := q0.trans (hb.mono q0.size)
        have hS := HKS.out _ q0
        clear hb eV eG
        refine hK _ _ hS ?_
        clear hK hS
        try simp only [Act.put, zq1, zq2, zq3, zq4, zq5, zq6])
      all_goals try (
       refine anyX_2 (i := 4) (j := 11) (by kernel_rfl) (by decide) (by decide) rfl rfl rfl rfl ?_ ?_
       focus
        intro K hK
        try simp only [zq1, zq2, zq3]
        refine wp_enterE #[.agg #[.int .i64 pk, .int .i64 pn, .slice uA un ucc], .bool false] Tryz.func19 (by kernel_rfl) (by kernel_rfl) ?_ (HMK2.out V1 (HBW.out.trans (q0.mono HBW.out.size))) ?_
        ·go_simp
        rintro e V2 ⟨v2, rfl, hh2, ht2, hb⟩
        obtain ⟨k2, lo2, hi2, wt2, nm2, A2, n2, c2, rfl⟩ := hh2.lit6'
        refine ⟨_, rfl, ?_⟩
        have t2 : TreeV true V2 (fun g => V1.heap.size <= g /\ g < V2.heap.size) (.agg #[.int .i64 k2, .int .i64 lo2, .int .i64 hi2, .int .i64 wt2, .string nm2, .slice A2 n2 c2]) ta := ht2.bound
        obtain ⟨S2, eS⟩ : ∃ S : Nat -> Prop, (fun g => V1.heap.size <= g /\ g < V2.heap.size) = S := ⟨_, rfl⟩
        have u2 : ∀ g, S2 g -> g < V2.heap.size := by rw [<- eS]; exact fun g h => h.2
        have n25 : ∀ g, S2 g -> g ≠ G5 := by rw [<- eS]; exact fun g h => by have := Blk.lt x5; have := h.1; omega
        rw [eS] at t2
        clear eS ht2 hh2
        replace x5 := Blk.below x5 hb (Blk.lt x5)
        replace q0 := q0.trans (hb.mono q0.size)
        have hS := HKS.out _ q0
        clear hb
        refine hK _ _ hS ?_
        clear hK hS
        try simp only [Act.put, zq1, zq2, zq3, zq4, zq5, zq6]
       rotate_left
       focus
        intro K hK
        try simp only [zq1, zq2, zq3]
        go_simp
        obtain ⟨V2, eV⟩ : ∃ W', V1.alloc (.cells #[.int .i64 0, .int .i64 0, .int .i64 0, .int .i64 0, .string ⟨#[]⟩, .slice none 0 0] 46) = W' := ⟨_, rfl⟩
        have hb : Below V1.heap.size V1 V2 := by rw [<- eV]; exact (Below.refl _ _).alloc (Nat.le_refl _) _
        have x6 : Blk V2 V1.heap.size 46 #[.int .i64 0, .int .i64 0, .int .i64 0, .int .i64 0, .string ⟨#[]⟩, .slice none 0 0] := by rw [<- eV]; exact Blk.new _ _ _
        rw [eV]
        obtain ⟨G6, eG⟩ : ∃ G, V1.heap.size = G := ⟨_, rfl⟩
        have l6 : wr.heap.size <= G6 := by rw [<- eG]; exact q0.size
        have hne : G5 ≠ G6 := by have := Blk.lt x5; omega
        rw [eG] at x6 ⊢
        replace x5 := Blk.below x5 hb (Blk.lt x5)
        replace q0 := q0.trans (hb.mono q0.size)
        have hS := HKS.out _ q0
        clear hb eV eG
        refine hK _ _ hS ?_
        clear hK hS
        try simp only [Act.put, zq1, zq2, zq3, zq4, zq5, zq6])
      all_goals try (
       refine anyX_3 (i := 9) (j := 10) (l := 11) (by kernel_rfl) (by decide) (by decide) (by decide) rfl rfl rfl rfl rfl rfl ?_ ?_ ?_
       focus
        intro K hK
        try simp only [zq1, zq2, zq3]
        refine wp_enterE #[.agg #[.int .i64 pk, .int .i64 pn, .slice uA un ucc], .bool true] Tryz.func19 (by kernel_rfl) (by kernel_rfl) ?_ (HMK3.out V1 (HBW.out.trans (q0.mono HBW.out.size))) ?_
        ·go_simp
        rintro e V2 ⟨v3, rfl, hh3, ht3, hb⟩
        obtain ⟨k3, lo3, hi3, wt3, nm3, A3, n3, c3, rfl⟩ := hh3.lit6'
        refine ⟨_, rfl, ?_⟩
        have t3 : TreeV true V2 (fun g => V1.heap.size <= g /\ g < V2.heap.size) (.agg #[.int .i64 k3, .int .i64 lo3, .int .i64 hi3, .int .i64 wt3, .string nm3, .slice A3 n3 c3]) tb := ht3.bound
        obtain ⟨S3, eS⟩ : ∃ S : Nat -> Prop, (fun g => V1.heap.size <= g /\ g < V2.heap.size) = S := ⟨_, rfl⟩
        have u3 : ∀ g, S3 g -> g < V2.heap.size := by rw [<- eS]; exact fun g h => h.2
        rw [eS] at t3
        clear eS ht3 hh3
        replace t2 := t2.bel (fun _ h => h) hb
        replace u2 := fun g h => Nat.lt_of_lt_of_le (u2 g h) hb.size
        replace q0 := q0.trans (hb.mono q0.size)
        have hS := HKS.out _ q0
        clear hb
        refine hK _ _ hS ?_
        clear hK hS
        try simp only [Act.put, zq1, zq2, zq3, zq4, zq5, zq6]
       rotate_left
       focus
        intro K hK
        try simp only [zq1, zq2, zq3]
        go_simp
        obtain ⟨V2, eV⟩ : ∃ W', V1.alloc (.cells #[.int .i64 0, .int .i64 0, .int .i64 0, .int .i64 0, .string ⟨#[]⟩, .slice none 0 0] 46) = W' := ⟨_, rfl⟩
        have hb : Below V1.heap.size V1 V2 := by rw [<- eV]; exact (Below.refl _ _).alloc (Nat.le_refl _) _
        have x5 : Blk V2 V1.heap.size 46 #[.int .i64 0, .int .i64 0, .int .i64 0, .int .i64 0, .string ⟨#[]⟩, .slice none 0 0] := by rw [<- eV]; exact Blk.new _ _ _
        rw [eV]
        obtain ⟨G5, eG⟩ : ∃ G, V1.heap.size = G := ⟨_, rfl⟩
        have l5 : wr.heap.size <= G5 := by rw [<- eG]; exact q0.size
        have n25 : ∀ g, S2 g -> g ≠ G5 := fun g h => by have := u2 g h; omega
        rw [eG] at x5 ⊢
        replace t2 := t2.bel (fun _ h => h) hb
        replace u2 := fun g h => Nat.lt_of_lt_of_le (u2 g h) hb.size
        replace q0 := q0.trans (hb.mono q0.size)
        have hS := HKS.out _ q0
        clear hb eV eG
        refine hK _ _ hS ?_
        clear hK hS
        try simp only [Act.put, zq1, zq2, zq3, zq4, zq5, zq6]
       rotate_left
       focus
        intro K hK
        try simp only [zq1, zq2, zq3]
        go_simp
        obtain ⟨V2, eV⟩ : ∃ W', V1.alloc (.cells #[.int .i64 0, .int .i64 0, .int .i64 0, .int .i64 0, .string ⟨#[]⟩, .slice none 0 0] 46) = W' := ⟨_, rfl⟩
        have hb : Below V1.heap.size V1 V2 := by rw [<- eV]; exact (Below.refl _ _).alloc (Nat.le_refl _) _
        have x6 : Blk V2 V1.heap.size 46 #[.int .i64 0, .int .i64 0, .int .i64 0, .int .i64 0, .string ⟨#[]⟩, .slice none 0 0] := by rw [<- eV]; exact Blk.new _ _ _
        rw [eV]
        obtain ⟨G6, eG⟩ : ∃ G, V1.heap.size = G := ⟨_, rfl⟩
        have l6 : wr.heap.size <= G6 := by rw [<- eG]; exact q0.size
        have n26 : ∀ g, S2 g -> g ≠ G6 := fun g h => by have := u2 g h; omega
        rw [eG] at x6 ⊢
        replace t2 := t2.bel (fun _ h => h) hb
        replace u2 := fun g h => Nat.lt_of_lt_of_le (u2 g h) hb.size
        replace q0 := q0.trans (hb.mono q0.size)
        have hS := HKS.out _ q0
        clear hb eV eG
        refine hK _ _ hS ?_
        clear hK hS
        try simp only [Act.put, zq1, zq2, zq3, zq4, zq5, zq6])
      all_goals try (
       refine anyX_g (i := 4) (by kernel_rfl) (by decide) rfl (by rfl) ?_
       intro K hK
       try simp only [zq1, zq2, zq3]
       refine wp_enterE #[.agg #[.int .i64 pk, .int .i64 pn, .slice uA un ucc], .bool false] Tryz.func19 (by kernel_rfl) (by kernel_rfl) ?_ (HMK2.out V2 (HBW.out.trans (q0.mono HBW.out.size))) ?_
       ·go_simp
       rintro e V3 ⟨v2, rfl, hh2, ht2, hb⟩
       obtain ⟨k2, lo2, hi2, wt2, nm2, A2, n2, c2, rfl⟩ := hh2.lit6'
       refine ⟨_, rfl, ?_⟩
       have t2 : TreeV true V3 (fun g => V2.heap.size <= g /\ g < V3.heap.size) (.agg #[.int .i64 k2, .int .i64 lo2, .int .i64 hi2, .int .i64 wt2, .string nm2, .slice A2 n2 c2]) ta := ht2.bound
       obtain ⟨S2, eS⟩ : ∃ S : Nat -> Prop, (fun g => V2.heap.size <= g /\ g < V3.heap.size) = S := ⟨_, rfl⟩
       have u2 : ∀ g, S2 g -> g < V3.heap.size := by rw [<- eS]; exact fun g h => h.2
       have n25 : ∀ g, S2 g -> g ≠ G5 := by rw [<- eS]; exact fun g h => by have := Blk.lt x5; have := h.1; omega
       have n26 : ∀ g, S2 g -> g ≠ G6 := by rw [<- eS]; exact fun g h => by have := Blk.lt x6; have := h.1; omega
       rw [eS] at t2
       clear eS ht2 hh2
       replace x5 := Blk.below x5 hb (Blk.lt x5)
       replace x6 := Blk.below x6 hb (Blk.lt x6)
       replace q0 := q0.trans (hb.mono q0.size)
       have hS := HKS.out _ q0
       clear hb
       refine hK _ _ hS ?_
       clear hK hS
       try simp only [Act.put, zq1, zq2, zq3, zq4, zq5, zq6])
      all_goals try (
       refine anyX_2 (i := 9) (j := 10) (by kernel_rfl) (by decide) (by decide) rfl rfl rfl rfl ?_ ?_
       focus
        intro K hK
        try simp only [zq1, zq2, zq3]
        refine wp_enterE #[.agg #[.int .i64 pk, .int .i64 pn, .slice uA un ucc], .bool true] Tryz.func19 (by kernel_rfl) (by kernel_rfl) ?_ (HMK3.out V2 (HBW.out.trans (q0.mono HBW.out.size))) ?_
        ·go_simp
        rintro e V3 ⟨v3, rfl, hh3, ht3, hb⟩
        obtain ⟨k3, lo3, hi3, wt3, nm3, A3, n3, c3, rfl⟩ := hh3.lit6'
        refine ⟨_, rfl, ?_⟩
        have t3 : TreeV true V3 (fun g => V2.heap.size <= g /\ g < V3.heap.size) (.agg #[.int .i64 k3, .int .i64 lo3, .int .i64 hi3, .int .i64 wt3, .string nm3, .slice A3 n3 c3]) tb := ht3.bound
        obtain ⟨S3, eS⟩ : ∃ S : Nat -> Prop, (fun g => V2.heap.size <= g /\ g < V3.heap.size) = S := ⟨_, rfl⟩
        have u3 : ∀ g, S3 g -> g < V3.heap.size := by rw [<- eS]; exact fun g h => h.2
        have n36 : ∀ g, S3 g -> g ≠ G6 := by rw [<- eS]; exact fun g h => by have := Blk.lt x6; have := h.1; omega
        rw [eS] at t3
        clear eS ht3 hh3
        replace t2 := t2.bel (fun _ h => h) hb
        replace u2 := fun g h => Nat.lt_of_lt_of_le (u2 g h) hb.size
        replace x6 := Blk.below x6 hb (Blk.lt x6)
        replace q0 := q0.trans (hb.mono q0.size)
        have hS := HKS.out _ q0
        clear hb
        refine hK _ _ hS ?_
        clear hK hS
        try simp only [Act.put, zq1, zq2, zq3, zq4, zq5, zq6]
       rotate_left
       focus
        intro K hK
        try simp only [zq1, zq2, zq3]
        go_simp
        obtain ⟨V3, eV⟩ : ∃ W', V2.alloc (.cells #[.int .i64 0, .int .i64 0, .int .i64 0, .int .i64 0, .string ⟨#[]⟩, .slice none 0 0] 46) = W' := ⟨_, rfl⟩
        have hb : Below V2.heap.size V2 V3 := by rw [<- eV]; exact (Below.refl _ _).alloc (Nat.le_refl _) _
        have x5 : Blk V3 V2.heap.size 46 #[.int .i64 0, .int .i64 0, .int .i64 0, .int .i64 0, .string ⟨#[]⟩, .slice none 0 0] := by rw [<- eV]; exact Blk.new _ _ _
        rw [eV]
        obtain ⟨G5, eG⟩ : ∃ G, V2.heap.size = G := ⟨_, rfl⟩
        have l5 : wr.heap.size <= G5 := by rw [<- eG]; exact q0.size
        have n25 : ∀ g, S2 g -> g ≠ G5 := fun g h => by have := u2 g h; omega
        have hne : G5 ≠ G6 := by have := Blk.lt x6; omega
        rw [eG] at x5 ⊢
        replace t2 := t2.bel (fun _ h => h) hb
        replace u2 := fun g h => Nat.lt_of_lt_of_le (u2 g h) hb.size
        replace x6 := Blk.below x6 hb (Blk.lt x6)
        replace q0 := q0.trans (hb.mono q0.size)
        have hS := HKS.out _ q0
        clear hb eV eG
        refine hK _ _ hS ?_
        clear hK hS
        try simp only [Act.put, zq1, zq2, zq3, zq4, zq5, zq6])
      all_goals try (
       refine anyX_2 (i := 9) (j := 11) (by kernel_rfl) (by decide) (by decide) rfl rfl rfl rfl ?_ ?_
       focus
        intro K hK
        try simp only [zq1, zq2, zq3]
        refine wp_enterE #[.agg #[.int .i64 pk, .int .i64 pn, .slice uA un ucc], .bool true] Tryz.func19 (by kernel_rfl) (by kernel_rfl) ?_ (HMK3.out V2 (HBW.out.trans (q0.mono HBW.out.size))) ?_
        ·go_simp
        rintro e V3 ⟨v3, rfl, hh3, ht3, hb⟩
        obtain ⟨k3, lo3, hi3, wt3, nm3, A3, n3, c3, rfl⟩ := hh3.lit6'
        refine ⟨_, rfl, ?_⟩
        have t3 : TreeV true V3 (fun g => V2.heap.size <= g /\ g < V3.heap.size) (.agg #[.int .i64 k3, .int .i64 lo3, .int .i64 hi3, .int .i64 wt3, .string nm3, .slice A3 n3 c3]) tb := ht3.bound
        obtain ⟨S3, eS⟩ : ∃ S : Nat -> Prop, (fun g => V2.heap.size <= g /\ g < V3.heap.size) = S := ⟨_, rfl⟩
        have u3 : ∀ g, S3 g -> g < V3.heap.size := by rw [<- eS]; exact fun g h => h.2
        have n35 : ∀ g, S3 g -> g ≠ G5 := by rw [<- eS]; exact fun g h => by have := Blk.lt x5; have := h.1; omega
        rw [eS] at t3
        clear eS ht3 hh3
        replace t2 := t2.bel (fun _ h => h) hb
        replace u2 := fun g h => Nat.lt_of_lt_of_le (u2 g h) hb.size
        replace x5 := Blk.below x5 hb (Blk.lt x5)
        replace q0 := q0.trans (hb.mono q0.size)
        have hS := HKS.out _ q0
        clear hb
        refine hK _ _ hS ?_
        clear hK hS
        try simp only [Act.put, zq1, zq2, zq3, zq4, zq5, zq6]
       rotate_left
       focus
        intro K hK
        try simp only [zq1, zq2, zq3]
        go_simp
        obtain ⟨V3, eV⟩ : ∃ W', V2.alloc (.cells #[.int .i64 0, .int .i64 0, .int .i64 0, .int .i64 0, .string ⟨#[]⟩, .slice none 0 0] 46) = W' := ⟨_, rfl⟩
        have hb : Below V2.heap.size V2 V3 := by rw [<- eV]; exact (Below.refl _ _).alloc (Nat.le_refl _) _
        have x6 : Blk V3 V2.heap.size 46 #[.int .i64 0, .int .i64 0, .int .i64 0, .int .i64 0, .string ⟨#[]⟩, .slice none 0 0] := by rw [<- eV]; exact Blk.new _ _ _
        rw [eV]
        obtain ⟨G6, eG⟩ : ∃ G, V2.heap.size = G := ⟨_, rfl⟩
        have l6 : wr.heap.size <= G6 := by rw [<- eG]; exact q0.size
        have n26 : ∀ g, S2 g -> g ≠ G6 := fun g h => by have := u2 g h; omega
        have hne : G5 ≠ G6 := by have := Blk.lt x5; omega
        rw [eG] at x6 ⊢
        replace t2 := t2.bel (fun _ h => h) hb
        replace u2 := fun g h => Nat.lt_of_lt_of_le (u2 g h) hb.size
        replace x5 := Blk.below x5 hb (Blk.lt x5)
        replace q0 := q0.trans (hb.mono q0.size)
        have hS := HKS.out _ q0
        clear hb eV eG
        refine hK _ _ hS ?_
        clear hK hS
        try simp only [Act.put, zq1, zq2, zq3, zq4, zq5, zq6])
      all_goals try (
       refine anyX_2 (i := 10) (j := 11) (by kernel_rfl) (by decide) (by decide) rfl rfl rfl rfl ?_ ?_
       focus
        intro K hK
        try simp only [zq1, zq2, zq3]
        go_simp
        obtain ⟨V3, eV⟩ : ∃ W', V2.alloc (.cells #[.int .i64 0, .int .i64 0, .int .i64 0, .int .i64 0, .string ⟨#[]⟩, .slice none 0 0] 46) = W' := ⟨_, rfl⟩
        have hb : Below V2.heap.size V2 V3 := by rw [<- eV]; exact (Below.refl _ _).alloc (Nat.le_refl _) _
        have x5 : Blk V3 V2.heap.size 46 #[.int .i64 0, .int .i64 0, .int .i64 0, .int .i64 0, .string ⟨#[]⟩, .slice none 0 0] := by rw [<- eV]; exact Blk.new _ _ _
        rw [eV]
        obtain ⟨G5, eG⟩ : ∃ G, V2.heap.size = G := ⟨_, rfl⟩
        have l5 : wr.heap.size <= G5 := by rw [<- eG]; exact q0.size
        have n25 : ∀ g, S2 g -> g ≠ G5 := fun g h => by have := u2 g h; omega
        have n35 : ∀ g, S3 g -> g ≠ G5 := fun g h => by have := u3 g h; omega
        rw [eG] at x5 ⊢
        replace t2 := t2.bel (fun _ h => h) hb
        replace u2 := fun g h => Nat.lt_of_lt_of_le (u2 g h) hb.size
        replace t3 := t3.bel (fun _ h => h) hb
        replace u3 := fun g h => Nat.lt_of_lt_of_le (u3 g h) hb.size
        replace q0 := q0.trans (hb.mono q0.size)
        have hS := HKS.out _ q0
        clear hb eV eG
        refine hK _ _ hS ?_
        clear hK hS
        try simp only [Act.put, zq1, zq2, zq3, zq4, zq5, zq6]
       rotate_left
       focus
        intro K hK
        try simp only [zq1, zq2, zq3]
        go_simp
        obtain ⟨V3, eV⟩ : ∃ W', V2.alloc (.cells #[.int .i64 0, .int .i64 0, .int .i64 0, .int .i64 0, .string ⟨#[]⟩, .slice none 0 0] 46) = W' := ⟨_, rfl⟩
        have hb : Below V2.heap.size V2 V3 := by rw [<- eV]; exact (Below.refl _ _).alloc (Nat.le_refl _) _
        have x6 : Blk V3 V2.heap.size 46 #[.int .i64 0, .int .i64 0, .int .i64 0, .int .i64 0, .string ⟨#[]⟩, .slice none 0 0] := by rw [<- eV]; exact Blk.new _ _ _
        rw [eV]
        obtain ⟨G6, eG⟩ : ∃ G, V2.heap.size = G := ⟨_, rfl⟩
        have l6 : wr.heap.size <= G6 := by rw [<- eG]; exact q0.size
        have n26 : ∀ g, S2 g -> g ≠ G6 := fun g h => by have := u2 g h; omega
        have n36 : ∀ g, S3 g -> g ≠ G6 := fun g h => by have := u3 g h; omega
        rw [eG] at x6 ⊢
        replace t2 := t2.bel (fun _ h => h) hb
        replace u2 := fun g h => Nat.lt_of_lt_of_le (u2 g h) hb.size
        replace t3 := t3.bel (fun _ h => h) hb
        replace u3 := fun g h => Nat.lt_of_lt_of_le (u3 g h) hb.size
        replace q0 := q0.trans (hb.mono q0.size)
        have hS := HKS.out _ q0
        clear hb eV eG
        refine hK _ _ hS ?_
        clear hK hS
        try simp only [Act.put, zq1, zq2, zq3, zq4, zq5, zq6])
      all_goals try (
       refine anyX_g (i := 9) (by kernel_rfl) (by decide) rfl (by rfl) ?_
       intro K hK
       try simp only [zq1, zq2, zq3]
       refine wp_enterE #[.agg #[.int .i64 pk, .int .i64 pn, .slice uA un ucc], .bool true] Tryz.func19 (by kernel_rfl) (by kernel_rfl) ?_ (HMK3.out V3 (HBW.out.trans (q0.mono HBW.out.size))) ?_
       ·go_simp
       rintro e V4 ⟨v3, rfl, hh3, ht3, hb⟩
       obtain ⟨k3, lo3, hi3, wt3, nm3, A3, n3, c3, rfl⟩ := hh3.lit6'
       refine ⟨_, rfl, ?_⟩
       have t3 : TreeV true V4 (fun g => V3.heap.size <= g /\ g < V4.heap.size) (.agg #[.int .i64 k3, .int .i64 lo3, .int .i64 hi3, .int .i64 wt3, .string nm3, .slice A3 n3 c3]) tb := ht3.bound
       obtain ⟨S3, eS⟩ : ∃ S : Nat -> Prop, (fun g => V3.heap.size <= g /\ g < V4.heap.size) = S := ⟨_, rfl⟩
       have u3 : ∀ g, S3 g -> g < V4.heap.size := by rw [<- eS]; exact fun g h => h.2
       have n35 : ∀ g, S3 g -> g ≠ G5 := by rw [<- eS]; exact fun g h => by have := Blk.lt x5; have := h.1; omega
       have n36 : ∀ g, S3 g -> g ≠ G6 := by rw [<- eS]; exact fun g h => by have := Blk.lt x6; have := h.1; omega
       rw [eS] at t3
       clear eS ht3 hh3
       replace t2 := t2.bel (fun _ h => h) hb
       replace u2 := fun g h => Nat.lt_of_lt_of_le (u2 g h) hb.size
       replace x5 := Blk.below x5 hb (Blk.lt x5)
       replace x6 := Blk.below x6 hb (Blk.lt x6)
       replace q0 := q0.trans (hb.mono q0.size)
       have hS := HKS.out _ q0
       clear hb
       refine hK _ _ hS ?_
       clear hK hS
       try simp only [Act.put, zq1, zq2, zq3, zq4, zq5, zq6])
      all_goals try (
       refine anyX_g (i := 10) (by kernel_rfl) (by decide) rfl (by rfl) ?_
       intro K hK
       try simp only [zq1, zq2, zq3]
       go_simp
       obtain ⟨V4, eV⟩ : ∃ W', V3.alloc (.cells #[.int .i64 0, .int .i64 0, .int .i64 0, .int .i64 0, .string ⟨#[]⟩, .slice none 0 0] 46) = W' := ⟨_, rfl⟩
       have hb : Below V3.heap.size V3 V4 := by rw [<- eV]; exact (Below.refl _ _).alloc (Nat.le_refl _) _
       have x5 : Blk V4 V3.heap.size 46 #[.int .i64 0, .int .i64 0, .int .i64 0, .int .i64 0, .string ⟨#[]⟩, .slice none 0 0] := by rw [<- eV]; exact Blk.new _ _ _
       rw [eV]
       obtain ⟨G5, eG⟩ : ∃ G, V3.heap.size = G := ⟨_, rfl⟩
       have l5 : wr.heap.size <= G5 := by rw [<- eG]; exact q0.size
       have n25 : ∀ g, S2 g -> g ≠ G5 := fun g h => by have := u2 g h; omega
       have n35 : ∀ g, S3 g -> g ≠ G5 := fun g h => by have := u3 g h; omega
       have hne : G5 ≠ G6 := by have := Blk.lt x6; omega
       rw [eG] at x5 ⊢
       replace t2 := t2.bel (fun _ h => h) hb
       replace u2 := fun g h => Nat.lt_of_lt_of_le (u2 g h) hb.size
       replace t3 := t3.bel (fun _ h => h) hb
       replace u3 := fun g h => Nat.lt_of_lt_of_le (u3 g h) hb.size
       replace x6 := Blk.below x6 hb (Blk.lt x6)
       replace q0 := q0.trans (hb.mono q0.size)
       have hS := HKS.out _ q0
       clear hb eV eG
       refine hK _ _ hS ?_
       clear hK hS
       try simp only [Act.put, zq1, zq2, zq3, zq4, zq5, zq6])
      all_goals try (
       refine anyX_g (i := 11) (by kernel_rfl) (by decide) rfl (by rfl) ?_
       intro K hK
       try simp only [zq1, zq2, zq3]
       go_simp
       obtain ⟨V4, eV⟩ : ∃ W', V3.alloc (.cells #[.int .i64 0, .int .i64 0, .int .i64 0, .int .i64 0, .string ⟨#[]⟩, .slice none 0 0] 46) = W' := ⟨_, rfl⟩
       have hb : Below V3.heap.size V3 V4 := by rw [<- eV]; exact (Below.refl _ _).alloc (Nat.le_refl _) _
       have x6 : Blk V4 V3.heap.size 46 #[.int .i64 0, .int .i64 0, .int .i64 0, .int .i64 0, .string ⟨#[]⟩, .slice none 0 0] := by rw [<- eV]; exact Blk.new _ _ _
       rw [eV]
       obtain ⟨G6, eG⟩ : ∃ G, V3.heap.size = G := ⟨_, rfl⟩
       have l6 : wr.heap.size <= G6 := by rw [<- eG]; exact q0.size
       have n26 : ∀ g, S2 g -> g ≠ G6 := fun g h => by have := u2 g h; omega
       have n36 : ∀ g, S3 g -> g ≠ G6 := fun g h => by have := u3 g h; omega
       have hne : G5 ≠ G6 := by have := Blk.lt x5; omega
       rw [eG] at x6 ⊢
       replace t2 := t2.bel (fun _ h => h) hb
       replace u2 := fun g h => Nat.lt_of_lt_of_le (u2 g h) hb.size
       replace t3 := t3.bel (fun _ h => h) hb
       replace u3 := fun g h => Nat.lt_of_lt_of_le (u3 g h) hb.size
       replace x5 := Blk.below x5 hb (Blk.lt x5)
       replace q0 := q0.trans (hb.mono q0.size)
       have hS := HKS.out _ q0
       clear hb eV eG
       refine hK _ _ hS ?_
       clear hK hS
       try simp only [Act.put, zq1, zq2, zq3, zq4, zq5, zq6])
      all_goals (
       have m2 : ∀ g, S2 g -> g ≠ G5 /\ g ≠ G6 := fun g h => ⟨n25 g h, n26 g h⟩
       have m3 : ∀ g, S3 g -> g ≠ G5 /\ g ≠ G6 := fun g h => ⟨n35 g h, n36 g h⟩
       have hlf := HLF ⟨G5, G6, k2, lo2, hi2, wt2, nm2, A2, n2, c2, k3, lo3, hi3, wt3, nm3, A3, n3, c3⟩ V4 ⟨⟨q0, l5, l6, hne, x5, x6, t2.keep m2 (fun _ _ _ _ h => h), t3.keep m3 (fun _ _ _ _ h => h)⟩, HKS.out _ q0⟩
       dsimp only at hlf
       simp only [Act.put, zq1, zq2, zq3, zq4, zq5, zq6] at hlf
       exact hlf)
     ·rintro ⟨G5, G6, k2, lo2, hi2, wt2, nm2, A2, n2, c2, k3, lo3, hi3, wt3, nm3, A3, n3, c3⟩ W hf
      dsimp only at hf ⊢
      try simp only [Act.put, zq1, zq2, zq3, zq4, zq5, zq6]
      clear HMK2 HMK3 HKS HS0
      have hK10 : ∀ W : World, TwoRx wr ta tb G5 G6 #[.int .i64 k2, .int .i64 lo2, .int .i64 hi2, .int .i64 wt2, .string nm2, .slice A2 n2 c2] #[.int .i64 k3, .int .i64 lo3, .int .i64 hi3, .int .i64 wt3, .string nm3, .slice A3 n3 c3] #[.int .i64 k2, .int .i64 lo2, .int .i64 hi2, .int .i64 wt2, .string nm2, .slice A2 n2 c2] #[.int .i64 k3, .int .i64 lo3, .int .i64 hi3, .int .i64 wt3, .string nm3, .slice A3 n3 c3] W -> (fun w' : World => w'.cell? ⟨G5, 0, none⟩ = some (.int .i64 k2) /\ w'.cell? ⟨G5, 1, none⟩ = some (.int .i64 lo2) /\ w'.cell? ⟨G5, 2, none⟩ = some (.int .i64 hi2) /\ w'.cell? ⟨G5, 3, none⟩ = some (.int .i64 wt2) /\ w'.cell? ⟨G5, 4, none⟩ = some (.string nm2) /\ w'.cell? ⟨G5, 5, none⟩ = some (.slice A2 n2 c2) /\ w'.cell? ⟨G6, 0, none⟩ = some (.int .i64 k3) /\ w'.cell? ⟨G6, 1, none⟩ = some (.int .i64 lo3) /\ w'.cell? ⟨G6, 2, none⟩ = some (.int .i64 hi3) /\ w'.cell? ⟨G6, 3, none⟩ = some (.int .i64 wt3) /\ w'.cell? ⟨G6, 4, none⟩ = some (.string nm3) /\ w'.cell? ⟨G6, 5, none⟩ = some (.slice A3 n3 c3)) W := fun W hW => ⟨Blk.cell hW.x5 0, Blk.cell hW.x5 1, Blk.cell hW.x5 2, Blk.cell hW.x5 3, Blk.cell hW.x5 4, Blk.cell hW.x5 5, Blk.cell hW.x6 0, Blk.cell hW.x6 1, Blk.cell hW.x6 2, Blk.cell hW.x6 3, Blk.cell hW.x6 4, Blk.cell hW.x6 5⟩
      have HK10 := Lib.hid hK10; have HF0 := Lib.hid hf
      clear hK10
      try apply_assumption
      go_wp2_with fail
      have hf0 := hf.drew
      obtain ⟨U, eU⟩ : ∃ U, W.drew = U := ⟨_, rfl⟩
      refine region_x 5 (fun w' : World => w'.cell? ⟨G5, 0, none⟩ = some (.int .i64 k2) /\ w'.cell? ⟨G5, 1, none⟩ = some (.int .i64 lo2) /\ w'.cell? ⟨G5, 2, none⟩ = some (.int .i64 hi2) /\ w'.cell? ⟨G5, 3, none⟩ = some (.int .i64 wt2) /\ w'.cell? ⟨G5, 4, none⟩ = some (.string nm2) /\ w'.cell? ⟨G5, 5, none⟩ = some (.slice A2 n2 c2) /\ w'.cell? ⟨G6, 0, none⟩ = some (.int .i64 k3) /\ w'.cell? ⟨G6, 1, none⟩ = some (.int .i64 lo3) /\ w'.cell? ⟨G6, 2, none⟩ = some (.int .i64 hi3) /\ w'.cell? ⟨G6, 3, none⟩ = some (.int .i64 wt3) /\ w'.cell? ⟨G6, 4, none⟩ = some (.string nm3) /\ w'.cell? ⟨G6, 5, none⟩ = some (.slice A3 n3 c3)) (by kernel_rfl) ?_
      rw [eU] at hf0 ⊢
      have hS := HK10.out _ hf0
      clear eU hf
      refine tkx (i := 0) (v := ?_) hS ?_ ?_
      rotate_left
      ·rintro w' ⟨u0, u1, u2, u3, u4, u5, z0, z1, z2, z3, z4, z5⟩
       go_simp
       try with_reducible rfl
      try simp only [Act.put, zq1, zq2, zq3, zq4, zq5, zq6]
      refine tkx (i := 2) (v := ?_) hS ?_ ?_
      rotate_left
      ·rintro w' ⟨u0, u1, u2, u3, u4, u5, z0, z1, z2, z3, z4, z5⟩
       go_simp
       try with_reducible rfl
      try simp only [Act.put, zq1, zq2, zq3, zq4, zq5, zq6]
      have hcx := HRXA.out U (HBW.out.trans (hf0.below.mono HBW.out.size)) _ _ hf0.t0
      refine anyX_g (i := 1) (by kernel_rfl) (by decide) rfl (by rfl) ?_
      intro K hK
      try simp only [zq1, zq2, zq3]
      refine wp_enterE #[.agg #[.int .i64 k2, .int .i64 lo2, .int .i64 hi2, .int .i64 wt2, .string nm2, .slice A2 n2 c2]] Tryz.func20 (by kernel_rfl) (by kernel_rfl) ?_ (hcx) ?_
      ·go_simp
      rintro e U1 ⟨rfl, hb1⟩
      refine ⟨_, rfl, ?_⟩
      have hf1 := hf0.bel hb1
      have hS1 := HK10.out _ hf1
      refine hK _ _ hS1 ?_
      clear hK
      try simp only [Act.put, zq1, zq2, zq3, zq4, zq5, zq6]
      have hcy := HRXB.out U1 (HBW.out.trans (hf1.below.mono HBW.out.size)) _ _ hf1.t1
      refine anyX_g (i := 3) (by kernel_rfl) (by decide) rfl (by rfl) ?_
      intro K hK
      try simp only [zq1, zq2, zq3]
      refine wp_enterE #[.agg #[.int .i64 k3, .int .i64 lo3, .int .i64 hi3, .int .i64 wt3, .string nm3, .slice A3 n3 c3]] Tryz.func20 (by kernel_rfl) (by kernel_rfl) ?_ (hcy) ?_
      ·go_simp
      rintro e U2 ⟨rfl, hb2⟩
      refine ⟨_, rfl, ?_⟩
      have hf2 := hf1.bel hb2
      have hS2 := HK10.out _ hf2
      refine hK _ _ hS2 ?_
      clear hK
      try simp only [Act.put, zq1, zq2, zq3, zq4, zq5, zq6]
      refine tkx (i := 4) (v := ?_) hS2 ?_ ?_
      rotate_left
      ·rintro w' ⟨u0, u1, u2, u3, u4, u5, z0, z1, z2, z3, z4, z5⟩
       go_simp
       try with_reducible rfl
      try simp only [Act.put, zq1, zq2, zq3, zq4, zq5, zq6]
      have HF2 := Lib.hid hf2
      clear hS hS1 hS2 hf0 hf1 hf2 hb1 hb2 hcx hcy
      refine anyX_last (by kernel_rfl) (by kernel_rfl) rfl rfl ?_
      try simp only [zq1, zq2, zq3]
      go_simp
      try apply_assumption
      clear HRXA HRXB HK10
      have g1 : ¬ 9223372036854775807 < td.size + 10 := by omega
      have g2 : ¬ 9223372036854775807 < td.size + 10 + tx.size := by omega
      have g3 : ¬ 9223372036854775807 < td.size + 10 + tx.size + 3 := by omega
      have g4 : ¬ 9223372036854775807 < td.size + 10 + tx.size + 3 + ty.size := by omega
      have g5 : ¬ 9223372036854775807 < td.size + 10 + tx.size + 3 + ty.size + 1 := by omega
      have hpa := parse_any U2 (td ++ ⟨#[104, 121, 112, 104, 101, 110, 32, 55, 58, 32]⟩ ++ tx ++ ⟨#[32, 47, 32]⟩ ++ ty ++ ⟨#[59]⟩) (HE.out.below (HBW.out.trans (HF2.out.below.mono HBW.out.size)))
      have HPA := Lib.hid hpa; clear hpa
      go_wp2_with fail
      refine HPA.out.mono ?_
      rintro e W14 ⟨zd, zr, P, rfl, hP, hzd, hzr, hb14⟩
      rw [show (td ++ ⟨#[104, 121, 112, 104, 101, 110, 32, 55, 58, 32]⟩ ++ tx ++ ⟨#[32, 47, 32]⟩ ++ ty ++ ⟨#[59]⟩ : ByteArray).data.toList = defsText defs4 ++ hyphen7 ++ X ++ slash3 ++ Y ++ [59] from by simp [HTD.out, HTX.out, HTY.out, hyphen7, slash3]] at hP
      rw [HPV.out] at hP
      subst hP
      dsimp only at hzd hzr ⊢
      obtain ⟨gr, rc, x, rfl, hrc1, hrc2, hrc, hrr⟩ := RulesOwn.one hzr
      obtain ⟨zA, zc, rfl, -, -, -⟩ := hzd.form
      obtain ⟨cat, cost, k4, lo4, hi4, wt4, nm4, A4, n4, c4, k5, lo5, hi5, wt5, nm5, A5, n5, c5⟩ := x
      have htl : TreeV true W14 (fun g => g < W14.heap.size) (.agg #[.int .i64 k4, .int .i64 lo4, .int .i64 hi4, .int .i64 wt4, .string nm4, .slice A4 n4 c4]) ta := hrr.2.2.1
      have htr : TreeV true W14 (fun g => g < W14.heap.size) (.agg #[.int .i64 k5, .int .i64 lo5, .int .i64 hi5, .int .i64 wt5, .string nm5, .slice A5 n5 c5]) tb := hrr.2.2.2
      obtain ⟨nd, hnd⟩ : ∃ n, (defs4.map DefP.tree).length = n := ⟨_, rfl⟩
      rw [hnd]
      obtain ⟨W15, hW15⟩ : ∃ x, W14.alloc (.cells #[.slice zA nd zc, .slice (some ⟨gr, 0, none⟩) 1 rc] 28) = x := ⟨_, rfl⟩
      have hb15 : Below W14.heap.size W14 W15 := by rw [<- hW15]; exact (Below.refl _ _).alloc (Nat.le_refl _) _
      have xf : Blk W15 W14.heap.size 28 #[.slice zA nd zc, .slice (some ⟨gr, 0, none⟩) 1 rc] := by rw [<- hW15]; exact Blk.new _ _ _
      have hf15 := (HF2.out.bel hb14).bel hb15
      have htl := htl.bel (fun _ h => h) hb15
      have htr := htr.bel (fun _ h => h) hb15
      have hrc := hrc.bel hb15
      have HB15 := Lib.hid hb15; have HXF := Lib.hid xf; have HF15 := Lib.hid hf15; have HTL := Lib.hid htl; have HTR := Lib.hid htr; have HRC := Lib.hid hrc
      clear hb14 hzd hzr hb15 xf hf15 htl htr hrc hrr HPA HF2 HPV g1 g2 g3 g4 g5 hnd
      go_wp2_with fail
      try rw [hW15]
      obtain ⟨F, hF⟩ : ∃ F, W14.heap.size = F := ⟨_, rfl⟩
      rw [hF] at HXF ⊢
      clear hW15 hF
      have hbx0 : BoxX wr ta tb G5 G6 #[.int .i64 k2, .int .i64 lo2, .int .i64 hi2, .int .i64 wt2, .string nm2, .slice A2 n2 c2] #[.int .i64 k3, .int .i64 lo3, .int .i64 hi3, .int .i64 wt3, .string nm3, .slice A3 n3 c3] F #[.slice zA nd zc, .slice (some ⟨gr, 0, none⟩) 1 rc] gr [.int .i64 cat, .int .i64 cost, .int .i64 k4, .int .i64 lo4, .int .i64 hi4, .int .i64 wt4, .string nm4, .slice A4 n4 c4, .int .i64 k5, .int .i64 lo5, .int .i64 hi5, .int .i64 wt5, .string nm5, .slice A5 n5 c5] W15 := ⟨HF15.out, HXF.out, HRC.out⟩
      have hKS : ∀ W : World, BoxX wr ta tb G5 G6 #[.int .i64 k2, .int .i64 lo2, .int .i64 hi2, .int .i64 wt2, .string nm2, .slice A2 n2 c2] #[.int .i64 k3, .int .i64 lo3, .int .i64 hi3, .int .i64 wt3, .string nm3, .slice A3 n3 c3] F #[.slice zA nd zc, .slice (some ⟨gr, 0, none⟩) 1 rc] gr [.int .i64 cat, .int .i64 cost, .int .i64 k4, .int .i64 lo4, .int .i64 hi4, .int .i64 wt4, .string nm4, .slice A4 n4 c4, .int .i64 k5, .int .i64 lo5, .int .i64 hi5, .int .i64 wt5, .string nm5, .slice A5 n5 c5] W -> (fun w' : World => w'.cell? ⟨G5, 0, none⟩ = some (.int .i64 k2) /\ w'.cell? ⟨G5, 1, none⟩ = some (.int .i64 lo2) /\ w'.cell? ⟨G5, 2, none⟩ = some (.int .i64 hi2) /\ w'.cell? ⟨G5, 3, none⟩ = some (.int .i64 wt2) /\ w'.cell? ⟨G5, 4, none⟩ = some (.string nm2) /\ w'.cell? ⟨G5, 5, none⟩ = some (.slice A2 n2 c2) /\ w'.cell? ⟨G6, 0, none⟩ = some (.int .i64 k3) /\ w'.cell? ⟨G6, 1, none⟩ = some (.int .i64 lo3) /\ w'.cell? ⟨G6, 2, none⟩ = some (.int .i64 hi3) /\ w'.cell? ⟨G6, 3, none⟩ = some (.int .i64 wt3) /\ w'.cell? ⟨G6, 4, none⟩ = some (.string nm3) /\ w'.cell? ⟨G6, 5, none⟩ = some (.slice A3 n3 c3) /\ w'.cell? ⟨F, 1, none⟩ = some (.slice (some ⟨gr, 0, none⟩) 1 rc) /\ w'.cell? ⟨gr, 2, none⟩ = some (.int .i64 k4) /\ w'.cell? ⟨gr, 3, none⟩ = some (.int .i64 lo4) /\ w'.cell? ⟨gr, 4, none⟩ = some (.int .i64 hi4) /\ w'.cell? ⟨gr, 5, none⟩ = some (.int .i64 wt4) /\ w'.cell? ⟨gr, 6, none⟩ = some (.string nm4) /\ w'.cell? ⟨gr, 7, none⟩ = some (.slice A4 n4 c4) /\ w'.cell? ⟨gr, 8, none⟩ = some (.int .i64 k5) /\ w'.cell? ⟨gr, 9, none⟩ = some (.int .i64 lo5) /\ w'.cell? ⟨gr, 10, none⟩ = some (.int .i64 hi5) /\ w'.cell? ⟨gr, 11, none⟩ = some (.int .i64 wt5) /\ w'.cell? ⟨gr, 12, none⟩ = some (.string nm5) /\ w'.cell? ⟨gr, 13, none⟩ = some (.slice A5 n5 c5)) W := fun W hW => by
       have hc := hW.r
       have e := fun k v (h : ([.int .i64 cat, .int .i64 cost, .int .i64 k4, .int .i64 lo4, .int .i64 hi4, .int .i64 wt4, .string nm4, .slice A4 n4 c4, .int .i64 k5, .int .i64 lo5, .int .i64 hi5, .int .i64 wt5, .string nm5, .slice A5 n5 c5] : List Value)[k]? = some v) => hc k v h
       have e2 := e 2 _ rfl
       have e3 := e 3 _ rfl
       have e4 := e 4 _ rfl
       have e5 := e 5 _ rfl
       have e6 := e 6 _ rfl
       have e7 := e 7 _ rfl
       have e8 := e 8 _ rfl
       have e9 := e 9 _ rfl
       have e10 := e 10 _ rfl
       have e11 := e 11 _ rfl
       have e12 := e 12 _ rfl
       have e13 := e 13 _ rfl
       simp only [Nat.zero_add] at e2 e3 e4 e5 e6 e7 e8 e9 e10 e11 e12 e13
       exact ⟨Blk.cell hW.t.x5 0, Blk.cell hW.t.x5 1, Blk.cell hW.t.x5 2, Blk.cell hW.t.x5 3, Blk.cell hW.t.x5 4, Blk.cell hW.t.x5 5, Blk.cell hW.t.x6 0, Blk.cell hW.t.x6 1, Blk.cell hW.t.x6 2, Blk.cell hW.t.x6 3, Blk.cell hW.t.x6 4, Blk.cell hW.t.x6 5, Blk.cell hW.f 1, e2, e3, e4, e5, e6, e7, e8, e9, e10, e11, e12, e13⟩
      have HKS2 := Lib.hid hKS; clear hKS HXF HRC HF15
      have hbx := hbx0.drew
      obtain ⟨U, eU⟩ : ∃ U, W15.drew = U := ⟨_, rfl⟩
      have hbU : Below W15.heap.size W15 U := by rw [<- eU]; exact (Below.refl _ _).drew
      refine region_x 47 (fun w' : World => w'.cell? ⟨G5, 0, none⟩ = some (.int .i64 k2) /\ w'.cell? ⟨G5, 1, none⟩ = some (.int .i64 lo2) /\ w'.cell? ⟨G5, 2, none⟩ = some (.int .i64 hi2) /\ w'.cell? ⟨G5, 3, none⟩ = some (.int .i64 wt2) /\ w'.cell? ⟨G5, 4, none⟩ = some (.string nm2) /\ w'.cell? ⟨G5, 5, none⟩ = some (.slice A2 n2 c2) /\ w'.cell? ⟨G6, 0, none⟩ = some (.int .i64 k3) /\ w'.cell? ⟨G6, 1, none⟩ = some (.int .i64 lo3) /\ w'.cell? ⟨G6, 2, none⟩ = some (.int .i64 hi3) /\ w'.cell? ⟨G6, 3, none⟩ = some (.int .i64 wt3) /\ w'.cell? ⟨G6, 4, none⟩ = some (.string nm3) /\ w'.cell? ⟨G6, 5, none⟩ = some (.slice A3 n3 c3) /\ w'.cell? ⟨F, 1, none⟩ = some (.slice (some ⟨gr, 0, none⟩) 1 rc) /\ w'.cell? ⟨gr, 2, none⟩ = some (.int .i64 k4) /\ w'.cell? ⟨gr, 3, none⟩ = some (.int .i64 lo4) /\ w'.cell? ⟨gr, 4, none⟩ = some (.int .i64 hi4) /\ w'.cell? ⟨gr, 5, none⟩ = some (.int .i64 wt4) /\ w'.cell? ⟨gr, 6, none⟩ = some (.string nm4) /\ w'.cell? ⟨gr, 7, none⟩ = some (.slice A4 n4 c4) /\ w'.cell? ⟨gr, 8, none⟩ = some (.int .i64 k5) /\ w'.cell? ⟨gr, 9, none⟩ = some (.int .i64 lo5) /\ w'.cell? ⟨gr, 10, none⟩ = some (.int .i64 hi5) /\ w'.cell? ⟨gr, 11, none⟩ = some (.int .i64 wt5) /\ w'.cell? ⟨gr, 12, none⟩ = some (.string nm5) /\ w'.cell? ⟨gr, 13, none⟩ = some (.slice A5 n5 c5)) (by kernel_rfl) ?_
      rw [eU] at hbx ⊢
      have hS := HKS2.out _ hbx
      clear eU hbx0
      have htl := HTL.out.bel (fun _ h => h) hbU
      have htr := HTR.out.bel (fun _ h => h) hbU
      clear hbU
      refine anyX_takeG [3, 4, 9, 10] (i := 0) (v := ?_) rfl (by kernel_rfl) (by kernel_rfl) (by kernel_rfl) (by kernel_rfl) (by kernel_rfl) (fun _ _ _ h => h) (Or.inl ⟨by rfl, ?_⟩) hS ?_
      rotate_left
      ·rintro w' ⟨u0, u1, u2, u3, u4, u5, z0, z1, z2, z3, z4, z5, f1, y2, y3, y4, y5, y6, y7, y8, y9, y10, y11, y12, y13⟩
       go_simp
       try with_reducible rfl
      try simp only [Act.put, zq1, zq2, zq3, zq4, zq5, zq6]
      refine anyX_takeG [2, 4, 9, 10] (i := 1) (v := ?_) rfl (by kernel_rfl) (by kernel_rfl) (by kernel_rfl) (by kernel_rfl) (by kernel_rfl) (fun _ _ _ h => h) (Or.inl ⟨by rfl, ?_⟩) hS ?_
      rotate_left
      ·rintro w' ⟨u0, u1, u2, u3, u4, u5, z0, z1, z2, z3, z4, z5, f1, y2, y3, y4, y5, y6, y7, y8, y9, y10, y11, y12, y13⟩
       go_simp
       try with_reducible rfl
      try simp only [Act.put, zq1, zq2, zq3, zq4, zq5, zq6]
      have hcx := HRFA.out U (HBW.out.trans (hbx.t.below.mono HBW.out.size)) _ _ hbx.t.t0
      refine anyX_g (i := 2) (by kernel_rfl) (by decide) rfl (by rfl) ?_
      intro K hK
      try simp only [zq1, zq2, zq3]
      refine wp_enterE #[.agg #[.int .i64 k2, .int .i64 lo2, .int .i64 hi2, .int .i64 wt2, .string nm2, .slice A2 n2 c2]] Tryz.func22 (by kernel_rfl) (by kernel_rfl) ?_ (hcx) ?_
      ·go_simp
      rintro e U1 ⟨t1, rfl, ht1, hz1, hb1⟩
      refine ⟨_, rfl, ?_⟩
      obtain rfl : t1 = tx := bytes_ext (by rw [ht1, HTX.out])
      have hbx1 := hbx.bel hb1
      have hS1 := HKS2.out _ hbx1
      have htl := htl.bel (fun _ h => h) hb1
      have htr := htr.bel (fun _ h => h) hb1
      clear ht1 hz1 hb1
      refine hK _ _ hS1 ?_
      clear hK
      try simp only [Act.put, zq1, zq2, zq3, zq4, zq5, zq6]
      refine anyX_takeG [4, 9, 10] (i := 3) (v := .bool false) rfl (by kernel_rfl) (by kernel_rfl) (by kernel_rfl) (by kernel_rfl) (by kernel_rfl) (fun _ _ _ h => h) (Or.inl ⟨by rfl, ?_⟩) hS1 ?_
      ·rintro w' ⟨u0, u1, u2, u3, u4, u5, z0, z1, z2, z3, z4, z5, f1, y2, y3, y4, y5, y6, y7, y8, y9, y10, y11, y12, y13⟩
       go_simp
       try with_reducible rfl
      try simp only [Act.put, zq1, zq2, zq3, zq4, zq5, zq6]
      refine anyX_takeG [9, 10] (i := 4) (v := ?_) rfl (by kernel_rfl) (by kernel_rfl) (by kernel_rfl) (by kernel_rfl) (by kernel_rfl) (fun _ _ _ h => h) (Or.inl ⟨by rfl, ?_⟩) hS1 ?_
      rotate_left
      ·rintro w' ⟨u0, u1, u2, u3, u4, u5, z0, z1, z2, z3, z4, z5, f1, y2, y3, y4, y5, y6, y7, y8, y9, y10, y11, y12, y13⟩
       go_simp
       try with_reducible rfl
      try simp only [Act.put, zq1, zq2, zq3, zq4, zq5, zq6]
      refine anyX_takeG [8, 9, 10] (i := 5) (v := ?_) rfl (by kernel_rfl) (by kernel_rfl) (by kernel_rfl) (by kernel_rfl) (by kernel_rfl) (fun _ _ _ h => h) (Or.inl ⟨by rfl, ?_⟩) hS1 ?_
      rotate_left
      ·rintro w' ⟨u0, u1, u2, u3, u4, u5, z0, z1, z2, z3, z4, z5, f1, y2, y3, y4, y5, y6, y7, y8, y9, y10, y11, y12, y13⟩
       go_simp
       try with_reducible rfl
      try simp only [Act.put, zq1, zq2, zq3, zq4, zq5, zq6]
      refine anyX_takeG [7, 10] (i := 6) (v := ?_) rfl (by kernel_rfl) (by kernel_rfl) (by kernel_rfl) (by kernel_rfl) (by kernel_rfl) (fun _ _ _ h => h) (Or.inl ⟨by rfl, ?_⟩) hS1 ?_
      rotate_left
      ·rintro w' ⟨u0, u1, u2, u3, u4, u5, z0, z1, z2, z3, z4, z5, f1, y2, y3, y4, y5, y6, y7, y8, y9, y10, y11, y12, y13⟩
       go_simp
       try with_reducible rfl
      try simp only [Act.put, zq1, zq2, zq3, zq4, zq5, zq6]
      have hcy := HRFB.out U1 (HBW.out.trans (hbx1.t.below.mono HBW.out.size)) _ _ hbx1.t.t1
      refine anyX_g (i := 7) (by kernel_rfl) (by decide) rfl (by rfl) ?_
      intro K hK
      try simp only [zq1, zq2, zq3]
      refine wp_enterE #[.agg #[.int .i64 k3, .int .i64 lo3, .int .i64 hi3, .int .i64 wt3, .string nm3, .slice A3 n3 c3]] Tryz.func22 (by kernel_rfl) (by kernel_rfl) ?_ (hcy) ?_
      ·go_simp
      rintro e U2 ⟨t2, rfl, ht2, hz2, hb2⟩
      refine ⟨_, rfl, ?_⟩
      obtain rfl : t2 = ty := bytes_ext (by rw [ht2, HTY.out])
      have hbx2 := hbx1.bel hb2
      have hS2 := HKS2.out _ hbx2
      have htl := htl.bel (fun _ h => h) hb2
      have htr := htr.bel (fun _ h => h) hb2
      clear ht2 hz2 hb2
      refine hK _ _ hS2 ?_
      clear hK
      try simp only [Act.put, zq1, zq2, zq3, zq4, zq5, zq6]
      refine anyX_takeG [9, 10] (i := 8) (v := .bool false) rfl (by kernel_rfl) (by kernel_rfl) (by kernel_rfl) (by kernel_rfl) (by kernel_rfl) (fun _ _ _ h => h) (Or.inl ⟨by rfl, ?_⟩) hS2 ?_
      ·rintro w' ⟨u0, u1, u2, u3, u4, u5, z0, z1, z2, z3, z4, z5, f1, y2, y3, y4, y5, y6, y7, y8, y9, y10, y11, y12, y13⟩
       go_simp
       try with_reducible rfl
      try simp only [Act.put, zq1, zq2, zq3, zq4, zq5, zq6]
      refine anyX_takeG [10] (i := 9) (v := ?_) rfl (by kernel_rfl) (by kernel_rfl) (by kernel_rfl) (by kernel_rfl) (by kernel_rfl) (fun _ _ _ h => h) (Or.inl ⟨by rfl, ?_⟩) hS2 ?_
      rotate_left
      ·rintro w' ⟨u0, u1, u2, u3, u4, u5, z0, z1, z2, z3, z4, z5, f1, y2, y3, y4, y5, y6, y7, y8, y9, y10, y11, y12, y13⟩
       go_simp
       try with_reducible rfl
      try simp only [Act.put, zq1, zq2, zq3, zq4, zq5, zq6]
      refine anyX_takeG [] (i := 10) (v := ?_) rfl (by kernel_rfl) (by kernel_rfl) (by kernel_rfl) (by kernel_rfl) (by kernel_rfl) (fun _ _ _ h => h) (Or.inl ⟨by rfl, ?_⟩) hS2 ?_
      rotate_left
      ·rintro w' ⟨u0, u1, u2, u3, u4, u5, z0, z1, z2, z3, z4, z5, f1, y2, y3, y4, y5, y6, y7, y8, y9, y10, y11, y12, y13⟩
       go_simp
       try with_reducible rfl
      try simp only [Act.put, zq1, zq2, zq3, zq4, zq5, zq6]
      refine anyX_takeG [12, 15, 16, 17, 46] (i := 11) (v := ?_) rfl (by kernel_rfl) (by kernel_rfl) (by kernel_rfl) (by kernel_rfl) (by kernel_rfl) (fun _ _ _ h => h) (Or.inl ⟨by rfl, ?_⟩) hS2 ?_
      rotate_left
      ·rintro w' ⟨u0, u1, u2, u3, u4, u5, z0, z1, z2, z3, z4, z5, f1, y2, y3, y4, y5, y6, y7, y8, y9, y10, y11, y12, y13⟩
       go_simp
       try with_reducible rfl
      try simp only [Act.put, zq1, zq2, zq3, zq4, zq5, zq6]
      refine anyX_takeG [15, 16, 17, 46] (i := 12) (v := ?_) rfl (by kernel_rfl) (by kernel_rfl) (by kernel_rfl) (by kernel_rfl) (by kernel_rfl) (fun _ _ _ h => h) (Or.inl ⟨by rfl, ?_⟩) hS2 ?_
      rotate_left
      ·rintro w' ⟨u0, u1, u2, u3, u4, u5, z0, z1, z2, z3, z4, z5, f1, y2, y3, y4, y5, y6, y7, y8, y9, y10, y11, y12, y13⟩
       go_simp
       try with_reducible rfl
      try simp only [Act.put, zq1, zq2, zq3, zq4, zq5, zq6]
      refine anyX_takeG [14, 15, 16, 17, 46] (i := 13) (v := ?_) rfl (by kernel_rfl) (by kernel_rfl) (by kernel_rfl) (by kernel_rfl) (by kernel_rfl) (fun _ _ _ h => h) (Or.inl ⟨by rfl, ?_⟩) hS2 ?_
      rotate_left
      ·rintro w' ⟨u0, u1, u2, u3, u4, u5, z0, z1, z2, z3, z4, z5, f1, y2, y3, y4, y5, y6, y7, y8, y9, y10, y11, y12, y13⟩
       go_simp
       try with_reducible rfl
      try simp only [Act.put, zq1, zq2, zq3, zq4, zq5, zq6]
      refine anyX_takeG [15, 16, 17, 46] (i := 14) (v := ?_) rfl (by kernel_rfl) (by kernel_rfl) (by kernel_rfl) (by kernel_rfl) (by kernel_rfl) (fun _ _ _ h => h) (Or.inl ⟨by rfl, ?_⟩) hS2 ?_
      rotate_left
      ·rintro w' ⟨u0, u1, u2, u3, u4, u5, z0, z1, z2, z3, z4, z5, f1, y2, y3, y4, y5, y6, y7, y8, y9, y10, y11, y12, y13⟩
       go_simp
       try with_reducible rfl
      try simp only [Act.put, zq1, zq2, zq3, zq4, zq5, zq6]
      refine anyX_takeG [16, 17, 46] (i := 15) (v := .int .i64 (IntKind.i64.wrap ((t1.size : Int) + (t2.size : Int)))) rfl (by kernel_rfl) (by kernel_rfl) (by kernel_rfl) (by kernel_rfl) (by kernel_rfl) (fun _ _ _ h => h) (Or.inl ⟨by rfl, ?_⟩) hS2 ?_
      ·rintro w' ⟨u0, u1, u2, u3, u4, u5, z0, z1, z2, z3, z4, z5, f1, y2, y3, y4, y5, y6, y7, y8, y9, y10, y11, y12, y13⟩
       go_simp
       try with_reducible rfl
      try simp only [Act.put, zq1, zq2, zq3, zq4, zq5, zq6]
      rw [HLS.out]
      have hl3 : (t1.size : Int) + (t2.size : Int) < 3000 := by omega
      refine anyX_takeG [17, 46] (i := 16) (v := .bool true) rfl (by kernel_rfl) (by kernel_rfl) (by kernel_rfl) (by kernel_rfl) (by kernel_rfl) (fun _ _ _ h => h) (Or.inl ⟨by rfl, ?_⟩) hS2 ?_
      ·rintro w' ⟨u0, u1, u2, u3, u4, u5, z0, z1, z2, z3, z4, z5, f1, y2, y3, y4, y5, y6, y7, y8, y9, y10, y11, y12, y13⟩
       go_simp
       try with_reducible rfl
      try simp only [Act.put, zq1, zq2, zq3, zq4, zq5, zq6]
      clear hl3
      refine anyX_takeG [46] (i := 17) (v := ?_) rfl (by kernel_rfl) (by kernel_rfl) (by kernel_rfl) (by kernel_rfl) (by kernel_rfl) (fun _ _ _ h => h) (Or.inl ⟨by rfl, ?_⟩) hS2 ?_
      rotate_left
      ·rintro w' ⟨u0, u1, u2, u3, u4, u5, z0, z1, z2, z3, z4, z5, f1, y2, y3, y4, y5, y6, y7, y8, y9, y10, y11, y12, y13⟩
       go_simp
       try with_reducible rfl
      try simp only [Act.put, zq1, zq2, zq3, zq4, zq5, zq6]
      refine anyX_takeG [19, 20, 26, 35, 36, 45, 46] (i := 18) (v := ?_) rfl (by kernel_rfl) (by kernel_rfl) (by kernel_rfl) (by kernel_rfl) (by kernel_rfl) (fun _ _ _ h => h) (Or.inl ⟨by rfl, ?_⟩) hS2 ?_
      rotate_left
      ·rintro w' ⟨u0, u1, u2, u3, u4, u5, z0, z1, z2, z3, z4, z5, f1, y2, y3, y4, y5, y6, y7, y8, y9, y10, y11, y12, y13⟩
       go_simp
       try with_reducible rfl
      try simp only [Act.put, zq1, zq2, zq3, zq4, zq5, zq6]
      refine anyX_takeG [20, 26, 35, 36, 45, 46] (i := 19) (v := ?_) rfl (by kernel_rfl) (by kernel_rfl) (by kernel_rfl) (by kernel_rfl) (by kernel_rfl) (fun _ _ _ h => h) (Or.inl ⟨by rfl, ?_⟩) hS2 ?_
      rotate_left
      ·rintro w' ⟨u0, u1, u2, u3, u4, u5, z0, z1, z2, z3, z4, z5, f1, y2, y3, y4, y5, y6, y7, y8, y9, y10, y11, y12, y13⟩
       go_simp
       try with_reducible rfl
      try simp only [Act.put, zq1, zq2, zq3, zq4, zq5, zq6]
      refine anyX_takeG [26, 35, 36, 45, 46] (i := 20) (v := ?_) rfl (by kernel_rfl) (by kernel_rfl) (by kernel_rfl) (by kernel_rfl) (by kernel_rfl) (fun _ _ _ h => h) (Or.inl ⟨by rfl, ?_⟩) hS2 ?_
      rotate_left
      ·rintro w' ⟨u0, u1, u2, u3, u4, u5, z0, z1, z2, z3, z4, z5, f1, y2, y3, y4, y5, y6, y7, y8, y9, y10, y11, y12, y13⟩
       go_simp
       try with_reducible rfl
      try simp only [Act.put, zq1, zq2, zq3, zq4, zq5, zq6]
      refine anyX_takeG [22, 23, 24, 25, 26, 35, 36, 45, 46] (i := 21) (v := ?_) rfl (by kernel_rfl) (by kernel_rfl) (by kernel_rfl) (by kernel_rfl) (by kernel_rfl) (fun _ _ _ h => h) (Or.inl ⟨by rfl, ?_⟩) hS2 ?_
      rotate_left
      ·rintro w' ⟨u0, u1, u2, u3, u4, u5, z0, z1, z2, z3, z4, z5, f1, y2, y3, y4, y5, y6, y7, y8, y9, y10, y11, y12, y13⟩
       go_simp
       try with_reducible rfl
      try simp only [Act.put, zq1, zq2, zq3, zq4, zq5, zq6]
      refine anyX_takeG [23, 24, 25, 26, 35, 36, 45, 46] (i := 22) (v := ?_) rfl (by kernel_rfl) (by kernel_rfl) (by kernel_rfl) (by kernel_rfl) (by kernel_rfl) (fun _ _ _ h => h) (Or.inl ⟨by rfl, ?_⟩) hS2 ?_
      rotate_left
      ·rintro w' ⟨u0, u1, u2, u3, u4, u5, z0, z1, z2, z3, z4, z5, f1, y2, y3, y4, y5, y6, y7, y8, y9, y10, y11, y12, y13⟩
       go_simp
       try with_reducible rfl
      try simp only [Act.put, zq1, zq2, zq3, zq4, zq5, zq6]
      refine anyX_takeG [24, 25, 26, 35, 36, 45, 46] (i := 23) (v := ?_) rfl (by kernel_rfl) (by kernel_rfl) (by kernel_rfl) (by kernel_rfl) (by kernel_rfl) (fun _ _ _ h => h) (Or.inl ⟨by rfl, ?_⟩) hS2 ?_
      rotate_left
      ·rintro w' ⟨u0, u1, u2, u3, u4, u5, z0, z1, z2, z3, z4, z5, f1, y2, y3, y4, y5, y6, y7, y8, y9, y10, y11, y12, y13⟩
       go_simp
       try with_reducible rfl
      try simp only [Act.put, zq1, zq2, zq3, zq4, zq5, zq6]
      refine anyX_takeG [25, 26, 35, 36, 45, 46] (i := 24) (v := ?_) rfl (by kernel_rfl) (by kernel_rfl) (by kernel_rfl) (by kernel_rfl) (by kernel_rfl) (fun _ _ _ h => h) (Or.inl ⟨by rfl, ?_⟩) hS2 ?_
      rotate_left
      ·rintro w' ⟨u0, u1, u2, u3, u4, u5, z0, z1, z2, z3, z4, z5, f1, y2, y3, y4, y5, y6, y7, y8, y9, y10, y11, y12, y13⟩
       go_simp
       try with_reducible rfl
      try simp only [Act.put, zq1, zq2, zq3, zq4, zq5, zq6]
      refine anyX_takeG [26, 35, 36, 45, 46] (i := 25) (v := ?_) rfl (by kernel_rfl) (by kernel_rfl) (by kernel_rfl) (by kernel_rfl) (by kernel_rfl) (fun _ _ _ h => h) (Or.inl ⟨by rfl, ?_⟩) hS2 ?_
      rotate_left
      ·rintro w' ⟨u0, u1, u2, u3, u4, u5, z0, z1, z2, z3, z4, z5, f1, y2, y3, y4, y5, y6, y7, y8, y9, y10, y11, y12, y13⟩
       go_simp
       try with_reducible rfl
      try simp only [Act.put, zq1, zq2, zq3, zq4, zq5, zq6]
      refine anyX_takeG [35, 36, 45, 46] (i := 26) (v := ?_) rfl (by kernel_rfl) (by kernel_rfl) (by kernel_rfl) (by kernel_rfl) (by kernel_rfl) (fun _ _ _ h => h) (Or.inl ⟨by rfl, ?_⟩) hS2 ?_
      rotate_left
      ·rintro w' ⟨u0, u1, u2, u3, u4, u5, z0, z1, z2, z3, z4, z5, f1, y2, y3, y4, y5, y6, y7, y8, y9, y10, y11, y12, y13⟩
       go_simp
       try with_reducible rfl
      try simp only [Act.put, zq1, zq2, zq3, zq4, zq5, zq6]
      refine anyX_takeG [28, 29, 30, 31, 33, 36, 45, 46] (i := 27) (v := ?_) rfl (by kernel_rfl) (by kernel_rfl) (by kernel_rfl) (by kernel_rfl) (by kernel_rfl) (fun _ _ _ h => h) (Or.inl ⟨by rfl, ?_⟩) hS2 ?_
      rotate_left
      ·rintro w' ⟨u0, u1, u2, u3, u4, u5, z0, z1, z2, z3, z4, z5, f1, y2, y3, y4, y5, y6, y7, y8, y9, y10, y11, y12, y13⟩
       go_simp
       try with_reducible rfl
      try simp only [Act.put, zq1, zq2, zq3, zq4, zq5, zq6]
      refine anyX_takeG [29, 30, 31, 33, 36, 45, 46] (i := 28) (v := ?_) rfl (by kernel_rfl) (by kernel_rfl) (by kernel_rfl) (by kernel_rfl) (by kernel_rfl) (fun _ _ _ h => h) (Or.inl ⟨by rfl, ?_⟩) hS2 ?_
      rotate_left
      ·rintro w' ⟨u0, u1, u2, u3, u4, u5, z0, z1, z2, z3, z4, z5, f1, y2, y3, y4, y5, y6, y7, y8, y9, y10, y11, y12, y13⟩
       go_simp
       try with_reducible rfl
      try simp only [Act.put, zq1, zq2, zq3, zq4, zq5, zq6]
      refine anyX_takeG [30, 31, 33, 36, 45, 46] (i := 29) (v := ?_) rfl (by kernel_rfl) (by kernel_rfl) (by kernel_rfl) (by kernel_rfl) (by kernel_rfl) (fun _ _ _ h => h) (Or.inl ⟨by rfl, ?_⟩) hS2 ?_
      rotate_left
      ·rintro w' ⟨u0, u1, u2, u3, u4, u5, z0, z1, z2, z3, z4, z5, f1, y2, y3, y4, y5, y6, y7, y8, y9, y10, y11, y12, y13⟩
       go_simp
       try with_reducible rfl
      try simp only [Act.put, zq1, zq2, zq3, zq4, zq5, zq6]
      refine anyX_takeG [31, 33, 36, 45, 46] (i := 30) (v := ?_) rfl (by kernel_rfl) (by kernel_rfl) (by kernel_rfl) (by kernel_rfl) (by kernel_rfl) (fun _ _ _ h => h) (Or.inl ⟨by rfl, ?_⟩) hS2 ?_
      rotate_left
      ·rintro w' ⟨u0, u1, u2, u3, u4, u5, z0, z1, z2, z3, z4, z5, f1, y2, y3, y4, y5, y6, y7, y8, y9, y10, y11, y12, y13⟩
       go_simp
       try with_reducible rfl
      try simp only [Act.put, zq1, zq2, zq3, zq4, zq5, zq6]
      refine anyX_takeG [33, 36, 45, 46] (i := 31) (v := ?_) rfl (by kernel_rfl) (by kernel_rfl) (by kernel_rfl) (by kernel_rfl) (by kernel_rfl) (fun _ _ _ h => h) (Or.inl ⟨by rfl, ?_⟩) hS2 ?_
      rotate_left
      ·rintro w' ⟨u0, u1, u2, u3, u4, u5, z0, z1, z2, z3, z4, z5, f1, y2, y3, y4, y5, y6, y7, y8, y9, y10, y11, y12, y13⟩
       go_simp
       try with_reducible rfl
      try simp only [Act.put, zq1, zq2, zq3, zq4, zq5, zq6]
      refine anyX_takeG [33, 36, 45, 46] (i := 32) (v := ?_) rfl (by kernel_rfl) (by kernel_rfl) (by kernel_rfl) (by kernel_rfl) (by kernel_rfl) (fun _ _ _ h => h) (Or.inl ⟨by rfl, ?_⟩) hS2 ?_
      rotate_left
      ·rintro w' ⟨u0, u1, u2, u3, u4, u5, z0, z1, z2, z3, z4, z5, f1, y2, y3, y4, y5, y6, y7, y8, y9, y10, y11, y12, y13⟩
       go_simp
       try with_reducible rfl
      try simp only [Act.put, zq1, zq2, zq3, zq4, zq5, zq6]
      have hc1 := HSRA.out U2 _ _ _ _ htl hbx2.t.t0
      refine anyX_g (i := 33) (by kernel_rfl) (by decide) rfl (by rfl) ?_
      intro K hK
      try simp only [zq1, zq2, zq3]
      refine wp_enterE #[.agg #[.int .i64 k4, .int .i64 lo4, .int .i64 hi4, .int .i64 wt4, .string nm4, .slice A4 n4 c4], .agg #[.int .i64 k2, .int .i64 lo2, .int .i64 hi2, .int .i64 wt2, .string nm2, .slice A2 n2 c2]] Tryz.func23 (by kernel_rfl) (by kernel_rfl) ?_ (hc1) ?_
      ·go_simp
      rintro e U3 ⟨rfl, hb3⟩
      refine ⟨_, rfl, ?_⟩
      have hbx3 := hbx2.bel hb3
      have hS3 := HKS2.out _ hbx3
      have htr := htr.bel (fun _ h => h) hb3
      refine hK _ _ hS3 ?_
      clear hK
      try simp only [Act.put, zq1, zq2, zq3, zq4, zq5, zq6]
      refine anyX_takeG [35, 36, 45, 46] (i := 34) (v := ?_) rfl (by kernel_rfl) (by kernel_rfl) (by kernel_rfl) (by kernel_rfl) (by kernel_rfl) (fun _ _ _ h => h) (Or.inl ⟨by rfl, ?_⟩) hS3 ?_
      rotate_left
      ·rintro w' ⟨u0, u1, u2, u3, u4, u5, z0, z1, z2, z3, z4, z5, f1, y2, y3, y4, y5, y6, y7, y8, y9, y10, y11, y12, y13⟩
       go_simp
       try with_reducible rfl
      try simp only [Act.put, zq1, zq2, zq3, zq4, zq5, zq6]
      refine anyX_takeG [36, 45, 46] (i := 35) (v := ?_) rfl (by kernel_rfl) (by kernel_rfl) (by kernel_rfl) (by kernel_rfl) (by kernel_rfl) (fun _ _ _ h => h) (Or.inl ⟨by rfl, ?_⟩) hS3 ?_
      rotate_left
      ·rintro w' ⟨u0, u1, u2, u3, u4, u5, z0, z1, z2, z3, z4, z5, f1, y2, y3, y4, y5, y6, y7, y8, y9, y10, y11, y12, y13⟩
       go_simp
       try with_reducible rfl
      try simp only [Act.put, zq1, zq2, zq3, zq4, zq5, zq6]
      refine anyX_takeG [45, 46] (i := 36) (v := ?_) rfl (by kernel_rfl) (by kernel_rfl) (by kernel_rfl) (by kernel_rfl) (by kernel_rfl) (fun _ _ _ h => h) (Or.inl ⟨by rfl, ?_⟩) hS3 ?_
      rotate_left
      ·rintro w' ⟨u0, u1, u2, u3, u4, u5, z0, z1, z2, z3, z4, z5, f1, y2, y3, y4, y5, y6, y7, y8, y9, y10, y11, y12, y13⟩
       go_simp
       try with_reducible rfl
      try simp only [Act.put, zq1, zq2, zq3, zq4, zq5, zq6]
      refine anyX_takeG [38, 39, 40, 41, 43, 44, 45, 46] (i := 37) (v := ?_) rfl (by kernel_rfl) (by kernel_rfl) (by kernel_rfl) (by kernel_rfl) (by kernel_rfl) (fun _ _ _ h => h) (Or.inl ⟨by rfl, ?_⟩) hS3 ?_
      rotate_left
      ·rintro w' ⟨u0, u1, u2, u3, u4, u5, z0, z1, z2, z3, z4, z5, f1, y2, y3, y4, y5, y6, y7, y8, y9, y10, y11, y12, y13⟩
       go_simp
       try with_reducible rfl
      try simp only [Act.put, zq1, zq2, zq3, zq4, zq5, zq6]
      refine anyX_takeG [39, 40, 41, 43, 44, 45, 46] (i := 38) (v := ?_) rfl (by kernel_rfl) (by kernel_rfl) (by kernel_rfl) (by kernel_rfl) (by kernel_rfl) (fun _ _ _ h => h) (Or.inl ⟨by rfl, ?_⟩) hS3 ?_
      rotate_left
      ·rintro w' ⟨u0, u1, u2, u3, u4, u5, z0, z1, z2, z3, z4, z5, f1, y2, y3, y4, y5, y6, y7, y8, y9, y10, y11, y12, y13⟩
       go_simp
       try with_reducible rfl
      try simp only [Act.put, zq1, zq2, zq3, zq4, zq5, zq6]
      refine anyX_takeG [40, 41, 43, 44, 45, 46] (i := 39) (v := ?_) rfl (by kernel_rfl) (by kernel_rfl) (by kernel_rfl) (by kernel_rfl) (by kernel_rfl) (fun _ _ _ h => h) (Or.inl ⟨by rfl, ?_⟩) hS3 ?_
      rotate_left
      ·rintro w' ⟨u0, u1, u2, u3, u4, u5, z0, z1, z2, z3, z4, z5, f1, y2, y3, y4, y5, y6, y7, y8, y9, y10, y11, y12, y13⟩
       go_simp
       try with_reducible rfl
      try simp only [Act.put, zq1, zq2, zq3, zq4, zq5, zq6]
      refine anyX_takeG [41, 43, 44, 45, 46] (i := 40) (v := ?_) rfl (by kernel_rfl) (by kernel_rfl) (by kernel_rfl) (by kernel_rfl) (by kernel_rfl) (fun _ _ _ h => h) (Or.inl ⟨by rfl, ?_⟩) hS3 ?_
      rotate_left
      ·rintro w' ⟨u0, u1, u2, u3, u4, u5, z0, z1, z2, z3, z4, z5, f1, y2, y3, y4, y5, y6, y7, y8, y9, y10, y11, y12, y13⟩
       go_simp
       try with_reducible rfl
      try simp only [Act.put, zq1, zq2, zq3, zq4, zq5, zq6]
      refine anyX_takeG [43, 44, 45, 46] (i := 41) (v := ?_) rfl (by kernel_rfl) (by kernel_rfl) (by kernel_rfl) (by kernel_rfl) (by kernel_rfl) (fun _ _ _ h => h) (Or.inl ⟨by rfl, ?_⟩) hS3 ?_
      rotate_left
      ·rintro w' ⟨u0, u1, u2, u3, u4, u5, z0, z1, z2, z3, z4, z5, f1, y2, y3, y4, y5, y6, y7, y8, y9, y10, y11, y12, y13⟩
       go_simp
       try with_reducible rfl
      try simp only [Act.put, zq1, zq2, zq3, zq4, zq5, zq6]
      refine anyX_takeG [43, 44, 45, 46] (i := 42) (v := ?_) rfl (by kernel_rfl) (by kernel_rfl) (by kernel_rfl) (by kernel_rfl) (by kernel_rfl) (fun _ _ _ h => h) (Or.inl ⟨by rfl, ?_⟩) hS3 ?_
      rotate_left
      ·rintro w' ⟨u0, u1, u2, u3, u4, u5, z0, z1, z2, z3, z4, z5, f1, y2, y3, y4, y5, y6, y7, y8, y9, y10, y11, y12, y13⟩
       go_simp
       try with_reducible rfl
      try simp only [Act.put, zq1, zq2, zq3, zq4, zq5, zq6]
      have hc2 := HSRB.out U3 _ _ _ _ htr hbx3.t.t1
      refine anyX_g (i := 43) (by kernel_rfl) (by decide) rfl (by rfl) ?_
      intro K hK
      try simp only [zq1, zq2, zq3]
      refine wp_enterE #[.agg #[.int .i64 k5, .int .i64 lo5, .int .i64 hi5, .int .i64 wt5, .string nm5, .slice A5 n5 c5], .agg #[.int .i64 k3, .int .i64 lo3, .int .i64 hi3, .int .i64 wt3, .string nm3, .slice A3 n3 c3]] Tryz.func23 (by kernel_rfl) (by kernel_rfl) ?_ (hc2) ?_
      ·go_simp
      rintro e U4 ⟨rfl, hb4⟩
      refine ⟨_, rfl, ?_⟩
      have hbx4 := hbx3.bel hb4
      have hS4 := HKS2.out _ hbx4
      refine hK _ _ hS4 ?_
      clear hK
      try simp only [Act.put, zq1, zq2, zq3, zq4, zq5, zq6]
      refine anyX_takeG [45, 46] (i := 44) (v := ?_) rfl (by kernel_rfl) (by kernel_rfl) (by kernel_rfl) (by kernel_rfl) (by kernel_rfl) (fun _ _ _ h => h) (Or.inl ⟨by rfl, ?_⟩) hS4 ?_
      rotate_left
      ·rintro w' ⟨u0, u1, u2, u3, u4, u5, z0, z1, z2, z3, z4, z5, f1, y2, y3, y4, y5, y6, y7, y8, y9, y10, y11, y12, y13⟩
       go_simp
       try with_reducible rfl
      try simp only [Act.put, zq1, zq2, zq3, zq4, zq5, zq6]
      refine anyX_takeG [46] (i := 45) (v := ?_) rfl (by kernel_rfl) (by kernel_rfl) (by kernel_rfl) (by kernel_rfl) (by kernel_rfl) (fun _ _ _ h => h) (Or.inl ⟨by rfl, ?_⟩) hS4 ?_
      rotate_left
      ·rintro w' ⟨u0, u1, u2, u3, u4, u5, z0, z1, z2, z3, z4, z5, f1, y2, y3, y4, y5, y6, y7, y8, y9, y10, y11, y12, y13⟩
       go_simp
       try with_reducible rfl
      try simp only [Act.put, zq1, zq2, zq3, zq4, zq5, zq6]
      refine anyX_takeG [] (i := 46) (v := ?_) rfl (by kernel_rfl) (by kernel_rfl) (by kernel_rfl) (by kernel_rfl) (by kernel_rfl) (fun _ _ _ h => h) (Or.inl ⟨by rfl, ?_⟩) hS4 ?_
      rotate_left
      ·rintro w' ⟨u0, u1, u2, u3, u4, u5, z0, z1, z2, z3, z4, z5, f1, y2, y3, y4, y5, y6, y7, y8, y9, y10, y11, y12, y13⟩
       go_simp
       try with_reducible rfl
      try simp only [Act.put, zq1, zq2, zq3, zq4, zq5, zq6]
      have HBN := Lib.hid (HBW.out.trans (hbx4.t.below.mono HBW.out.size))
      clear hS hS1 hS2 hS3 hS4 hbx hbx1 hbx2 hbx3 hbx4 hb3 hb4 hc1 hc2 hcx hcy htl htr HKS2 HTL HTR HB15
      refine anyX_last (by kernel_rfl) (by kernel_rfl) rfl rfl ?_
      try simp only [zq1, zq2, zq3]
      go_simp
      try apply_assumption
      go_wp2_with fail
      go_roundg (6 - (i + 1))
      case measure => have := HGK.out; omega
      case rel => exact ⟨i + 1, by go_num, rfl, by omega, by omega, HBN⟩
    ·have HBF := HBW
     clear HBW HGK
     by_cases h1 : i < ll
     ·have i1 : (i : Int) < (ll : Int) := by omega
      have i2 : ¬ (i : Int) < 5 := by omega
      have hd5 : decide ((i : Int) < 5) = false := by simp; omega
      clear hlt
      go_wp2_with fail
      go_ret
      exact ⟨rfl, HBF.out⟩
     ·have i1 : ¬ (i : Int) < (ll : Int) := by omega
      clear hlt
      go_wp2_with fail
      go_ret
      exact ⟨rfl, HBF.out⟩
  ·have hf : fewB l = false := by unfold fewB; simpa using hfew
   rw [hf] at hfw
   have HFW := Lib.hid hfw
   clear hfw hf hfew
   go_wp2_with fail
   refine HFW.out.mono ?_
   rintro e W ⟨rfl, rfl⟩
   go_wp2_with fail
   go_ret
   exact ⟨rfl, HB1.out⟩
end Go.Proofs.YtalgnnidhnhciaaGreatDoor
