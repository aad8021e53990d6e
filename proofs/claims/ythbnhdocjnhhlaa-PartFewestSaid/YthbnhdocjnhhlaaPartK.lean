/- Contracts of the law texts' within and Sets. -/
import Derived.Test.YthbnhdocjnhhlaaPartG
namespace Go.Proofs.Ythbnhdocjnhhlaa
open Go Go.RowKit
set_option linter.unusedVariables false

theorem within4_any (x n : Int) (hn : 0 < n) (hn2 : n ≤ 1099511627776) (w : World) :
    Calls Try.prog 20 #[.int .i64 x, .int .i64 n] w fun e w' => e = .returned (.int .i64 (wth x n)) ∧ w = w' := by
  have h1 := Int.tmod_lt_of_pos x hn
  have h2 : -n < x.tmod n := by
    have := Int.tmod_lt_of_pos (-x) hn
    rw [Int.neg_tmod] at this
    omega
  have E := Lib.hid (show wth x n = if x.tmod n < 0 then x.tmod n + n else x.tmod n from rfl)
  have hne : ¬ n = 0 := by omega
  go_enter Try.func20, Try.ntmps20
  by_cases hlt : x.tmod n < 0
  · go_wp2_with fail
    go_ret
    exact ⟨by rw [E.out, if_pos hlt]; rfl, rfl⟩
  · go_wp2_with fail
    go_ret
    exact ⟨by rw [E.out, if_neg (by omega)]; rfl, rfl⟩

/-- The set that a number makes; those of the first numbers. -/
def setN (n : Int) : List (Int × Int) := mkS [n, n / 7, n / 11] (n % 4 % 3 + 1).toNat
def setsL (zs : List Int) (k : Nat) : List (List (Int × Int)) := (zs.take k).map fun x => setN (wth x 1099511627776)
theorem setsL_rt (zs : List Int) (k : Nat) : RtAll (setsL zs k) := fun l hl => by
  obtain ⟨x, _, rfl⟩ := List.mem_map.1 hl
  exact mkS_rt _ _
theorem setsL_snoc (zs : List Int) (k : Nat) (hk : k < zs.length) : setsL zs (k + 1) = setsL zs k ++ [setN (wth (zs.getD k 0) 1099511627776)] := by
  unfold setsL
  rw [List.take_succ_eq_append_getElem hk, List.map_append]
  have e : zs.getD k 0 = zs[k] := by simp [List.getD, List.getElem?_eq_getElem hk]
  rw [e]; rfl
theorem setsL_len (zs : List Int) (k : Nat) (hk : k ≤ zs.length) : (setsL zs k).length = k := by unfold setsL; rw [List.length_map, List.length_take]; omega

def pairRows (ls : List (List (Int × Int))) : List (Nat × List Value) := ls.map fun l => (l.length, flatP l)
theorem pairRows_snoc (ls : List (List (Int × Int))) (l : List (Int × Int)) : pairRows (ls ++ [l]) = pairRows ls ++ [(l.length, flatP l)] := by simp [pairRows]
theorem pairRows_at (ls : List (List (Int × Int))) (i : Nat) (hi : i < ls.length) : (pairRows ls).getD i (0, []) = ((ls.getD i []).length, flatP (ls.getD i [])) := by
  simp [pairRows, List.getD, List.getElem?_eq_getElem hi]
/-- A row of the call's own, of sets that are its own, too. -/
def OwnSS (w : World) (B : Nat) (v : Value) (k : Nat) (ls : List (List (Int × Int))) : Prop := OwnLL w B 37 44 2 v k (pairRows ls)
def TellsSS (w : World) (ls : List (List (Int × Int))) (e : Ending) (w' : World) : Prop := ∃ v, e = .returned v ∧ OwnSS w' w.heap.size v ls.length ls ∧ Below w.heap.size w w'
theorem OwnSS.readsL {w : World} {B k : Nat} {v : Value} {ls : List (List (Int × Int))} (h : OwnSS w B v k ls) : ReadsL w v k ls := by
  have hl : ls.length = k := by have := OwnLL.len h; simpa [pairRows] using this
  refine ⟨hl, ?_⟩
  rcases OwnLL.form h with ⟨rfl, rfl, _⟩ | ⟨g, cap, rfl, _, _, h1, h2, hc⟩
  · exact ⟨none, 0, rfl, Nat.le_refl _, Nat.zero_le _, fun _ => rfl, fun i hi => absurd hi (Nat.not_lt_zero i)⟩
  · refine ⟨_, cap, rfl, h1, h2, fun e => (by cases e), fun i hi => ?_⟩
    obtain ⟨u, c1, c2⟩ := hc i hi
    rw [pairRows_at ls i (by omega)] at c2
    exact ⟨g, 0, u, rfl, c1, OwnP.reads c2⟩

theorem info_ranges : (Try.prog.info? 37).map (fun i => (i.zero, i.size, i.bytes)) = some (some (.slice none 0 0), 1, 24) := by kernel_rfl
theorem isRow_three {W : World} {g : Nat} {x y z : Int} {len : Nat} (hl : len ≤ 3) (h : W.heap[g]? = some (.cells #[.int .i64 x, .int .i64 y, .int .i64 z] 3 (0, 0))) (hx : (Lit.int .i64 x).wf = true) (hy : (Lit.int .i64 y).wf = true) (hz : (Lit.int .i64 z).wf = true) :
    IsRow .i64 W (some ⟨g, 0, none⟩) len 3 [x, y, z] := by
  refine .inr ⟨⟨g, 0, none⟩, rfl, hl, by unfold maxLen; omega, rfl, fun i hi => ?_, fun n hn => ?_⟩
  · have e : (⟨g, 0, none⟩ : Addr).add i = ⟨g, 0 + i, none⟩ := by unfold Addr.add; split <;> simp_all
    rw [e, Nat.zero_add, cell_of_row W g i _ _ (0, 0) h]
    simp only [List.length_cons, List.length_nil] at hi
    rcases (show i = 0 ∨ i = 1 ∨ i = 2 by omega) with rfl | rfl | rfl <;> rfl
  · simp only [List.mem_cons, List.not_mem_nil, or_false] at hn
    rcases hn with rfl | rfl | rfl <;> assumption

set_option maxRecDepth 100000 in
set_option maxHeartbeats 4000000 in
theorem sets_any {w : World} {a : Option Addr} {len cap mo : Nat} {zs : List Int} (h : IsRow .i64 w a len cap zs) (hmo : mo ≤ 13) :
    Calls Try.prog 12 #[.slice a len cap, .int .i64 mo] w (TellsSS w (setsL zs (min len mo))) := by
  have hl1 := h.len_le.1
  have hl2 := h.len_le.2
  have HA := Lib.hid h.at; clear h
  have HLE : Hid (len ≤ zs.length) := Lib.hid hl1
  go_enter Try.func12, Try.ntmps12
  go_wp2_with fail
  go_loopw [5, 6] (fun s i wr => ∃ k : Nat, k ≤ len ∧ k ≤ mo ∧ i = .int .i64 k ∧ Hid (OwnSS wr w.heap.size s k (setsL zs k)) ∧ Hid (Below w.heap.size w wr)) (fun _ i _ => len - (intOf i).toNat)
  case atStart => exact ⟨0, Nat.zero_le _, Nat.zero_le _, rfl, Lib.hid (OwnLL.nil _ _ _ _ _), Lib.hid (Below.refl _ _)⟩
  case round =>
    obtain ⟨k, hk, hk2, rfl, HV, HB⟩ := hrel
    have hz := HB.out.size
    have i0 : (0 : Int) ≤ (k : Int) := Int.natCast_nonneg _
    by_cases hlt : k < len
    · have i1 : (k : Int) < (len : Int) := by omega
      have t1 : decide (k < len) = true := by simpa using hlt
      by_cases h12 : k < mo
      · have i2 : (k : Int) < (mo : Int) := by omega
        have t2 : decide (k < mo) = true := by simpa using h12
        obtain ⟨b, off, rfl, hbl, hc, hwf⟩ := HA.out k hlt
        have c1 := (HB.out.cell (p := ⟨b, off + k, none⟩) hbl).trans (hc k hlt)
        have SN := Lib.hid (setsL_snoc zs k (by omega))
        clear hc hwf
        generalize zs.getD k 0 = x at *
        have hw := wth_bd x 1099511627776 (by omega)
        go_wp2_with fail
        refine (within4_any _ _ (by omega) (by omega) _).mono ?_
        rintro e w' ⟨rfl, rfl⟩
        generalize wth x 1099511627776 = nn at *
        obtain ⟨w1, w2⟩ := hw
        have m1 : 0 ≤ nn / 7 ∧ nn / 7 ≤ 1099511627776 := by omega
        have m2 : 0 ≤ nn / 11 ∧ nn / 11 ≤ 1099511627776 := by omega
        have m3 : 0 ≤ nn % 4 ∧ nn % 4 < 4 := by omega
        have m4 : 0 ≤ nn % 4 % 3 ∧ nn % 4 % 3 < 3 := by omega
        obtain ⟨m11, m12⟩ := m1
        obtain ⟨m21, m22⟩ := m2
        obtain ⟨m31, m32⟩ := m3
        obtain ⟨m41, m42⟩ := m4
        have HSN : Hid (setN nn = mkS [nn, nn / 7, nn / 11] (nn % 4 % 3 + 1).toNat) := Lib.hid rfl
        obtain ⟨le, hle⟩ : ∃ le : Nat, nn % 4 % 3 + 1 = (le : Int) := ⟨(nn % 4 % 3 + 1).toNat, by omega⟩
        have le3 : le ≤ 3 := by omega
        have HLEN := Lib.hid hle
        have HIR := Lib.hid (isRow_three (len := le) (g := wr.heap.size) (x := nn) (y := (nn / 7)) (z := (nn / 11)) le3 (heap_alloc_new wr (.cells #[.int .i64 nn, .int .i64 (nn / 7), .int .i64 (nn / 11)] 3)) (WalkArith.wf_i64 (by omega)) (WalkArith.wf_i64 (by omega)) (WalkArith.wf_i64 (by omega)))
        have HS2 : Hid (setN nn = mkS [nn, (nn / 7), (nn / 11)] le) := Lib.hid (by rw [HSN.out, HLEN.out]; rfl)
        have l0 : (0 : Int) ≤ (le : Int) := Int.natCast_nonneg _
        have l3 : (le : Int) ≤ 3 := by omega
        generalize setN nn = R at *
        go_wp2_with fail
        refine (make_any HIR.out).mono ?_
        rintro e w4 ⟨v4, rfl, h1, h2⟩
        rw [← HS2.out] at h1
        have hzz : w.heap.size ≤ (wr.alloc (.cells #[.int .i64 nn, .int .i64 (nn / 7), .int .i64 (nn / 11)] 3)).heap.size := by simp; omega
        have HV4 := Lib.hid ((OwnLL.alloc HV.out _).below h2)
        have HB4 := Lib.hid ((HB.out.alloc hz _).trans (h2.mono hzz))
        have hz4 := HB4.out.size
        have hap : Apart u5 v4 := by
          cases h5 : u5.ownBlock with
          | none => exact .inl h5
          | some r =>
            right; right
            intro e
            have q1 := (OwnLL.lt HV.out r h5).2
            have q2 := (World.ownsRow.lt h1 r (by rw [← e, h5])).1
            rw [World.size_alloc] at q2
            omega
        have HO := Lib.hid (World.ownsRow.mono h1 hzz)
        have HAP := Lib.hid hap
        obtain ⟨ad4, cp4, e4⟩ : ∃ a c, v4 = .slice a R.length c := by
          rcases h1.2 with ⟨e, e'⟩ | ⟨g, cap, cur, e, _⟩
          · exact ⟨none, 0, by rw [e, e']⟩
          · exact ⟨_, _, e⟩
        subst e4
        clear h1 h2 hap hle
        go_wp2_with (at_builtin; refine wpList_pushLL rfl (.tmp 24) (.tmp 37) 24 37 44 2 24 rfl Try.underlying24 info_ranges (by omega) w.heap.size _ _ k _ _ _ _ (by rfl) HV4.out HO.out HAP.out (by rfl) (by omega) hz4 ?_
                     intro g4 c4 w5 hp
                     have HP := Lib.hid hp; clear hp)
        refine ⟨⟨k + 1, by omega, by omega, by go_num, Lib.hid ?_, Lib.hid (HP.out.below HB4.out (Nat.le_refl _) hz4)⟩, by simp [intOf]; omega⟩
        rw [SN.out]
        unfold OwnSS
        rw [pairRows_snoc]
        exact HP.out.own
      · have i2 : ¬ (k : Int) < (mo : Int) := by omega
        have t2 : decide (k < mo) = false := by simpa using h12
        have HE := Lib.hid (show min len mo = k by omega)
        have HLK := Lib.hid (setsL_len zs k (by omega))
        go_wp2_with fail
        go_ret
        refine ⟨_, rfl, ?_, HB.out⟩
        rw [HE.out, HLK.out]; exact HV.out
    · have HE := Lib.hid (show min len mo = k by omega)
      have HLK := Lib.hid (setsL_len zs k (by omega))
      go_wp2_with fail
      go_ret
      refine ⟨_, rfl, ?_, HB.out⟩
      rw [HE.out, HLK.out]; exact HV.out

end Go.Proofs.Ythbnhdocjnhhlaa
