/- Contract of utf.Decode: the walk. -/
import Derived.Test.YtcdenblejfmkaaaUtfS
namespace Go.Proofs.Ytcdenblejfmkaaa
open Go.RowKit Go.Proofs

/-- The bytes from place a up to place e go on no scalar that begins there. -/
def Skips (s : ByteArray) (a e : Nat) : Prop := ∀ j, a ≤ j → j < e → Utf8.decode s j = (65533, 1)
theorem Skips.none {s : ByteArray} {a e : Nat} (h : e ≤ a) : Skips s a e := fun j h1 h2 => by omega
theorem Skips.next {s : ByteArray} {a e : Nat} (h : Skips s a e) : Skips s (a + 1) e := fun j h1 h2 => h j (by omega) h2
theorem Skips.front {s : ByteArray} {p n m : Nat} (hm : 1 ≤ m) (h : ∀ j, 1 ≤ j → j < n → con (s.data.toList.drop p) j) : Skips s (p + m) (p + n) := fun j h1 h2 => by
  have := decode_con s p (j - p) (h (j - p) (by omega) (by omega))
  rwa [show p + (j - p) = j by omega] at this

set_option maxHeartbeats 2000000 in
theorem decode_any (s : ByteArray) (w : World) (hm : s.size ≤ 1000000) :
    Calls Try.prog 14 #[.string s] w (DecTells w.heap.size w s) := by
  have hl : s.data.toList.length = s.size := rfl
  have HL := Lib.hid hl; clear hl
  go_enter Try.func14, Try.ntmps14
  go_wp2_with fail
  go_loopw [2, 3, 4] (fun v u x wr => ∃ (pos E n : Nat) (O A : List Int), pos ≤ s.size ∧ E ≤ s.size ∧ n ≤ max pos E ∧ x = .int .i64 E ∧ wr.heap[w.heap.size]? = some (.stringIter s pos) ∧ Own wr w.heap.size v n O ∧ Own wr w.heap.size u n A ∧ Apart v u ∧ Below w.heap.size w wr ∧ Skips s pos E ∧ O ++ scs (s.data.toList.drop (max pos E)) = scs s.data.toList ∧ A ++ ofs (max pos E) (s.data.toList.drop (max pos E)) = ofs 0 s.data.toList) (fun _ _ _ wr => s.size - wr.iterPos w.heap.size)
  case atStart =>
    exact ⟨0, 0, 0, [], [], Nat.zero_le _, Nat.zero_le _, Nat.zero_le _, rfl, by simpa using World.iter_heap w s 0, Own.nil _ _, Own.nil _ _, Apart.nil, (Below.refl _ _).alloc (Nat.le_refl _) _, Skips.none (Nat.le_refl _), by simp, by simp⟩
  case round =>
    obtain ⟨pos, E, n, O, A, hpos, hE, hn, rfl, hit, hv, hu, hap, hbw, hsk, hO, hA⟩ := hrel
    have hsz : w.heap.size < wr.heap.size := (Array.getElem?_eq_some_iff.1 hit).1
    by_cases hp : pos < s.size
    · have hnx : ∀ ty, (Instr.next (.pointer (some ⟨w.heap.size, 0, none⟩)) true ty).run Try.prog wr = _ := fun ty => Lib.run_next_any_at wr w.heap.size s pos ty hit hp
      have hwd := decode_le s pos
      by_cases hpe : pos < E
      · have hdec := hsk pos (Nat.le_refl _) hpe
        rw [hdec] at hnx
        simp only at hnx
        have hsk2 := hsk.next
        have hit2 := Lib.iterAt_heap wr w.heap.size s pos (pos + 1) hit
        have hv2 := hv.iterAt hit (pos + 1); have hu2 := hu.iterAt hit (pos + 1)
        have hbw2 := Lib.below_iterAt hbw (k := w.heap.size) (Nat.le_refl _) s (pos + 1)
        have hmx : max (pos + 1) E = max pos E := by omega
        have HMX := Lib.hid hmx
        have HIT := Lib.hid hit; have HIT2 := Lib.hid hit2
        have HV := Lib.hid hv2; have HU := Lib.hid hu2; have HAP := Lib.hid hap; have HBW := Lib.hid hbw2; have HO := Lib.hid hO; have HA := Lib.hid hA; have HSK := Lib.hid hsk2
        clear hdec hsk hsk2 hit hit2 hv hu hv2 hu2 hap hbw hbw2 hmx hO hA
        go_wp2_with fail
        refine ⟨⟨pos + 1, E, n, O, A, by omega, hE, by omega, rfl, HIT2.out, HV.out, HU.out, HAP.out, HBW.out, HSK.out, by rw [HMX.out]; exact HO.out, by rw [HMX.out]; exact HA.out⟩, ?_⟩
        simp only [World.iterPos, HIT2.out, HIT.out]
        omega
      · obtain ⟨r, wd, hrw⟩ : ∃ r wd, Utf8.decode s pos = (r, wd) := ⟨_, _, rfl⟩
        have hmx : max pos E = pos := by omega
        rw [hmx] at hO hA hn
        have hcut := decode_nx s pos hp
        rw [hrw] at hnx hwd hcut
        simp only at hnx hwd hcut
        have hs := scs_at s.data.toList pos (by rw [HL.out]; exact hp)
        have ho := ofs_at s.data.toList pos (by rw [HL.out]; exact hp)
        have hdn := drop_ne s.data.toList pos (by rw [HL.out]; exact hp)
        obtain ⟨hn1, hn2, hn3⟩ := nx_at s.data.toList pos (by rw [HL.out]; exact hp)
        rw [HL.out] at hn3
        rw [hs] at hO; rw [ho] at hA
        have hfr := fr_nx _ hdn
        have hx := extract_list s pos
        have HX := Lib.hid hx; clear hx hs ho hdn hsk hmx hrw
        have hcs : ((r : Int) ≠ 65533 ∧ nx (s.data.toList.drop pos) = ((r : Int), wd)) ∨ ((r : Int) = 65533 ∧ (nx (s.data.toList.drop pos)).1 = 65533 ∧ 1 ≤ wd ∧ wd ≤ (nx (s.data.toList.drop pos)).2 ∧ Skips s (pos + wd) (pos + (nx (s.data.toList.drop pos)).2)) := by
          by_cases h9 : (r : Int) = 65533
          · right
            rcases hcut with hc | ⟨hc1, hc2, hc3⟩
            · rw [← hc] at hn1 hn2 hn3 ⊢
              exact ⟨h9, h9, hn1, Nat.le_refl _, Skips.none (Nat.le_refl _)⟩
            · have hw1 : wd = 1 := (Prod.mk.inj hc1).2
              subst hw1
              exact ⟨h9, hc2, by omega, hn1, Skips.front (by omega) hc3⟩
          · left
            rcases hcut with hc | ⟨hc1, hc2, hc3⟩
            · exact ⟨h9, hc.symm⟩
            · exact absurd (by have := (Prod.mk.inj hc1).1; omega) h9
        clear hcut
        have hr0 : (0 : Int) ≤ (r : Int) := Int.natCast_nonneg _
        have hr1 : (r : Int) ≤ 2147483647 := by omega
        have p0 : (0 : Int) ≤ (pos : Int) := Int.natCast_nonneg _
        have p1 : (pos : Int) < (s.size : Int) := by omega
        have hit2 := Lib.iterAt_heap wr w.heap.size s pos (pos + wd) hit
        have hv2 := hv.iterAt hit (pos + wd); have hu2 := hu.iterAt hit (pos + wd)
        have hbw2 := Lib.below_iterAt hbw (k := w.heap.size) (Nat.le_refl _) s (pos + wd)
        have hz2 := hbw2.size
        have HIT := Lib.hid hit; have HIT2 := Lib.hid hit2
        have HV := Lib.hid hv2; have HU := Lib.hid hu2; have HAP := Lib.hid hap; have HBW := Lib.hid hbw2
        clear hit hit2 hv hu hv2 hu2 hap hbw hbw2
        rcases hcs with ⟨h9, hc⟩ | ⟨h9, hc1, hw0, hw1, hsk⟩
        · rw [hc] at hO hA hn1 hn2 hn3
          simp only at hO hA hn1 hn2 hn3
          have HO := Lib.hid hO; have HA := Lib.hid hA; have HFR := Lib.hid hfr
          have t9 : ((r : Int) == 65533) = false := by simpa using h9
          have hmx : max (pos + wd) E = pos + wd := by omega
          have HMX := Lib.hid hmx
          clear hO hA hfr hc hmx h9
          go_wp2_with (first
            | (at_builtin; refine wpList_push rfl (.tmp 16) (.tmp 19) rfl w.heap.size _ u2 n O r (by rfl) HV.out (by rfl) (by omega) hz2 ?_
               intro g1 c1 w2 hp1
               have HP1 := Lib.hid hp1
               have HU2 := Lib.hid (hp1.other HAP.out HU.out)
               have HI1 := Lib.hid (hp1.iter HV.out HIT2.out)
               have HBW2 := Lib.hid (hp1.below HBW.out (Nat.le_refl _) hz2); have hz3 := HBW2.out.size
               clear hp1)
            | (at_builtin; refine wpList_push rfl (.tmp 21) (.tmp 23) rfl w.heap.size w2 u3 n A pos (by rfl) HU2.out.1 (by rfl) (by omega) hz3 ?_
               intro g2 c2 w3 hp2
               have HF := Lib.hid (hp2.other HU2.out.2.symm HP1.out.own)
               have HP2 := Lib.hid hp2.own
               have HI2 := Lib.hid (hp2.iter HU2.out.1 HI1.out)
               have HBW3 := Lib.hid (hp2.below HBW2.out (Nat.le_refl _) hz3)
               clear hp2))
          refine ⟨⟨pos + wd, E, n + 1, O ++ [(r : Int)], A ++ [(pos : Int)], by omega, hE, by omega, rfl, HI2.out, HF.out.1, HP2.out, HF.out.2.symm, HBW3.out, Skips.none (by omega), by rw [HMX.out, ← HO.out]; simp, by rw [HMX.out, ← HA.out]; simp⟩, ?_⟩
          simp only [World.iterPos, HI2.out, HIT.out]
          omega
        · have hfr2 := hfr hc1
          rw [hc1] at hO
          have HO := Lib.hid hO; have HA := Lib.hid hA; have HFR := Lib.hid hfr2; have HSK := Lib.hid hsk
          have t9 : ((r : Int) == 65533) = true := by simpa using h9
          have HR := Lib.hid h9
          generalize hmn : (nx (s.data.toList.drop pos)).2 = m at *
          have hmx : max (pos + wd) (pos + m) = pos + m := by omega
          have HMX := Lib.hid hmx
          clear hO hA hfr hfr2 hc1 hmn hsk hmx h9
          go_wp2_with (first
            | (at_builtin; refine wpList_push rfl (.tmp 16) (.tmp 19) rfl w.heap.size _ u2 n O r (by rfl) HV.out (by rfl) (by omega) hz2 ?_
               intro g1 c1 w2 hp1
               have HP1 := Lib.hid hp1
               have HU2 := Lib.hid (hp1.other HAP.out HU.out)
               have HI1 := Lib.hid (hp1.iter HV.out HIT2.out)
               have HBW2 := Lib.hid (hp1.below HBW.out (Nat.le_refl _) hz2); have hz3 := HBW2.out.size
               clear hp1)
            | (at_builtin; refine wpList_push rfl (.tmp 21) (.tmp 23) rfl w.heap.size w2 u3 n A pos (by rfl) HU2.out.1 (by rfl) (by omega) hz3 ?_
               intro g2 c2 w3 hp2
               have HF := Lib.hid (hp2.other HU2.out.2.symm HP1.out.own)
               have HP2 := Lib.hid hp2.own
               have HI2 := Lib.hid (hp2.iter HU2.out.1 HI1.out)
               have HBW3 := Lib.hid (hp2.below HBW2.out (Nat.le_refl _) hz3)
               clear hp2)
            | (go_at_call 22; (with_reducible refine (front_any (s.extract pos s.size) _ (by rw [ByteArray.size_extract]; omega) (by rw [ByteArray.size_extract]; omega)).mono ?_)
               rintro e w4 ⟨rfl, hb4⟩
               rw [HX.out, HFR.out]
               have HG1 := Lib.hid (HF.out.1.below_top hb4); have HG2 := Lib.hid (HP2.out.below_top hb4)
               have HI4 := Lib.hid ((hb4.block w.heap.size (Array.getElem?_eq_some_iff.1 HI2.out).1).trans HI2.out)
               have HBW4 := Lib.hid (HBW3.out.trans (hb4.mono HBW3.out.size))
               clear hb4))
          refine ⟨⟨pos + wd, pos + m, n + 1, O ++ [(65533 : Int)], A ++ [(pos : Int)], by omega, by omega, by omega, by go_num, HI4.out, by rw [← HR.out]; exact HG1.out, HG2.out, HF.out.2.symm, HBW4.out, HSK.out, by rw [HMX.out, ← HO.out]; simp, by rw [HMX.out, ← HA.out]; simp⟩, ?_⟩
          simp only [World.iterPos, HI4.out, HIT.out]
          omega
    · have hnx : ∀ ty, (Instr.next (.pointer (some ⟨w.heap.size, 0, none⟩)) true ty).run Try.prog wr = _ := fun ty => Lib.run_next_end_at wr w.heap.size s pos ty hit hp
      have hd : s.data.toList.drop (max pos E) = [] := List.drop_of_length_le (by rw [HL.out]; omega)
      rw [hd, scs_nil, List.append_nil] at hO
      rw [hd, ofs_nil, List.append_nil] at hA
      have hOn := hv.len
      have hn9 : n ≤ 1000000 := by omega
      have hzz := hbw.size
      have HON := Lib.hid hOn
      have HV := Lib.hid hv; have HU := Lib.hid hu; have HAP := Lib.hid hap; have HBW := Lib.hid hbw; have HO := Lib.hid hO; have HA := Lib.hid hA
      clear hd hv hu hap hbw hO hA hOn hsk
      go_wp2_with (at_builtin; refine wpList_push rfl (.tmp 34) (.tmp 37) rfl w.heap.size wr u3 n A s.size (by rfl) HU.out (by rfl) (by omega) hzz ?_
                   intro g2 c2 w3 hp2
                   have HF := Lib.hid (hp2.other HAP.out.symm HV.out)
                   have HP2 := Lib.hid hp2.own
                   have HBW3 := Lib.hid (hp2.below HBW.out (Nat.le_refl _) hzz)
                   clear hp2)
      go_ret2
      refine ⟨_, _, rfl, ?_, ?_, HF.out.2.symm, HBW3.out⟩
      · rw [← HO.out, HON.out]; exact HF.out.1
      · rw [← HO.out, HON.out, ← HA.out]; exact HP2.out

end Go.Proofs.Ytcdenblejfmkaaa
