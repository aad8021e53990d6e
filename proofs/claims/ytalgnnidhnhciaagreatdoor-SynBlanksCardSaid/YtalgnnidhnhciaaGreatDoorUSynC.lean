/- Contracts of syn's reading of one sign: a word, a number, a scalar, the first sign of a text. Contract of syn's look for a set by its name. -/
import Derived.Test.YtalgnnidhnhciaaGreatDoorUSynA
set_option linter.unusedVariables false
set_option linter.unusedSimpArgs false
set_option maxRecDepth 100000
set_option maxHeartbeats 2000000
namespace Go.Proofs.YtalgnnidhnhciaaGreatDoor
open Go Go.RowKit
def ErrV (w : World) : Prop := ∃ te pe, w.cell? ⟨3, 0, none⟩ = some (.iface te pe)
theorem ErrV.keep {w w' : World} (h : ErrV w) (hk : ∀ x, w.cell? ⟨3, 0, none⟩ = some x -> w'.cell? ⟨3, 0, none⟩ = some x) : ErrV w' := by
 obtain ⟨a, b, h⟩ := h
 exact ⟨a, b, hk _ h⟩
theorem ErrV.lt {w : World} (h : ErrV w) : 3 < w.heap.size := by
 obtain ⟨a, b, h⟩ := h
 exact World.block_lt_of_cell? w _ h
theorem ErrV.alloc {w : World} (h : ErrV w) (o : Obj) : ErrV (w.alloc o) := h.keep fun x hx => by rw [World.cell?_alloc_past o _ _ h.lt]; exact hx
theorem ErrV.below {w w' : World} (h : ErrV w) (hb : Below w.heap.size w w') : ErrV w' := h.keep fun x hx => by rw [hb.cell (p := ⟨3, 0, none⟩) h.lt]; exact hx
theorem ErrV.grown {w w' : World} {b : Nat} (h : ErrV w) (hg : w.grownBy w' (some b)) (hb : 3 ≠ b) : ErrV w' := h.keep fun x hx => hg.cell hx (fun e => hb (by injection e))
def FirstR (g : Sg) (w : World) (e : Ending) (w' : World) : Prop :=
 ∃ (wd : ByteArray) (n : Int), e = .returned (.tuple #[.agg #[.int .i64 g.kind, .int .i64 0, .string wd, .int .i64 n, .bool g.large], .int .i64 g.size]) /\ wd.data.toList = g.word /\ (g.large = false -> n = g.n) /\ Below w.heap.size w w'
theorem FirstR.mk' {g : Sg} {w w' : World} (kind size n : Int) (wd : ByteArray) (large : Bool) (h1 : kind = g.kind) (h2 : large = g.large) (h3 : size = g.size) (h4 : wd.data.toList = g.word) (h5 : g.large = false -> n = g.n) (h6 : Below w.heap.size w w') :
  FirstR g w (.returned (.tuple #[.agg #[.int .i64 kind, .int .i64 0, .string wd, .int .i64 n, .bool large], .int .i64 size])) w' := by
  subst h1; subst h2; subst h3
  exact ⟨wd, n, rfl, h4, h5, h6⟩
theorem take_extract (s : ByteArray) (k : Nat) : (s.extract 0 k).data.toList = s.data.toList.take k := by
 simp [ByteArray.data_extract]
theorem extract_size (s : ByteArray) (k : Nat) (h : k <= s.size) : (s.extract 0 k).size = k := by simp; omega
theorem tw_take (q : UInt8 -> Bool) (l : List UInt8) : l.take (l.takeWhile q).length = l.takeWhile q := by
 conv => lhs; arg 2; rw [<- List.takeWhile_append_dropWhile (p := q) (l := l)]
 rw [List.take_left]
theorem tw_len (q : UInt8 -> Bool) (l : List UInt8) : (l.takeWhile q).length <= l.length := (List.takeWhile_sublist _).length_le
theorem tw_mem (q : UInt8 -> Bool) (l : List UInt8) : ∀ c ∈ l.takeWhile q, q c = true := fun c hc => by
 have := List.all_takeWhile (p := q) (l := l)
 exact (List.all_eq_true.1 this) c hc
theorem bytes_eq (s : ByteArray) (l : List UInt8) (h : s.data.toList = l) : s = ⟨l.toArray⟩ := by
 cases s with
 | mk d => simp at h; subst h; simp
theorem five_cells {w w1 : World} {o : Obj} (hb : Below (w.alloc o).heap.size (w.alloc o) w1) {a b c d e : Value} {i j k l m : Nat} :
  Below w.heap.size w (((((w1.setCell ⟨w.heap.size, i, none⟩ a).setCell ⟨w.heap.size, j, none⟩ b).setCell ⟨w.heap.size, k, none⟩ c).setCell ⟨w.heap.size, l, none⟩ d).setCell ⟨w.heap.size, m, none⟩ e) :=
  ((((((((Below.refl _ _).alloc (Nat.le_refl _) _).trans (hb.mono (by simp))).setCell (Nat.le_refl _) _).setCell (Nat.le_refl _) _).setCell (Nat.le_refl _) _).setCell (Nat.le_refl _) _).setCell (Nat.le_refl _) _)
theorem wordKind_any (s : ByteArray) (w : World) : Calls Tryz.prog 146 #[.string s] w fun e w' => e = .returned (.int .i64 (wordK s.data.toList)) /\ w = w' := by
 have hk : (s = ⟨#[97, 110, 121]⟩ /\ wordK s.data.toList = 261) \/ (s = ⟨#[99, 108, 97, 115, 115]⟩ /\ wordK s.data.toList = 262) \/ (s = ⟨#[108, 105, 110, 101]⟩ /\ wordK s.data.toList = 263) \/ (s = ⟨#[104, 121, 112, 104, 101, 110]⟩ /\ wordK s.data.toList = 264) \/
   (s = ⟨#[101, 109, 101, 114, 103, 101, 110, 99, 121]⟩ /\ wordK s.data.toList = 265) \/
   (s.data.toList ≠ wAny /\ s.data.toList ≠ wClass /\ s.data.toList ≠ wLine /\ s.data.toList ≠ wHyphen /\ s.data.toList ≠ wEmergency /\ wordK s.data.toList = 258) := by
   unfold wordK
   by_cases h1 : s.data.toList = wAny
   ·exact .inl ⟨bytes_eq s _ h1, by simp [h1]⟩
   by_cases h2 : s.data.toList = wClass
   ·exact .inr (.inl ⟨bytes_eq s _ h2, by simp [h2]; decide⟩)
   by_cases h3 : s.data.toList = wLine
   ·exact .inr (.inr (.inl ⟨bytes_eq s _ h3, by simp [h3]; decide⟩))
   by_cases h4 : s.data.toList = wHyphen
   ·exact .inr (.inr (.inr (.inl ⟨bytes_eq s _ h4, by simp [h4]; decide⟩)))
   by_cases h5 : s.data.toList = wEmergency
   ·exact .inr (.inr (.inr (.inr (.inl ⟨bytes_eq s _ h5, by simp [h5]; decide⟩))))
   ·exact .inr (.inr (.inr (.inr (.inr ⟨h1, h2, h3, h4, h5, by simp [h1, h2, h3, h4, h5]⟩))))
 rcases hk with ⟨rfl, hk⟩ | ⟨rfl, hk⟩ | ⟨rfl, hk⟩ | ⟨rfl, hk⟩ | ⟨rfl, hk⟩ | ⟨h1, h2, h3, h4, h5, hk⟩
 rotate_left 5
 ·rw [hk]
  have F : ∀ l, s.data.toList ≠ l -> (s.toList == l) = false := fun l h => by rw [ByteArray.toList_eq]; simpa using h
  have q1 := F _ h1; have q2 := F _ h2; have q3 := F _ h3; have q4 := F _ h4; have q5 := F _ h5
  unfold wAny at q1; unfold wClass at q2; unfold wLine at q3; unfold wHyphen at q4; unfold wEmergency at q5
  clear h1 h2 h3 h4 h5 hk F
  go_enter Tryz.func146, Tryz.ntmps146
  go_wp2_with fail
  go_ret
  exact ⟨rfl, rfl⟩
 all_goals
  rw [hk]
  go_enter Tryz.func146, Tryz.ntmps146
  go_wp2_with fail
  go_ret
  exact ⟨rfl, rfl⟩
theorem word_any (s : ByteArray) (w : World) (hs : s.size <= 1000000000) : Calls Tryz.prog 119 #[.string s] w (FirstR (wordS s.data.toList) w) := by
 have hr := fun W => run_word s W hs
 have hl : s.data.toList.length = s.size := rfl
 have hT := tw_len wdB s.data.toList
 rw [hl] at hT
 have htk := tw_take wdB s.data.toList
 obtain ⟨T, hTe⟩ : ∃ T, (s.data.toList.takeWhile wdB).length = T := ⟨_, rfl⟩
 rw [hTe] at hr hT htk
 have hx : (s.extract 0 T).data.toList = s.data.toList.takeWhile wdB := by rw [take_extract, htk]
 have hcl := clone_any (s.extract 0 T)
 have hwk := wordKind_any (s.extract 0 T)
 have hxs : (s.extract 0 T).size = T := extract_size s T hT
 have HX := Lib.hid hx; have HT := Lib.hid hTe; have HXS := Lib.hid hxs
 clear hx hTe htk hl hxs
 generalize hgx : s.extract 0 T = x at *
 have i0 : (0 : Int) <= (T : Int) := Int.natCast_nonneg _
 have i1 : (T : Int) <= (s.size : Int) := by omega
 have HG := Lib.hid hgx; clear hgx
 have fin : ∀ (w1 : World), Below w.heap.size w w1 -> FirstR (wordS s.data.toList) w (.returned (.tuple #[.agg #[.int .i64 (wordK x.data.toList), .int .i64 0, .string x, .int .i64 0, .bool (decide ((12 : Int) < (T : Int)))], .int .i64 T])) w1 := by
  intro w1 hb
  refine FirstR.mk' _ _ _ _ _ ?_ ?_ ?_ ?_ ?_ hb
  ·show (wordK x.data.toList : Int) = ((wordS s.data.toList).kind : Nat); rw [HX.out]; rfl
  ·show _ = Nat.blt 12 _
   rw [HT.out, show Nat.blt 12 T = Nat.ble (12 + 1) T from rfl, ble_dec]; simp; omega
  ·show (T : Int) = ((wordS s.data.toList).size : Nat); unfold wordS; rw [HT.out]
  ·exact HX.out
  ·intro _; rfl
 have FIN := Lib.hid fin; clear fin
 go_enter Tryz.func119, Tryz.ntmps119
 go_wp2_with (refine (hr _).mono ?_; rintro e w1 ⟨rfl, rfl⟩)
 rw [HG.out]
 refine (hcl _ (by rw [HXS.out]; omega)).mono ?_
 rintro e w1 ⟨rfl, hb⟩
 obtain ⟨hc1, hf1⟩ := bcell hb
 have hz : w.heap.size + 1 <= w1.heap.size := by have := hb.size; simpa using this
 go_wp2_with fail
 refine (hwk _).mono ?_
 rintro e w2 ⟨rfl, rfl⟩
 go_wp2_with fail
 refine bodyPost_ret (v := .tuple #[.agg #[.int .i64 (wordK x.data.toList), .int .i64 0, .string x, .int .i64 0, .bool (decide ((12 : Int) < (T : Int)))], .int .i64 T]) (by simp [results, Tryz.results119, go_sem, hc1]) rfl ?_
 exact FIN.out _ (five_cells hb)
theorem parse10_digits (l : List UInt8) (h : ∀ c ∈ l, digB c = true) (acc : Nat) (ha : acc < 18446744073709551616) :
  (Lib.parseUint10 acc l = .ok (l.foldl (fun n c => 10 * n + (c.toNat - 48)) acc) /\ l.foldl (fun n c => 10 * n + (c.toNat - 48)) acc < 18446744073709551616) \/
  (Lib.parseUint10 acc l = .range /\ 18446744073709551616 <= l.foldl (fun n c => 10 * n + (c.toNat - 48)) acc) := by
  induction l generalizing acc with
  | nil => exact .inl ⟨rfl, ha⟩
  | cons c r ih =>
    have hc := h c (by simp)
    rw [dig_dec] at hc
    simp only [decide_eq_true_eq] at hc
    have hr : ∀ x ∈ r, digB x = true := fun x hx => h x (by simp [hx])
    have mono : ∀ (r : List UInt8) (a b : Nat), a <= b -> a <= r.foldl (fun n c => 10 * n + (c.toNat - 48)) b := by
     intro r
     induction r with
     | nil => intro a b h; exact h
     | cons x y ih => intro a b h; exact ih a _ (show a <= 10 * b + (x.toNat - 48) by omega)
    simp only [Lib.parseUint10, List.foldl_cons, hc, and_self, if_true]
    by_cases h1 : 1844674407370955162 <= acc
    ·rw [if_pos h1]
     exact .inr ⟨rfl, mono r _ _ (by omega)⟩
    ·rw [if_neg h1]
     by_cases h2 : 18446744073709551616 <= acc * 10 + (c.toNat - 48)
     ·rw [if_pos h2]
      exact .inr ⟨rfl, mono r _ _ (by omega)⟩
     ·rw [if_neg h2]
      have e : 10 * acc + (c.toNat - 48) = acc * 10 + (c.toNat - 48) := by omega
      rw [e]
      exact ih hr _ (by omega)
theorem atoi_digits (l : List UInt8) (hne : l ≠ []) (h : ∀ c ∈ l, digB c = true) :
  (Lib.atoiAll l = .ok (numOf l : Int)) \/ (Lib.atoiAll l = .range /\ 9223372036854775808 <= numOf l /\ Lib.atoiSat l = 9223372036854775807) := by
  obtain ⟨c, r, rfl⟩ := List.exists_cons_of_ne_nil hne
  have hc := h c (by simp)
  rw [dig_dec] at hc
  simp only [decide_eq_true_eq] at hc
  have h43 : ¬ c.toNat = 43 := by omega
  have h45 : ¬ c.toNat = 45 := by omega
  have hs : Lib.atoiSat (c :: r) = 9223372036854775807 := by simp [Lib.atoiSat, h45]
  have hp := parse10_digits (c :: r) h 0 (by omega)
  unfold Lib.atoiAll
  simp only [h43, or_self, if_false, Lib.parseMag, List.cons_ne_nil, h45, not_false_eq_true, true_and, false_and]
  rcases hp with ⟨hp, hlt⟩ | ⟨hp, hge⟩
  ·rw [hp]
   by_cases h2 : 9223372036854775808 <= numOf (c :: r)
   ·right
    refine ⟨?_, h2, hs⟩
    have : 9223372036854775808 <= (c :: r).foldl (fun n c => 10 * n + (c.toNat - 48)) 0 := h2
    simp only [this, if_true]
   ·left
    have : ¬ 9223372036854775808 <= (c :: r).foldl (fun n c => 10 * n + (c.toNat - 48)) 0 := h2
    simp only [this, if_false]
    rfl
  ·rw [hp]
   right
   have h1 : 18446744073709551616 <= numOf (c :: r) := hge
   exact ⟨rfl, by omega, hs⟩
theorem atoi_any (x : ByteArray) (w : World) (hx : x.size <= 1000000000) (hne : x.data.toList ≠ []) (h : ∀ c ∈ x.data.toList, digB c = true) (hE : ErrV w) :
  Calls Tryz.prog 147 #[.string x] w fun e w' => ∃ (n : Int) (v : Value), e = .returned (.tuple #[.int .i64 n, v]) /\ ((n = numOf x.data.toList) \/ (n = 9223372036854775807 /\ 9223372036854775808 <= numOf x.data.toList)) /\ Below w.heap.size w w' := by
  rcases atoi_digits _ hne h with h1 | ⟨h1, h2, h3⟩
  ·refine (Tryz.strconv_Atoi_ok x (by omega) _ h1 w).mono ?_
   rintro e w' ⟨rfl, hw⟩
   refine ⟨_, _, rfl, .inl rfl, ?_⟩
   rcases hw with rfl | ⟨t, rfl⟩
   ·exact Below.refl _ _
   ·exact Lib.bytesWorld_below _ _ _
  ·obtain ⟨te, pe, hv⟩ := hE
   refine (Tryz.strconv_Atoi_range x (by omega) h1 _ w hv (.inr ⟨te, pe, rfl⟩)).mono ?_
   rintro e w' ⟨N, rfl, _, _, hb⟩
   exact ⟨_, _, rfl, .inr ⟨h3, h2⟩, hb⟩
theorem digits_any (s : ByteArray) (w : World) (hs : s.size <= 1000000000) (h0 : 0 < (s.data.toList.takeWhile digB).length) (hE : ErrV w) : Calls Tryz.prog 121 #[.string s] w (FirstR (digS s.data.toList) w) := by
 have hr := fun W => run_dig s W hs
 have hl : s.data.toList.length = s.size := rfl
 have hT := tw_len digB s.data.toList
 rw [hl] at hT
 have htk := tw_take digB s.data.toList
 have hmem := tw_mem digB s.data.toList
 obtain ⟨T, hTe⟩ : ∃ T, (s.data.toList.takeWhile digB).length = T := ⟨_, rfl⟩
 rw [hTe] at hr hT htk h0
 have hx : (s.extract 0 T).data.toList = s.data.toList.takeWhile digB := by rw [take_extract, htk]
 have hxs : (s.extract 0 T).size = T := extract_size s T hT
 rw [<- hx] at hmem hTe
 have hne : (s.extract 0 T).data.toList ≠ [] := fun e => by rw [e] at hTe; simp at hTe; omega
 have hat := fun W => atoi_any (s.extract 0 T) W (by rw [hxs]; omega) hne hmem
 clear hmem hne htk hl
 generalize hgx : s.extract 0 T = x at *
 have i0 : (0 : Int) <= (T : Int) := Int.natCast_nonneg _
 have i1 : (T : Int) <= (s.size : Int) := by omega
 have HG := Lib.hid hgx; clear hgx
 have fin : ∀ (w1 : World) (n : Int), (n = numOf x.data.toList \/ n = 9223372036854775807 /\ 9223372036854775808 <= numOf x.data.toList) -> Below w.heap.size w w1 ->
   FirstR (digS s.data.toList) w (.returned (.tuple #[.agg #[.int .i64 259, .int .i64 0, .string ⟨#[]⟩, .int .i64 n, .bool (decide ((1000000 : Int) < n))], .int .i64 T])) w1 := by
   intro w1 n hn hb
   unfold digS
   rw [<- hx, hTe]
   have hb1 : Nat.blt 1000000 (numOf x.data.toList) = decide (1000000 < numOf x.data.toList) := by rw [show Nat.blt 1000000 (numOf x.data.toList) = Nat.ble (1000000 + 1) (numOf x.data.toList) from rfl, ble_dec]; simp; omega
   refine FirstR.mk' _ _ _ _ _ rfl ?_ rfl rfl ?_ hb
   ·show _ = Nat.blt 1000000 _
    rw [hb1, decide_eq_decide]; omega
   ·intro hl
    change Nat.blt 1000000 _ = false at hl
    rw [hb1] at hl
    simp only [decide_eq_false_iff_not] at hl
    show n = ((numOf x.data.toList : Nat) : Int)
    omega
 have FIN := Lib.hid fin; clear fin
 have HX := Lib.hid hx; have HTE := Lib.hid hTe; have HXS := Lib.hid hxs; clear hx hTe hxs
 go_enter Tryz.func121, Tryz.ntmps121
 go_wp2_with (refine (hr _).mono ?_; rintro e w1 ⟨rfl, rfl⟩)
 rw [HG.out]
 refine (hat _ (hE.alloc _)).mono ?_
 rintro e w1 ⟨n, v, rfl, hn, hb⟩
 have HN := Lib.hid hn; clear hn
 obtain ⟨hc1, hf1⟩ := bcell hb
 have hz : w.heap.size + 1 <= w1.heap.size := by have := hb.size; simpa using this
 go_wp2_with fail
 refine bodyPost_ret (v := .tuple #[.agg #[.int .i64 259, .int .i64 0, .string ⟨#[]⟩, .int .i64 n, .bool (decide ((1000000 : Int) < n))], .int .i64 T]) (by simp [results, Tryz.results121, go_sem, hc1]) rfl ?_
 exact FIN.out _ _ HN.out (five_cells hb)
theorem FirstR.none_ {w w' : World} (h : Below w.heap.size w w') : FirstR Sg.none w (.returned (.tuple #[.agg #[.int .i64 257, .int .i64 0, .string ⟨#[]⟩, .int .i64 0, .bool false], .int .i64 1])) w' :=
 FirstR.mk' _ _ _ _ _ rfl rfl rfl rfl (fun _ => rfl) h
theorem getE (s : ByteArray) (i : Nat) (h : i < s.size) : s.data.toList[i]? = some s[i] := by
 rw [List.getElem?_eq_getElem (by exact h)]; rfl
theorem quot_cases (s : ByteArray) : (s.size < 3 /\ quotS s.data.toList = Sg.none) \/ (∃ (h : 3 <= s.size), (s[1].toNat < 32 /\ quotS s.data.toList = Sg.none) \/ (32 <= s[1].toNat /\ 126 < s[1].toNat /\ quotS s.data.toList = Sg.none) \/
  (32 <= s[1].toNat /\ s[1].toNat <= 126 /\ s[2].toNat ≠ 39 /\ quotS s.data.toList = Sg.none) \/ (32 <= s[1].toNat /\ s[1].toNat <= 126 /\ s[2].toNat = 39 /\ quotS s.data.toList = ⟨260, [], s[1].toNat, false, 3⟩)) := by
  have hl : s.data.toList.length = s.size := rfl
  by_cases h : 3 <= s.size
  ·right
   refine ⟨h, ?_⟩
   obtain ⟨a, x, y, r, hs⟩ : ∃ a x y r, s.data.toList = a :: x :: y :: r := by
    match hq : s.data.toList, (show 3 <= s.data.toList.length by omega) with
    | a :: x :: y :: r, _ => exact ⟨a, x, y, r, rfl⟩
   have e1 : s[1] = x := by have := getE s 1 (by omega); rw [hs] at this; simpa using this.symm
   have e2 : s[2] = y := by have := getE s 2 (by omega); rw [hs] at this; simpa using this.symm
   rw [e1, e2, hs]
   unfold quotS
   simp only [ble_dec]
   have hy : (y == 39) = decide (y.toNat = 39) := u8_eq y 39 (by omega)
   rw [hy]
   by_cases h1 : 32 <= x.toNat
   ·by_cases h2 : x.toNat <= 126
    ·by_cases h3 : y.toNat = 39
     ·right; right; right; exact ⟨h1, h2, h3, by simp [h1, h2, h3]⟩
     ·right; right; left; exact ⟨h1, h2, h3, by simp [h3]⟩
    ·right; left; exact ⟨h1, by omega, by simp [h2]⟩
   ·left; exact ⟨by omega, by simp [h1]⟩
  ·left
   refine ⟨by omega, ?_⟩
   unfold quotS
   match hq : s.data.toList with
   | [] => rfl
   | [_] => rfl
   | [_, _] => rfl
   | _ :: _ :: _ :: _ => rw [hq] at hl; simp at hl; omega
theorem quoted_any (s : ByteArray) (w : World) (hs : s.size <= 1000000000) : Calls Tryz.prog 122 #[.string s] w (FirstR (quotS s.data.toList) w) := by
 have bl : ∀ (o : Obj), Below w.heap.size w (w.alloc o) := fun o => (Below.refl _ _).alloc (Nat.le_refl _) _
 rcases quot_cases s with ⟨h1, hq⟩ | ⟨h3, ⟨h1, hq⟩ | ⟨h1, h2, hq⟩ | ⟨h1, h2, h4, hq⟩ | ⟨h1, h2, h4, hq⟩⟩
 ·rw [hq]
  have HBL := Lib.hid bl; clear bl hq
  go_enter Tryz.func122, Tryz.ntmps122
  go_wp2_with fail
  refine bodyPost_ret (v := .tuple #[.agg #[.int .i64 257, .int .i64 0, .string ⟨#[]⟩, .int .i64 0, .bool false], .int .i64 1]) (by simp [results, Tryz.results122, go_sem]) rfl ?_
  exact FirstR.none_ (HBL.out _)
 ·rw [hq]
  have HBL := Lib.hid bl; clear bl hq
  go_enter Tryz.func122, Tryz.ntmps122
  go_wp2_with fail
  refine bodyPost_ret (v := .tuple #[.agg #[.int .i64 257, .int .i64 0, .string ⟨#[]⟩, .int .i64 0, .bool false], .int .i64 1]) (by simp [results, Tryz.results122, go_sem]) rfl ?_
  exact FirstR.none_ (HBL.out _)
 ·rw [hq]
  have HBL := Lib.hid bl; clear bl hq
  go_enter Tryz.func122, Tryz.ntmps122
  go_wp2_with fail
  refine bodyPost_ret (v := .tuple #[.agg #[.int .i64 257, .int .i64 0, .string ⟨#[]⟩, .int .i64 0, .bool false], .int .i64 1]) (by simp [results, Tryz.results122, go_sem]) rfl ?_
  exact FirstR.none_ (HBL.out _)
 ·rw [hq]
  have HBL := Lib.hid bl; clear bl hq
  have q : ((((s[2]'(by omega)).toNat : Int)) != 39) = true := by simp; omega
  clear h4
  go_enter Tryz.func122, Tryz.ntmps122
  go_wp2_with fail
  refine bodyPost_ret (v := .tuple #[.agg #[.int .i64 257, .int .i64 0, .string ⟨#[]⟩, .int .i64 0, .bool false], .int .i64 1]) (by simp [results, Tryz.results122, go_sem]) rfl ?_
  exact FirstR.none_ (HBL.out _)
 ·rw [hq]
  have HBL := Lib.hid bl; clear bl hq
  have q : ((((s[2]'(by omega)).toNat : Int)) != 39) = false := by simp; omega
  clear h4
  go_enter Tryz.func122, Tryz.ntmps122
  go_wp2_with fail
  refine bodyPost_ret (v := .tuple #[.agg #[.int .i64 260, .int .i64 0, .string ⟨#[]⟩, .int .i64 (s[1].toNat), .bool false], .int .i64 3]) (by simp [results, Tryz.results122, go_sem]) rfl ?_
  exact FirstR.mk' _ _ _ _ _ rfl rfl rfl rfl (fun _ => rfl) (HBL.out _)
end Go.Proofs.YtalgnnidhnhciaaGreatDoor
namespace Go.Proofs.YtalgnnidhnhciaaGreatDoor
open Go Go.RowKit
def Names (w : World) (S : Nat -> Prop) (v : Value) (D : List (List UInt8)) : Prop :=
 ∃ (A : Option Addr) (c : Nat), v = .slice A D.length c /\ D.length <= c /\ c <= maxLen /\ (A = none -> c = 0) /\ ∀ i, i < D.length -> ∃ b o, A = some ⟨b, o, none⟩ /\ S b /\ b < w.heap.size /\
   ∃ (s : ByteArray) (y1 y2 y3 : Int) (y4 : ByteArray) (y5 : Option Addr) (y6 y7 : Nat), s.data.toList = D.getD i [] /\ w.cell? ⟨b, o + i * 6, none⟩ = some (.string s) /\ w.cell? ⟨b, o + i * 6 + 1, none⟩ = some (.int .i64 y1) /\ w.cell? ⟨b, o + i * 6 + 2, none⟩ = some (.int .i64 y2) /\
     w.cell? ⟨b, o + i * 6 + 3, none⟩ = some (.int .i64 y3) /\ w.cell? ⟨b, o + i * 6 + 4, none⟩ = some (.string y4) /\ w.cell? ⟨b, o + i * 6 + 5, none⟩ = some (.slice y5 y6 y7)
theorem Names.keep {w w' : World} {S S' : Nat -> Prop} {v : Value} {D : List (List UInt8)} (h : Names w S v D) (hS : ∀ g, S g -> S' g) (hk : ∀ g, S g -> ∀ i x, w.cell? ⟨g, i, none⟩ = some x -> w'.cell? ⟨g, i, none⟩ = some x) : Names w' S' v D := by
 obtain ⟨A, c, h1, h2, h3, h4, h5⟩ := h
 refine ⟨A, c, h1, h2, h3, h4, fun i hi => ?_⟩
 obtain ⟨b, o, e, e1, e2, s, y1, y2, y3, y4, y5, y6, y7, g, g0, g1, g2, g3, g4, g5⟩ := h5 i hi
 have q := hk b e1
 exact ⟨b, o, e, hS _ e1, World.block_lt_of_cell? w' _ (q _ _ g0), s, y1, y2, y3, y4, y5, y6, y7, g, q _ _ g0, q _ _ g1, q _ _ g2, q _ _ g3, q _ _ g4, q _ _ g5⟩
def ixN : List (List UInt8) -> List UInt8 -> Int
 | [], _ => -1
 | a :: r, s => if a == s then 0 else if ixN r s = -1 then -1 else ixN r s + 1
theorem ixN_ge (D : List (List UInt8)) (s : List UInt8) : -1 <= ixN D s := by
 induction D with
 | nil => simp [ixN]
 | cons a r ih => simp only [ixN]; repeat' split
                  all_goals omega
theorem ixN_mem (D : List (List UInt8)) (s : List UInt8) : 0 <= ixN D s ↔ s ∈ D := by
 induction D with
 | nil => simp [ixN]
 | cons a r ih =>
   have := ixN_ge r s
   simp only [ixN, List.mem_cons]
   by_cases h : a = s
   ·subst h; simp
   ·have h1 : (a == s) = false := by simpa using h
    have h2 : s ≠ a := fun e => h e.symm
    simp only [h1, Bool.false_eq_true, if_false, h2, false_or, <- ih]
    by_cases h3 : ixN r s = -1
    ·simp [h3]
    ·rw [if_neg h3]; omega
theorem ixN_lt (D : List (List UInt8)) (s : List UInt8) : ixN D s < D.length := by
 induction D with
 | nil => simp [ixN]
 | cons a r ih =>
   simp only [ixN, List.length_cons]
   split
   ·push_cast; omega
   ·split <;> push_cast <;> omega
theorem ixN_drop (D : List (List UInt8)) (s : List UInt8) (k : Nat) (hk : k <= D.length) (h : ∀ i, i < k -> D.getD i [] ≠ s) : ixN D s = if ixN (D.drop k) s = -1 then -1 else ixN (D.drop k) s + k := by
 induction k with
 | zero => simp
 | succ k ih =>
   have hk' : k < D.length := hk
   rw [ih (by omega) (fun i hi => h i (by omega)), List.drop_eq_getElem_cons hk']
   have hne : D[k] ≠ s := by have := h k (by omega); simpa [List.getD, List.getElem?_eq_getElem hk'] using this
   have h1 : (D[k] == s) = false := by simpa using hne
   have := ixN_ge (D.drop (k + 1)) s
   simp only [ixN, h1, Bool.false_eq_true, if_false]
   by_cases h3 : ixN (D.drop (k + 1)) s = -1
   ·simp [h3]
   ·rw [if_neg h3, if_neg (by omega)]; push_cast; omega
theorem pred_any (w : World) (q : Nat) (s t : ByteArray) (y1 y2 y3 : Int) (y4 : ByteArray) (y5 : Option Addr) (y6 y7 : Nat) (hq : w.cell? ⟨q, 0, none⟩ = some (.string t)) :
  Calls Tryz.prog 115 #[.agg #[.string s, .int .i64 y1, .int .i64 y2, .int .i64 y3, .string y4, .slice y5 y6 y7], .pointer (some ⟨q, 0, none⟩)] w fun e w' => e = .returned (.bool (s.toList == t.toList)) /\ Below w.heap.size w w' := by
  have hlt := World.block_lt_of_cell? w _ hq
  go_enter Tryz.func115, Tryz.ntmps115
  go_wp2_with fail
  go_ret
  exact ⟨rfl, (Below.refl _ _).alloc (Nat.le_refl _) _⟩
theorem indexF_any (w : World) (S : Nat -> Prop) (v : Value) (D : List (List UInt8)) (q : Nat) (t : ByteArray) (h : Names w S v D) (hn : D.length <= 1000) (hq : w.cell? ⟨q, 0, none⟩ = some (.string t)) :
  Calls Tryz.prog 114 #[v, .func (.func 115) #[] #[.pointer (some ⟨q, 0, none⟩)]] w fun e w' => e = .returned (.int .i64 (ixN D t.data.toList)) /\ Below w.heap.size w w' := by
  have hlt := World.block_lt_of_cell? w _ hq
  obtain ⟨A, c, rfl, h1, h2, h3, h4⟩ := h
  obtain ⟨n, hnn⟩ : ∃ n, D.length = n := ⟨_, rfl⟩
  rw [hnn] at h1 h4 hn ⊢
  have H4 := Lib.hid h4; have H3 := Lib.hid h3; clear h3 h4
  have HN := Lib.hid hnn; clear hnn
  unfold maxLen at h2
  go_enter Tryz.func114, Tryz.ntmps114
  go_wp2_with fail
  go_loopg [8] n (fun gk v8 wr => ∃ k : Nat, v8 = .int .i64 k /\ gk = n - k /\ k <= n /\ Hid (∀ i, i < k -> D.getD i [] ≠ t.data.toList) /\ Hid (Below w.heap.size w wr))
  case atStart => exact ⟨0, rfl, rfl, Nat.zero_le _, Lib.hid (fun i hi => absurd hi (by omega)), Lib.hid (Below.refl _ _)⟩
  case round =>
   obtain ⟨k, rfl, hgk, hk, HK, HB⟩ := hrel
   have HGK := Lib.hid hgk; clear hgk
   have i0 : (0 : Int) <= (k : Int) := Int.natCast_nonneg _
   by_cases hlt2 : k < n
   ·obtain ⟨b, o, rfl, hSb, hbl, s, y1, y2, y3, y4, y5, y6, y7, e0, g0, g1, g2, g3, g4, g5⟩ := H4.out k hlt2
    obtain ⟨hcc, hff⟩ := bcell HB.out
    rw [<- hcc b _ hbl] at g0 g1 g2 g3 g4 g5
    have hq' : wr.cell? ⟨q, 0, none⟩ = some (.string t) := by rw [hcc q 0 hlt]; exact hq
    have hp := fun W hW => pred_any W q s t y1 y2 y3 y4 y5 y6 y7 hW
    have E0 := Lib.hid e0; clear e0 hcc hff
    have i1 : (k : Int) < (n : Int) := by omega
    have i2 : (n : Int) <= 1000 := by omega
    by_cases hs : D.getD k [] = t.data.toList
    ·have hb : (s.toList == t.toList) = true := by rw [ByteArray.toList_eq, ByteArray.toList_eq, E0.out, hs]; simp
     have hix : ixN D t.data.toList = k := by
      have hkd : k < D.length := by rw [HN.out]; exact hlt2
      have := ixN_drop D t.data.toList k (by omega) HK.out
      rw [this, List.drop_eq_getElem_cons hkd]
      have e : D[k] = t.data.toList := by simpa [List.getD, List.getElem?_eq_getElem hkd] using hs
      simp [ixN, e]
     rw [hb] at hp
     have HIX := Lib.hid hix; clear hix hs hb
     go_wp2_with (go_at_call 115; refine (hp _ hq').mono ?_; rintro e w2 ⟨rfl, hb2⟩)
     go_ret
     exact ⟨by rw [HIX.out]; rfl, HB.out.trans (hb2.mono HB.out.size)⟩
    ·have hb : (s.toList == t.toList) = false := by rw [ByteArray.toList_eq, ByteArray.toList_eq, E0.out]; simpa using hs
     rw [hb] at hp
     have HS := Lib.hid hs; clear hs hb
     go_wp2_with (go_at_call 115; refine (hp _ hq').mono ?_; rintro e w2 ⟨rfl, hb2⟩)
     go_roundg (n - (k + 1))
     case measure => have := HGK.out; omega
     case rel => exact ⟨k + 1, by go_num, rfl, hlt2, Lib.hid (fun i hi => by
      by_cases hik : i = k
      ·rw [hik]; exact HS.out
      ·exact HK.out i (by omega)), Lib.hid (HB.out.trans (hb2.mono HB.out.size))⟩
   ·have hkn : k = n := by omega
    subst hkn
    have hix : ixN D t.data.toList = -1 := by
     have := ixN_drop D t.data.toList k (by rw [HN.out]; exact Nat.le_refl _) HK.out
     rw [this, List.drop_eq_nil_of_le (by rw [HN.out]; exact Nat.le_refl _)]; rfl
    have HIX := Lib.hid hix; clear hix
    go_wp2_with fail
    go_ret
    exact ⟨by rw [HIX.out]; rfl, HB.out⟩
theorem defined_any (w : World) (S : Nat -> Prop) (v : Value) (D : List (List UInt8)) (t : ByteArray) (h : Names w S v D) (hS : ∀ g, S g -> g < w.heap.size) (hn : D.length <= 1000) :
  Calls Tryz.prog 93 #[v, .string t] w fun e w' => e = .returned (.int .i64 (ixN D t.data.toList)) /\ Below w.heap.size w w' := by
  have h' : Names (w.alloc (.cells #[.string t] 9)) S v D := h.keep (fun _ hg => hg) (fun g hg i x hx => by rw [World.cell?_alloc_past _ _ _ (hS g hg)]; exact hx)
  obtain ⟨A, c, rfl, -⟩ := h
  have hi := indexF_any (w.alloc (.cells #[.string t] 9)) S _ D w.heap.size t h' hn (by simp)
  have HI := Lib.hid hi; clear hi h' hS
  generalize D.length = n at *
  go_enter Tryz.func93, Tryz.ntmps93
  go_wp2_with fail
  refine HI.out.mono ?_
  rintro e w2 ⟨rfl, hb⟩
  go_wp2_with fail
  go_ret
  exact ⟨rfl, ((Below.refl _ _).alloc (Nat.le_refl _) _).trans (hb.mono (by simp))⟩
end Go.Proofs.YtalgnnidhnhciaaGreatDoor
