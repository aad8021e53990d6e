/- Contracts of how the laws make patterns of raw ones. -/
import Derived.Test.YtfccnadbiglagaaGreatVSynLc
import Derived.Test.YtfccnadbiglagaaGreatVAny
import Derived.OpenShut
set_option linter.unusedVariables false
set_option linter.unusedSimpArgs false
set_option maxRecDepth 100000
set_option maxHeartbeats 16000000
namespace Go.Proofs.YtfccnadbiglagaaGreat
open Go Go.RowKit Go.Proofs
def MadeR (w : World) (p : Pat) (e : Ending) (w' : World) : Prop :=
 ∃ v, e = .returned v /\ HeadV true v /\ TreeV true w' (fun g => w.heap.size <= g) v p.tree /\ Below w.heap.size w w'
structure MkS (w : World) (k n : Int) (L : Option Addr) (m c : Nat) (W : World) : Prop where
 below : Below w.heap.size w W
 box : Blk W w.heap.size 35 #[.int .i64 k, .int .i64 n, .slice L m c]
 res : Blk W (w.heap.size + 1) 33 #[.int .i64 0, .int .i64 0, .int .i64 0, .int .i64 0, .string ⟨#[]⟩, .slice none 0 0]
theorem MkS.mk' (w : World) (k n : Int) (L : Option Addr) (m c : Nat) : MkS w k n L m c ((w.alloc (.cells #[.int .i64 k, .int .i64 n, .slice L m c] 35)).alloc (.cells #[.int .i64 0, .int .i64 0, .int .i64 0, .int .i64 0, .string ⟨#[]⟩, .slice none 0 0] 33)) := by
 have h := Blk.new (w.alloc (.cells #[.int .i64 k, .int .i64 n, .slice L m c] 35)) 33 #[.int .i64 0, .int .i64 0, .int .i64 0, .int .i64 0, .string ⟨#[]⟩, .slice none 0 0]
 exact ⟨((Below.refl _ _).alloc (Nat.le_refl _) _).alloc (by simp) _, Blk.alloc (Blk.new w _ _) _, by simpa using h⟩
section
variable {w W W' : World} {k n : Int} {L : Option Addr} {m c : Nat}
theorem MkS.drew (h : MkS w k n L m c W) : MkS w k n L m c W.drew := ⟨h.below.drew, Blk.drew h.box, Blk.drew h.res⟩
theorem MkS.size (h : MkS w k n L m c W) : w.heap.size + 1 < W.heap.size := h.res.lt
theorem MkS.below' (h : MkS w k n L m c W) (hb : Below W.heap.size W W') : MkS w k n L m c W' :=
 ⟨h.below.trans (hb.mono h.below.size), Blk.below h.box hb h.box.lt, Blk.below h.res hb h.res.lt⟩
theorem MkS.alloc (h : MkS w k n L m c W) (o : Obj) : MkS w k n L m c (W.alloc o) := ⟨h.below.alloc h.below.size o, Blk.alloc h.box o, Blk.alloc h.res o⟩
theorem MkS.c0 (h : MkS w k n L m c W) : W.cell? ⟨w.heap.size, 0, none⟩ = some (.int .i64 k) := Blk.cell h.box 0
theorem MkS.c1 (h : MkS w k n L m c W) : W.cell? ⟨w.heap.size, 1, none⟩ = some (.int .i64 n) := Blk.cell h.box 1
theorem MkS.c2 (h : MkS w k n L m c W) : W.cell? ⟨w.heap.size, 2, none⟩ = some (.slice L m c) := Blk.cell h.box 2
theorem MkS.r0 (h : MkS w k n L m c W) : W.cell? ⟨w.heap.size + 1, 0, none⟩ = some (.int .i64 0) := Blk.cell h.res 0
theorem MkS.r1 (h : MkS w k n L m c W) : W.cell? ⟨w.heap.size + 1, 1, none⟩ = some (.int .i64 0) := Blk.cell h.res 1
theorem MkS.r2 (h : MkS w k n L m c W) : W.cell? ⟨w.heap.size + 1, 2, none⟩ = some (.int .i64 0) := Blk.cell h.res 2
theorem MkS.r3 (h : MkS w k n L m c W) : W.cell? ⟨w.heap.size + 1, 3, none⟩ = some (.int .i64 0) := Blk.cell h.res 3
theorem MkS.r4 (h : MkS w k n L m c W) : W.cell? ⟨w.heap.size + 1, 4, none⟩ = some (.string ⟨#[]⟩) := Blk.cell h.res 4
theorem MkS.r5 (h : MkS w k n L m c W) : W.cell? ⟨w.heap.size + 1, 5, none⟩ = some (.slice none 0 0) := Blk.cell h.res 5
theorem MkS.fr (h : MkS w k n L m c W) (i : Nat) : W.frozen? ⟨w.heap.size + 1, i, none⟩ = false := Blk.frozen h.res i
theorem MkS.bx (h : MkS w k n L m c W) : W.cell? ⟨w.heap.size, 0, none⟩ = some (.int .i64 k) /\ W.cell? ⟨w.heap.size, 1, none⟩ = some (.int .i64 n) /\ W.cell? ⟨w.heap.size, 2, none⟩ = some (.slice L m c) := ⟨h.c0, h.c1, h.c2⟩
theorem MkS.far (h : MkS w k n L m c W) {p : Addr} {u : Value} (hp : w.cell? p = some u) : W.cell? p = some u := by
 rw [h.below.cell (World.block_lt_of_cell? w _ hp)]; exact hp
theorem MkS.fin (h : MkS w k n L m c W) {p : Pat} {k' lo' hi' wt' : Int} {s : ByteArray} {A : Option Addr} {n' c' : Nat} (ht : TreeV true W (fun g => w.heap.size + 1 < g) (.agg #[.int .i64 k', .int .i64 lo', .int .i64 hi', .int .i64 wt', .string s, .slice A n' c']) p.tree) :
  MadeR w p (.returned (.agg #[.int .i64 k', .int .i64 lo', .int .i64 hi', .int .i64 wt', .string s, .slice A n' c'])) (put6 W (w.heap.size + 1) (.int .i64 k') (.int .i64 lo') (.int .i64 hi') (.int .i64 wt') (.string s) (.slice A n' c')) :=
  ⟨_, rfl, ⟨k', lo', hi', wt', s, A, n', c', rfl⟩, (ht.put6_ (fun g hg => Nat.ne_of_gt hg) _ _ _ _ _ _).keep (fun g hg => by omega) (fun _ _ _ _ h => h), below_put6 h.below (Nat.le_succ _) _ _ _ _ _ _⟩
end
theorem names_blk (w : World) : Calls Tryz.prog 36 #[] w fun e w' => e = .returned (.slice (some ⟨w.heap.size, 0, none⟩) 6 6) /\ Blk w' w.heap.size 9 namesA /\ Below w.heap.size w w' := by
 refine (names_any w).mono fun e w' ⟨h1, h2⟩ => ?_
 subst h2
 exact ⟨h1, Blk.new _ _ _, (Below.refl _ _).alloc (Nat.le_refl _) _⟩
theorem names_at {w : World} {g : Nat} (h : Blk w g 9 namesA) {J : Nat} (hJ : J < 4) : ∃ t : ByteArray, t.data.toList = nm4 J /\ w.cell? ⟨g, J, none⟩ = some (.string t) := by
 have hc := Blk.cell h J
 have : J = 0 \/ J = 1 \/ J = 2 \/ J = 3 := by omega
 rcases this with rfl | rfl | rfl | rfl
 ·exact ⟨⟨#[97]⟩, rfl, hc⟩
 ·exact ⟨⟨#[118]⟩, rfl, hc⟩
 ·exact ⟨⟨#[100]⟩, rfl, hc⟩
 ·exact ⟨⟨#[115]⟩, rfl, hc⟩
theorem TreeV.one6 {W : World} {N : Nat} {T : TypeId} {S : Nat -> Prop} {k lo hi wt : Int} {nm : ByteArray} {A : Option Addr} {n c : Nat} {t : Tree} (K lo' hi' wt' : Int) (h : Blk W N T #[.int .i64 k, .int .i64 lo, .int .i64 hi, .int .i64 wt, .string nm, .slice A n c])
  (ht : TreeV true W S (.agg #[.int .i64 k, .int .i64 lo, .int .i64 hi, .int .i64 wt, .string nm, .slice A n c]) t) (hN : S N) : TreeV true W S (.agg #[.int .i64 K, .int .i64 lo', .int .i64 hi', .int .i64 wt', .string ⟨#[]⟩, .slice (some ⟨N, 0, none⟩) 1 1]) (.mk K lo' hi' wt' [] [t]) := by
  refine ⟨⟨#[]⟩, some ⟨N, 0, none⟩, 1, 1, rfl, rfl, (fun e => by cases e), rfl, Nat.le_refl _, by unfold maxLen; omega, ⟨(fun e => by cases e), (fun _ _ _ e => by cases e; rfl)⟩, fun b' o' e _ => ?_⟩
  cases e
  refine ⟨hN, ?_⟩
  rw [TreesAt, TreesAt]
  exact ⟨TreeV.laid (k := k) (lo := lo) (hi := hi) (wt := wt) (s := nm) (A := A) (n := n) (c := c) ht (cellsAt_of_blk h 0 _ fun i v hv => by rw [<- hv]; simp [headC]), trivial⟩
theorem TreeV.two6 {W : World} {N : Nat} {T : TypeId} {S : Nat -> Prop} {k lo hi wt k1 lo1 hi1 wt1 : Int} {nm nm1 : ByteArray} {A A1 : Option Addr} {n c n1 c1 : Nat} {t t1 : Tree} (K : Int)
  (h : Blk W N T #[.int .i64 k, .int .i64 lo, .int .i64 hi, .int .i64 wt, .string nm, .slice A n c, .int .i64 k1, .int .i64 lo1, .int .i64 hi1, .int .i64 wt1, .string nm1, .slice A1 n1 c1])
  (ht : TreeV true W S (.agg #[.int .i64 k, .int .i64 lo, .int .i64 hi, .int .i64 wt, .string nm, .slice A n c]) t) (ht1 : TreeV true W S (.agg #[.int .i64 k1, .int .i64 lo1, .int .i64 hi1, .int .i64 wt1, .string nm1, .slice A1 n1 c1]) t1) (hN : S N) :
  TreeV true W S (.agg #[.int .i64 K, .int .i64 0, .int .i64 0, .int .i64 0, .string ⟨#[]⟩, .slice (some ⟨N, 0, none⟩) 2 2]) (.mk K 0 0 0 [] [t, t1]) := by
  refine ⟨⟨#[]⟩, some ⟨N, 0, none⟩, 2, 2, rfl, rfl, (fun e => by cases e), rfl, Nat.le_refl _, by unfold maxLen; omega, ⟨(fun e => by cases e), (fun _ _ _ e => by cases e; rfl)⟩, fun b' o' e _ => ?_⟩
  cases e
  refine ⟨hN, ?_⟩
  rw [TreesAt, TreesAt, TreesAt]
  refine ⟨TreeV.laid (k := k) (lo := lo) (hi := hi) (wt := wt) (s := nm) (A := A) (n := n) (c := c) ht (cellsAt_of_blk h 0 _ fun i v hv => ?_), TreeV.laid (k := k1) (lo := lo1) (hi := hi1) (wt := wt1) (s := nm1) (A := A1) (n := n1) (c := c1) ht1 (cellsAt_of_blk h 6 _ fun i v hv => ?_), trivial⟩
  all_goals
   have hi6 : i < 6 := by have := (List.getElem?_eq_some_iff.1 hv).1; simpa [headC] using this
   have : i = 0 \/ i = 1 \/ i = 2 \/ i = 3 \/ i = 4 \/ i = 5 := by omega
   rcases this with rfl | rfl | rfl | rfl | rfl | rfl <;> simpa [headC] using hv
theorem put6_alloc {W : World} {H : Nat} (hH : H < W.heap.size) (o : Obj) (a1 a2 a3 a4 a5 a6 : Value) : put6 (W.alloc o) H a1 a2 a3 a4 a5 a6 = (put6 W H a1 a2 a3 a4 a5 a6).alloc o := by
 unfold put6
 rw [put5_alloc hH, World.setCell_alloc_past o H 5 a6 (by simpa [put5, World.setCell] using hH)]
theorem wf_bounds {n : Int} (h : (Lit.int .i64 n).wf = true) : -9223372036854775808 <= n /\ n <= 9223372036854775807 := by
 have := Go.bounds_i64 h
 omega
theorem tdiv_in {n : Int} (h : (Lit.int .i64 n).wf = true) : IntKind.i64.wrap (n.tdiv 3) = n.tdiv 3 := by
 have hb := wf_bounds h
 refine IntWalk.i64_in _ ?_
 have h1 : n.tdiv 3 * 3 + n.tmod 3 = n := Int.tdiv_mul_add_tmod n 3
 have h2 := Int.tmod_lt_of_pos n (show (0 : Int) < 3 by omega)
 have h3 : -3 < n.tmod 3 := by
  have := Int.tmod_lt_of_pos (-n) (show (0 : Int) < 3 by omega)
  rw [Int.neg_tmod] at this
  omega
 omega
theorem part_lit (right : Bool) (k n : Int) (L : Option Addr) (m c i : Nat) (hi : m <= i) (hi1 : i <= 1) (hm : m <= 1000) (w : World) :
  Calls Tryz.prog 39 #[.agg #[.int .i64 k, .int .i64 n, .slice L m c], .int .i64 i, .bool right] w (MadeR w (rawLit n i)) := by
  obtain ⟨iv, hiv⟩ : ∃ iv : Int, (i : Int) = iv := ⟨_, rfl⟩
  obtain ⟨mv, hmv⟩ : ∃ mv : Int, (m : Int) = mv := ⟨_, rfl⟩
  have hp : rawLit n i = .set (nm4 (wthN (IntKind.i64.wrap (n + iv)) 4)) := by rw [<- hiv]; rfl
  obtain ⟨z, hz⟩ : ∃ z, IntKind.i64.wrap (n + iv) = z := ⟨_, rfl⟩
  obtain ⟨J, hJ⟩ : ∃ J, wthN z 4 = J := ⟨_, rfl⟩
  have hJ4 : J < 4 := by rw [<- hJ]; exact wthN_lt z 4 (by omega)
  have hw := fun w => wth_any z 4 (by omega) (by omega) w
  rw [hJ] at hw
  rw [hz, hJ] at hp
  rw [hp, hiv]
  obtain ⟨Jv, hJv⟩ : ∃ Jv : Int, (J : Int) = Jv := ⟨_, rfl⟩
  have hlt : ¬ iv < (m : Int) := by omega
  have HS := MkS.mk' w k n L m c
  have HW := Lib.hid hw; have H0 := Lib.hid HS; have HZ := Lib.hid hz
  clear hw hp hz hJ HS hiv hmv hJv Jv
  go_enter Tryz.func39, Tryz.ntmps39
  go_wp2_with fail
  obtain ⟨W0, hW0⟩ : ∃ W0, (w.alloc (.cells #[.int .i64 k, .int .i64 n, .slice L m c] 35)).alloc (.cells #[.int .i64 0, .int .i64 0, .int .i64 0, .int .i64 0, .string ⟨#[]⟩, .slice none 0 0] 33) = W0 := ⟨_, rfl⟩
  have h0 := H0.out
  rw [hW0] at h0 ⊢
  clear hW0 H0
  have h0d := h0.drew
  refine region_x 9 (fun w' : World => w'.cell? ⟨w.heap.size, 1, none⟩ = some (.int .i64 n)) (by kernel_rfl) ?_
  have hS : W0.drew.cell? ⟨w.heap.size, 1, none⟩ = some (.int .i64 n) := h0d.c1
  refine anyX_take (i := 1) (v := ?_) rfl (by kernel_rfl) (by kernel_rfl) (by kernel_rfl) (by kernel_rfl) (fun _ _ _ h => h) (Or.inl ⟨by rfl, ?_⟩) hS ?_
  rotate_left
  ·rintro w' s1
   go_simp
   try with_reducible rfl
  try simp only [Act.put, List.getElem_toArray, List.getElem_cons_succ, List.getElem_cons_zero, List.setIfInBounds_toArray, List.set_cons_zero, List.set_cons_succ]
  refine anyX_take (i := 2) (v := ?_) rfl (by kernel_rfl) (by kernel_rfl) (by kernel_rfl) (by kernel_rfl) (fun _ _ _ h => h) (Or.inl ⟨by rfl, ?_⟩) hS ?_
  rotate_left
  ·rintro w' s1
   go_simp
   try with_reducible rfl
  try simp only [Act.put, List.getElem_toArray, List.getElem_cons_succ, List.getElem_cons_zero, List.setIfInBounds_toArray, List.set_cons_zero, List.set_cons_succ]
  refine anyX_take (i := 3) (v := ?_) rfl (by kernel_rfl) (by kernel_rfl) (by kernel_rfl) (by kernel_rfl) (fun _ _ _ h => h) (Or.inl ⟨by rfl, ?_⟩) hS ?_
  rotate_left
  ·rintro w' s1
   go_simp
   try with_reducible rfl
  try simp only [Act.put, List.getElem_toArray, List.getElem_cons_succ, List.getElem_cons_zero, List.setIfInBounds_toArray, List.set_cons_zero, List.set_cons_succ]
  refine anyX_take (i := 4) (v := .int .i64 (IntKind.i64.wrap (n + iv))) rfl (by kernel_rfl) (by kernel_rfl) (by kernel_rfl) (by kernel_rfl) (fun _ _ _ h => h) (Or.inl ⟨by rfl, ?_⟩) hS ?_
  ·rintro w' s1
   go_simp
   try with_reducible rfl
  try simp only [Act.put, List.getElem_toArray, List.getElem_cons_succ, List.getElem_cons_zero, List.setIfInBounds_toArray, List.set_cons_zero, List.set_cons_succ]
  rw [HZ.out]
  refine anyX_g (i := 0) (by kernel_rfl) (by decide) rfl (by rfl) ?_
  intro K hK
  try simp only [List.getElem_toArray, List.getElem_cons_succ, List.getElem_cons_zero]
  refine wp_enterE #[] Tryz.func36 (by kernel_rfl) (by kernel_rfl) ?_ (names_blk W0.drew) ?_
  ·go_simp
  rintro e w1 ⟨rfl, hN, hb1⟩
  refine ⟨_, rfl, ?_⟩
  have h1 := h0d.below' hb1
  have hS1 : w1.cell? ⟨w.heap.size, 1, none⟩ = some (.int .i64 n) := h1.c1
  have hsz : w.heap.size + 1 < W0.drew.heap.size := h0d.size
  refine hK _ _ hS1 ?_
  clear hK
  try simp only [Act.put, List.getElem_toArray, List.getElem_cons_succ, List.getElem_cons_zero, List.setIfInBounds_toArray, List.set_cons_zero, List.set_cons_succ]
  refine anyX_g (i := 5) (by kernel_rfl) (by decide) rfl (by rfl) ?_
  intro K hK
  try simp only [List.getElem_toArray, List.getElem_cons_succ, List.getElem_cons_zero]
  refine wp_enterE #[.int .i64 z, .int .i64 4] Tryz.func38 (by kernel_rfl) (by kernel_rfl) ?_ (HW.out w1) ?_
  ·go_simp
  rintro e W ⟨rfl, rfl⟩
  refine ⟨_, rfl, ?_⟩
  refine hK _ _ hS1 ?_
  clear hK
  try simp only [Act.put, List.getElem_toArray, List.getElem_cons_succ, List.getElem_cons_zero, List.setIfInBounds_toArray, List.set_cons_zero, List.set_cons_succ]
  have hcJ : ∃ t : ByteArray, t.data.toList = nm4 J /\ w1.cell? ⟨W0.heap.size, J, none⟩ = some (.string t) := names_at hN hJ4
  obtain ⟨t, ht, hcJ⟩ := hcJ
  have J0 : (0 : Int) <= (J : Int) := by omega
  have J1 : (J : Int) < 6 := by omega
  have J2 : J < 6 := by omega
  refine anyX_take (i := 6) (v := ?_) rfl (by kernel_rfl) (by kernel_rfl) (by kernel_rfl) (by kernel_rfl) (fun _ _ _ h => h) (Or.inl ⟨by rfl, ?_⟩) hS1 ?_
  rotate_left
  ·rintro w' s1
   go_simp
   try with_reducible rfl
  try simp only [Act.put, List.getElem_toArray, List.getElem_cons_succ, List.getElem_cons_zero, List.setIfInBounds_toArray, List.set_cons_zero, List.set_cons_succ]
  refine anyX_g (i := 7) (by kernel_rfl) (by decide) rfl (by rfl) ?_
  intro K hK
  try simp only [List.getElem_toArray, List.getElem_cons_succ, List.getElem_cons_zero]
  go_simp
  refine hK _ _ hS1 ?_
  clear hK
  try simp only [Act.put, List.getElem_toArray, List.getElem_cons_succ, List.getElem_cons_zero, List.setIfInBounds_toArray, List.set_cons_zero, List.set_cons_succ]
  refine anyX_take (i := 8) (v := ?_) rfl (by kernel_rfl) (by kernel_rfl) (by kernel_rfl) (by kernel_rfl) (fun _ _ _ h => h) (Or.inl ⟨by rfl, ?_⟩) hS1 ?_
  rotate_left
  ·rintro w' s1
   go_simp
   try with_reducible rfl
  try simp only [Act.put, List.getElem_toArray, List.getElem_cons_succ, List.getElem_cons_zero, List.setIfInBounds_toArray, List.set_cons_zero, List.set_cons_succ]
  have r0 := h1.r0; have r1 := h1.r1; have r2 := h1.r2; have r3 := h1.r3; have r4 := h1.r4; have r5 := h1.r5
  have fr := h1.fr
  have hfin := h1.fin (p := .set (nm4 J)) (k' := 2) (lo' := 0) (hi' := 0) (wt' := 0) (s := t) (A := none) (n' := 0) (c' := 0) (by rw [<- ht]; exact TreeV.leaf true w1 _ 2 0 0 0 t (fun e => by cases e))
  have HF := Lib.hid hfin
  clear hfin h1 hN hb1 hS1 hS h0 h0d ht hcJ
  refine anyX_last (by kernel_rfl) (by kernel_rfl) rfl rfl ?_
  try simp only [List.getElem_toArray, List.getElem_cons_succ, List.getElem_cons_zero]
  go_simp
  try apply_assumption
  go_wp2_with fail
  exact bodyPost_ret (v := .agg #[.int .i64 2, .int .i64 0, .int .i64 0, .int .i64 0, .string t, .slice none 0 0]) (by simp [results, Tryz.results39, go_sem, r0, r1, r2, r3, r4, r5]) rfl HF.out
theorem part_any (right : Bool) (f : Nat) (IH : ∀ (y : RawP) (W : World) (u : Value), FewR f y -> RawL W u y.l -> (Lit.int .i64 y.n).wf = true -> Calls Tryz.prog 16 #[.agg #[.int .i64 y.k, .int .i64 y.n, u], .bool right] W (MadeR W (y.pat right)))
  (x : RawP) (w : World) (v : Value) (hx : FewR (f + 1) x) (hv : RawL w v x.l) (i : Nat) (hi1 : i <= 1) :
  Calls Tryz.prog 39 #[.agg #[.int .i64 x.k, .int .i64 x.n, v], .int .i64 i, .bool right] w (MadeR w (x.part right i)) := by
  have hv0 := hv
  obtain ⟨L, m, c, rfl, hm, hmc, hc, -, -⟩ := hv
  have hm30 : m <= 1000 := by
   obtain ⟨f', e, hs⟩ := sizeR_few hx
   have h30 : sizeR (f + 1) x.l <= 30 := hx
   have hsum : ∀ l : List RawP, l.length <= sumR f' l := fun l => by
    induction l with
    | nil => exact Nat.zero_le _
    | cons y l ih => rw [sumR, List.length_cons]; omega
   have := hsum x.l
   omega
  by_cases him : i < m
  ·have hil : i < x.l.length := by omega
   have hy : x.l[i]? = some x.l[i] := List.getElem?_eq_getElem hil
   obtain ⟨f', e, hfy⟩ := hx.part hy
   obtain rfl : f' = f := by omega
   have hp : x.part right i = (x.l[i]).pat right := by unfold RawP.part; rw [hy]
   obtain ⟨g, o, m', c', u, e1, -, -, -, hcs, -, hwn, hu⟩ := hv0.get hil
   injection e1 with e1 e2 e3
   subst e1; subst e2; subst e3
   obtain ⟨q0, q1, q2⟩ := hcs.at3
   rw [hp]
   have hco := fun W (hW : Below w.heap.size w W) => IH x.l[i] W u hfy (hu.below hW) hwn
   obtain ⟨A2, m2, c2, rfl, -⟩ := hu
   generalize x.l[i] = y at *
   obtain ⟨ky, hky⟩ : ∃ z, y.k = z := ⟨_, rfl⟩
   obtain ⟨ny, hny⟩ : ∃ z, y.n = z := ⟨_, rfl⟩
   obtain ⟨kx, hkx⟩ : ∃ z, x.k = z := ⟨_, rfl⟩
   obtain ⟨nx, hnx⟩ : ∃ z, x.n = z := ⟨_, rfl⟩
   rw [hky, hny] at hco
   rw [hky] at q0
   rw [hny] at q1
   rw [hkx, hnx]
   have i0 : (0 : Int) <= (i : Int) := by omega
   have i1 : (i : Int) < (m : Int) := by omega
   have h0 := MkS.mk' w kx nx (some ⟨g, o, none⟩) m c
   have HCO := Lib.hid hco; have H0 := Lib.hid h0
   have p0 := MkS.far H0.out q0; have p1 := MkS.far H0.out q1; have p2 := MkS.far H0.out q2
   have P0 := Lib.hid p0; have P1 := Lib.hid p1; have P2 := Lib.hid p2
   clear hco h0 hkx hnx hky hny hp hx hfy hv0 hcs hwn q0 q1 q2 p0 p1 p2 IH hy e
   go_enter Tryz.func39, Tryz.ntmps39
   have p0 := P0.out; have p1 := P1.out; have p2 := P2.out
   go_wp2_with fail
   obtain ⟨W0, hW0⟩ : ∃ W0, (w.alloc (.cells #[.int .i64 kx, .int .i64 nx, .slice (some ⟨g, o, none⟩) m c] 35)).alloc (.cells #[.int .i64 0, .int .i64 0, .int .i64 0, .int .i64 0, .string ⟨#[]⟩, .slice none 0 0] 33) = W0 := ⟨_, rfl⟩
   have h0 := H0.out
   rw [hW0] at h0 ⊢
   clear hW0 H0 P0 P1 P2 p0 p1 p2
   refine (HCO.out W0 h0.below).mono ?_
   rintro e w2 ⟨v2, rfl, hh2, ht2, hb2⟩
   obtain ⟨k2, lo2, hi2, wt2, nm2, A2, n2, c2, rfl⟩ := hh2.lit6'
   have h2 := h0.below' hb2
   have hz := h0.size
   have r0 := h2.r0; have r1 := h2.r1; have r2 := h2.r2; have r3 := h2.r3; have r4 := h2.r4; have r5 := h2.r5
   have fr := h2.fr
   have hlt := Nat.lt_of_succ_lt h2.size; have hlt' := h2.size
   have hfin := h2.fin (p := y.pat right) (ht2.keep (fun g hg => by have : W0.heap.size <= g := hg; omega) (fun _ _ _ _ h => h))
   have HF := Lib.hid hfin
   clear hfin h2 h0 hb2 ht2 hh2
   go_wp2_with fail
   exact bodyPost_ret (v := .agg #[.int .i64 k2, .int .i64 lo2, .int .i64 hi2, .int .i64 wt2, .string nm2, .slice A2 n2 c2]) (by simp [results, Tryz.results39, go_sem, World.cell?_alloc_past, hlt, hlt', r0, r1, r2, r3, r4, r5]) rfl HF.out
  ·have hp : x.part right i = rawLit x.n i := by unfold RawP.part; rw [List.getElem?_eq_none (by omega)]
   rw [hp]
   exact part_lit right x.k x.n L m c i (by omega) hi1 hm30 w
theorem make_step (right : Bool) (x : RawP) (w : World) (L : Option Addr) (m c : Nat) (k n : Int) (hk : x.k = k) (hn : x.n = n) (hwn : (Lit.int .i64 n).wf = true)
  (hP : ∀ (i : Nat), i <= 1 -> ∀ W, Below w.heap.size w W -> Calls Tryz.prog 39 #[.agg #[.int .i64 k, .int .i64 n, .slice L m c], .int .i64 i, .bool right] W (MadeR W (x.part right i))) :
  Calls Tryz.prog 16 #[.agg #[.int .i64 k, .int .i64 n, .slice L m c], .bool right] w (MadeR w (x.pat right)) := by
  have hpat := RawP.pat_eq right x
  rw [hk, hn] at hpat
  obtain ⟨p0, hp0⟩ : ∃ p, x.part right 0 = p := ⟨_, rfl⟩
  obtain ⟨p1, hp1⟩ : ∃ p, x.part right 1 = p := ⟨_, rfl⟩
  rw [hp0, hp1] at hpat
  have hP0 := hP 0 (by omega); have hP1 := hP 1 (by omega)
  rw [hp0] at hP0
  rw [hp1] at hP1
  rw [hpat]
  obtain ⟨J, hJ⟩ : ∃ J, wthN k 20 = J := ⟨_, rfl⟩
  have hmk : rawMk right k n p0 p1 = if J < 1 then .none_ else if J < 6 then .set (nm4 (wthN n 4)) else if J < 8 then .any_ else if J < 13 then .cat p0 p1 else if J < 15 then .alt p0 p1 else if J < 16 then .star p0 else if J < 18 then .times p0 (wthN n 3) (wthN n 3 + wthN (n.tdiv 3) 3) else if right then p0 else .weight p0 (wthN n 7) := by rw [<- hJ]; rfl
  have hwJ := fun w => wth_any k 20 (by omega) (by omega) w
  rw [hJ] at hwJ
  obtain ⟨TOT, hTOT⟩ : ∃ p, rawMk right k n p0 p1 = p := ⟨_, rfl⟩
  rw [hTOT] at hmk ⊢
  obtain ⟨Jv, hJv⟩ : ∃ Jv : Int, (J : Int) = Jv := ⟨_, rfl⟩
  have j0 : (0 : Int) <= Jv := by omega
  rw [hJv] at hwJ
  have HS := MkS.mk' w k n L m c
  have HWJ := Lib.hid hwJ; have H0 := Lib.hid HS; have HM := Lib.hid hmk; have HJ := Lib.hid hJv; have HP0 := Lib.hid hP0; have HP1 := Lib.hid hP1; have HWN := Lib.hid hwn
  clear hwJ HS hmk hJv hP0 hP1 hP hwn hJ hTOT hp0 hp1 hpat hk hn
  go_enter Tryz.func16, Tryz.ntmps16
  go_wp2_with fail
  refine (HWJ.out _).mono ?_
  rintro e W ⟨rfl, rfl⟩
  obtain ⟨W0, hW0⟩ : ∃ W0, (w.alloc (.cells #[.int .i64 k, .int .i64 n, .slice L m c] 35)).alloc (.cells #[.int .i64 0, .int .i64 0, .int .i64 0, .int .i64 0, .string ⟨#[]⟩, .slice none 0 0] 33) = W0 := ⟨_, rfl⟩
  have h0 := H0.out
  rw [hW0] at h0 ⊢
  clear hW0 H0 HWJ
  have hlt0 := h0.size
  by_cases h1 : Jv < 1
  ·have b1 : decide (Jv < 1) = true := by simp; omega
   have hq := HM.out
   rw [if_pos (by have := HJ.out; omega)] at hq
   have r0 := h0.r0; have r1 := h0.r1; have r2 := h0.r2; have r3 := h0.r3; have r4 := h0.r4; have r5 := h0.r5
   have fr := h0.fr
   have hlt := Nat.lt_of_succ_lt h0.size; have hlt' := h0.size
   have hfin := h0.fin (p := TOT) (k' := 1) (lo' := 0) (hi' := 0) (wt' := 0) (s := ⟨#[]⟩) (A := none) (n' := 0) (c' := 0) (by rw [hq]; exact TreeV.leaf true W0 _ 1 0 0 0 ⟨#[]⟩ (fun e => by cases e))
   have HF := Lib.hid hfin
   clear hfin h0 hq HM
   go_wp2_with fail
   exact bodyPost_ret (v := .agg #[.int .i64 1, .int .i64 0, .int .i64 0, .int .i64 0, .string ⟨#[]⟩, .slice none 0 0]) (by simp [results, Tryz.results16, go_sem, World.cell?_alloc_past, hlt, hlt', r0, r1, r2, r3, r4, r5]) rfl HF.out
  ·have b1 : decide (Jv < 1) = false := by simp; omega
   have g1 : 1 <= Jv := by omega
   have hq := HM.out
   rw [if_neg (by have := HJ.out; omega)] at hq
   clear HM h1
   have HM := Lib.hid hq; clear hq
   by_cases h6 : Jv < 6
   ·have b6 : decide (Jv < 6) = true := by simp; omega
    have hq := HM.out
    rw [if_pos (by have := HJ.out; omega)] at hq
    obtain ⟨J4, hJ4⟩ : ∃ J, wthN n 4 = J := ⟨_, rfl⟩
    have hJ4l : J4 < 4 := by rw [<- hJ4]; exact wthN_lt n 4 (by omega)
    have hw4 := fun w => wth_any n 4 (by omega) (by omega) w
    rw [hJ4] at hw4 hq
    have HW4 := Lib.hid hw4; have HQ := Lib.hid hq
    clear hw4 hq hJ4 HM
    go_wp2_with fail
    refine region_x 7 (fun w' : World => w'.cell? ⟨w.heap.size, 0, none⟩ = some (.int .i64 k) /\ w'.cell? ⟨w.heap.size, 1, none⟩ = some (.int .i64 n) /\ w'.cell? ⟨w.heap.size, 2, none⟩ = some (.slice L m c)) (by kernel_rfl) ?_
    have h0d := h0.drew
    have hS := h0d.bx
    refine anyX_take (i := 1) (v := ?_) rfl (by kernel_rfl) (by kernel_rfl) (by kernel_rfl) (by kernel_rfl) (fun _ _ _ h => h) (Or.inl ⟨by rfl, ?_⟩) hS ?_
    rotate_left
    ·rintro w' ⟨s0, s1, s2⟩
     go_simp
     try with_reducible rfl
    try simp only [Act.put, List.getElem_toArray, List.getElem_cons_succ, List.getElem_cons_zero, List.setIfInBounds_toArray, List.set_cons_zero, List.set_cons_succ]
    refine anyX_take (i := 2) (v := ?_) rfl (by kernel_rfl) (by kernel_rfl) (by kernel_rfl) (by kernel_rfl) (fun _ _ _ h => h) (Or.inl ⟨by rfl, ?_⟩) hS ?_
    rotate_left
    ·rintro w' ⟨s0, s1, s2⟩
     go_simp
     try with_reducible rfl
    try simp only [Act.put, List.getElem_toArray, List.getElem_cons_succ, List.getElem_cons_zero, List.setIfInBounds_toArray, List.set_cons_zero, List.set_cons_succ]
    refine anyX_g (i := 0) (by kernel_rfl) (by decide) rfl (by rfl) ?_
    intro K hK
    try simp only [List.getElem_toArray, List.getElem_cons_succ, List.getElem_cons_zero]
    refine wp_enterE #[] Tryz.func36 (by kernel_rfl) (by kernel_rfl) ?_ (names_blk W0.drew) ?_
    ·go_simp
    rintro e w1 ⟨rfl, hN, hb1⟩
    refine ⟨_, rfl, ?_⟩
    have h1 := h0d.below' hb1
    have hS1 := h1.bx
    refine hK _ _ hS1 ?_
    clear hK
    try simp only [Act.put, List.getElem_toArray, List.getElem_cons_succ, List.getElem_cons_zero, List.setIfInBounds_toArray, List.set_cons_zero, List.set_cons_succ]
    refine anyX_g (i := 3) (by kernel_rfl) (by decide) rfl (by rfl) ?_
    intro K hK
    try simp only [List.getElem_toArray, List.getElem_cons_succ, List.getElem_cons_zero]
    refine wp_enterE #[.int .i64 n, .int .i64 4] Tryz.func38 (by kernel_rfl) (by kernel_rfl) ?_ (HW4.out w1) ?_
    ·go_simp
    rintro e W ⟨rfl, rfl⟩
    refine ⟨_, rfl, ?_⟩
    refine hK _ _ hS1 ?_
    clear hK
    try simp only [Act.put, List.getElem_toArray, List.getElem_cons_succ, List.getElem_cons_zero, List.setIfInBounds_toArray, List.set_cons_zero, List.set_cons_succ]
    obtain ⟨t, ht, hcJ⟩ : ∃ t : ByteArray, t.data.toList = nm4 J4 /\ w1.cell? ⟨W0.heap.size, J4, none⟩ = some (.string t) := names_at hN hJ4l
    have J0 : (0 : Int) <= (J4 : Int) := by omega
    have J1 : (J4 : Int) < 6 := by omega
    have J2 : J4 < 6 := by omega
    refine anyX_take (i := 4) (v := ?_) rfl (by kernel_rfl) (by kernel_rfl) (by kernel_rfl) (by kernel_rfl) (fun _ _ _ h => h) (Or.inl ⟨by rfl, ?_⟩) hS1 ?_
    rotate_left
    ·rintro w' ⟨s0, s1, s2⟩
     go_simp
     try with_reducible rfl
    try simp only [Act.put, List.getElem_toArray, List.getElem_cons_succ, List.getElem_cons_zero, List.setIfInBounds_toArray, List.set_cons_zero, List.set_cons_succ]
    refine anyX_g (i := 5) (by kernel_rfl) (by decide) rfl (by rfl) ?_
    intro K hK
    try simp only [List.getElem_toArray, List.getElem_cons_succ, List.getElem_cons_zero]
    go_simp
    refine hK _ _ hS1 ?_
    clear hK
    try simp only [Act.put, List.getElem_toArray, List.getElem_cons_succ, List.getElem_cons_zero, List.setIfInBounds_toArray, List.set_cons_zero, List.set_cons_succ]
    refine anyX_take (i := 6) (v := ?_) rfl (by kernel_rfl) (by kernel_rfl) (by kernel_rfl) (by kernel_rfl) (fun _ _ _ h => h) (Or.inl ⟨by rfl, ?_⟩) hS1 ?_
    rotate_left
    ·rintro w' ⟨s0, s1, s2⟩
     go_simp
     try with_reducible rfl
    try simp only [Act.put, List.getElem_toArray, List.getElem_cons_succ, List.getElem_cons_zero, List.setIfInBounds_toArray, List.set_cons_zero, List.set_cons_succ]
    have r0 := h1.r0; have r1 := h1.r1; have r2 := h1.r2; have r3 := h1.r3; have r4 := h1.r4; have r5 := h1.r5
    have fr := h1.fr
    have hlt := Nat.lt_of_succ_lt h1.size; have hlt' := h1.size
    have hfin := h1.fin (p := TOT) (k' := 2) (lo' := 0) (hi' := 0) (wt' := 0) (s := t) (A := none) (n' := 0) (c' := 0) (by rw [HQ.out]; show TreeV true w1 _ _ (Tree.mk 2 0 0 0 (nm4 J4) []); rw [<- ht]; exact TreeV.leaf true w1 _ 2 0 0 0 t (fun e => by cases e))
    have HF := Lib.hid hfin
    clear hfin h1 hN hb1 hS1 hS h0 h0d ht hcJ HQ
    refine anyX_last (by kernel_rfl) (by kernel_rfl) rfl rfl ?_
    try simp only [List.getElem_toArray, List.getElem_cons_succ, List.getElem_cons_zero]
    go_simp
    try apply_assumption
    go_wp2_with fail
    exact bodyPost_ret (v := .agg #[.int .i64 2, .int .i64 0, .int .i64 0, .int .i64 0, .string t, .slice none 0 0]) (by simp [results, Tryz.results16, go_sem, World.cell?_alloc_past, hlt, hlt', r0, r1, r2, r3, r4, r5]) rfl HF.out
   ·have b6 : decide (Jv < 6) = false := by simp; omega
    have g6 : 6 <= Jv := by omega
    have hq := HM.out
    rw [if_neg (by have := HJ.out; omega)] at hq
    clear HM h6
    have HM := Lib.hid hq; clear hq
    by_cases h8 : Jv < 8
    ·have b8 : decide (Jv < 8) = true := by simp; omega
     have hq := HM.out
     rw [if_pos (by have := HJ.out; omega)] at hq
     have r0 := h0.r0; have r1 := h0.r1; have r2 := h0.r2; have r3 := h0.r3; have r4 := h0.r4; have r5 := h0.r5
     have fr := h0.fr
     have hlt := Nat.lt_of_succ_lt h0.size; have hlt' := h0.size
     have hfin := h0.fin (p := TOT) (k' := 3) (lo' := 0) (hi' := 0) (wt' := 0) (s := ⟨#[]⟩) (A := none) (n' := 0) (c' := 0) (by rw [hq]; exact TreeV.leaf true W0 _ 3 0 0 0 ⟨#[]⟩ (fun e => by cases e))
     have HF := Lib.hid hfin
     clear hfin h0 hq HM
     go_wp2_with fail
     exact bodyPost_ret (v := .agg #[.int .i64 3, .int .i64 0, .int .i64 0, .int .i64 0, .string ⟨#[]⟩, .slice none 0 0]) (by simp [results, Tryz.results16, go_sem, World.cell?_alloc_past, hlt, hlt', r0, r1, r2, r3, r4, r5]) rfl HF.out
    ·have b8 : decide (Jv < 8) = false := by simp; omega
     have g8 : 8 <= Jv := by omega
     have hq := HM.out
     rw [if_neg (by have := HJ.out; omega)] at hq
     clear HM h8
     have HM := Lib.hid hq; clear hq
     by_cases h13 : Jv < 13
     ·have b13 : decide (Jv < 13) = true := by simp; omega
      have hq := HM.out
      rw [if_pos (by have := HJ.out; omega)] at hq
      have HQ := Lib.hid hq
      clear hq HM
      go_wp2_with fail
      refine region_x 8 (fun w' : World => w'.cell? ⟨w.heap.size, 0, none⟩ = some (.int .i64 k) /\ w'.cell? ⟨w.heap.size, 1, none⟩ = some (.int .i64 n) /\ w'.cell? ⟨w.heap.size, 2, none⟩ = some (.slice L m c)) (by kernel_rfl) ?_
      have h0d := h0.drew
      have hS := h0d.bx
      refine anyX_take (i := 0) (v := ?_) rfl (by kernel_rfl) (by kernel_rfl) (by kernel_rfl) (by kernel_rfl) (fun _ _ _ h => h) (Or.inl ⟨by rfl, ?_⟩) hS ?_
      rotate_left
      ·rintro w' ⟨s0, s1, s2⟩
       go_simp
       try with_reducible rfl
      try simp only [Act.put, List.getElem_toArray, List.getElem_cons_succ, List.getElem_cons_zero, List.setIfInBounds_toArray, List.set_cons_zero, List.set_cons_succ]
      refine anyX_take (i := 1) (v := ?_) rfl (by kernel_rfl) (by kernel_rfl) (by kernel_rfl) (by kernel_rfl) (fun _ _ _ h => h) (Or.inl ⟨by rfl, ?_⟩) hS ?_
      rotate_left
      ·rintro w' ⟨s0, s1, s2⟩
       go_simp
       try with_reducible rfl
      try simp only [Act.put, List.getElem_toArray, List.getElem_cons_succ, List.getElem_cons_zero, List.setIfInBounds_toArray, List.set_cons_zero, List.set_cons_succ]
      refine anyX_take (i := 3) (v := ?_) rfl (by kernel_rfl) (by kernel_rfl) (by kernel_rfl) (by kernel_rfl) (fun _ _ _ h => h) (Or.inl ⟨by rfl, ?_⟩) hS ?_
      rotate_left
      ·rintro w' ⟨s0, s1, s2⟩
       go_simp
       try with_reducible rfl
      try simp only [Act.put, List.getElem_toArray, List.getElem_cons_succ, List.getElem_cons_zero, List.setIfInBounds_toArray, List.set_cons_zero, List.set_cons_succ]
      refine anyX_take (i := 4) (v := ?_) rfl (by kernel_rfl) (by kernel_rfl) (by kernel_rfl) (by kernel_rfl) (fun _ _ _ h => h) (Or.inl ⟨by rfl, ?_⟩) hS ?_
      rotate_left
      ·rintro w' ⟨s0, s1, s2⟩
       go_simp
       try with_reducible rfl
      try simp only [Act.put, List.getElem_toArray, List.getElem_cons_succ, List.getElem_cons_zero, List.setIfInBounds_toArray, List.set_cons_zero, List.set_cons_succ]
      refine anyX_g (i := 2) (by kernel_rfl) (by decide) rfl (by rfl) ?_
      intro K hK
      try simp only [List.getElem_toArray, List.getElem_cons_succ, List.getElem_cons_zero]
      refine wp_enterE #[.agg #[.int .i64 k, .int .i64 n, .slice L m c], .int .i64 0, .bool right] Tryz.func39 (by kernel_rfl) (by kernel_rfl) ?_ (HP0.out W0.drew h0d.below) ?_
      ·go_simp
      rintro e w1 ⟨v2, rfl, hh2, ht2, hb2⟩
      refine ⟨_, rfl, ?_⟩
      obtain ⟨k2, lo2, hi2, wt2, nm2, A2, n2, c2, rfl⟩ := hh2.lit6'
      have h1 := h0d.below' hb2
      have hS1 := h1.bx
      have hz2 := h0d.size
      refine hK _ _ hS1 ?_
      clear hK
      try simp only [Act.put, List.getElem_toArray, List.getElem_cons_succ, List.getElem_cons_zero, List.setIfInBounds_toArray, List.set_cons_zero, List.set_cons_succ]
      refine anyX_g (i := 5) (by kernel_rfl) (by decide) rfl (by rfl) ?_
      intro K hK
      try simp only [List.getElem_toArray, List.getElem_cons_succ, List.getElem_cons_zero]
      refine wp_enterE #[.agg #[.int .i64 k, .int .i64 n, .slice L m c], .int .i64 1, .bool right] Tryz.func39 (by kernel_rfl) (by kernel_rfl) ?_ (HP1.out w1 h1.below) ?_
      ·go_simp
      rintro e w3 ⟨v3, rfl, hh3, ht3, hb3⟩
      refine ⟨_, rfl, ?_⟩
      obtain ⟨k3, lo3, hi3, wt3, nm3, A3, n3, c3, rfl⟩ := hh3.lit6'
      have h3 := h1.below' hb3
      have hS3 := h3.bx
      have hz3 := h1.size
      refine hK _ _ hS3 ?_
      clear hK
      try simp only [Act.put, List.getElem_toArray, List.getElem_cons_succ, List.getElem_cons_zero, List.setIfInBounds_toArray, List.set_cons_zero, List.set_cons_succ]
      have h4 := h3.alloc (.cells #[.int .i64 k2, .int .i64 lo2, .int .i64 hi2, .int .i64 wt2, .string nm2, .slice A2 n2 c2, .int .i64 k3, .int .i64 lo3, .int .i64 hi3, .int .i64 wt3, .string nm3, .slice A3 n3 c3] 33)
      have hS4 := h4.bx
      refine anyX_g (i := 6) (by kernel_rfl) (by decide) rfl (by rfl) ?_
      intro K hK
      try simp only [List.getElem_toArray, List.getElem_cons_succ, List.getElem_cons_zero]
      go_simp
      refine hK _ _ hS4 ?_
      clear hK
      try simp only [Act.put, List.getElem_toArray, List.getElem_cons_succ, List.getElem_cons_zero, List.setIfInBounds_toArray, List.set_cons_zero, List.set_cons_succ]
      refine anyX_take (i := 7) (v := ?_) rfl (by kernel_rfl) (by kernel_rfl) (by kernel_rfl) (by kernel_rfl) (fun _ _ _ h => h) (Or.inl ⟨by rfl, ?_⟩) hS4 ?_
      rotate_left
      ·rintro w' ⟨s0, s1, s2⟩
       go_simp
       try with_reducible rfl
      try simp only [Act.put, List.getElem_toArray, List.getElem_cons_succ, List.getElem_cons_zero, List.setIfInBounds_toArray, List.set_cons_zero, List.set_cons_succ]
      have r0 := h3.r0; have r1 := h3.r1; have r2 := h3.r2; have r3 := h3.r3; have r4 := h3.r4; have r5 := h3.r5
      have fr := h3.fr
      have hlt := Nat.lt_of_succ_lt h3.size; have hlt' := h3.size
      have hd0 : W0.drew.heap.size = W0.heap.size := rfl
      have ht2' := ht2.bel (S' := fun g => w.heap.size + 1 < g) (fun g hg => by have : W0.drew.heap.size <= g := hg; omega) hb3
      have ht3' := ht3.keep (S' := fun g => w.heap.size + 1 < g) (fun g hg => by have : w1.heap.size <= g := hg; omega) (fun _ _ _ _ h => h)
      have hfin := h4.fin (p := TOT) (k' := 4) (lo' := 0) (hi' := 0) (wt' := 0) (s := ⟨#[]⟩) (A := some ⟨w3.heap.size, 0, none⟩) (n' := 2) (c' := 2) (by rw [HQ.out]; exact TreeV.two6 4 (Blk.new w3 _ _) (ht2'.al (fun g hg => hg) _) (ht3'.al (fun g hg => hg) _) hlt')
      rw [put6_alloc hlt'] at hfin
      have HF := Lib.hid hfin
      clear hfin h1 h3 h4 hb2 hb3 hS1 hS3 hS4 hS h0 h0d ht2 ht3 ht2' ht3' hh2 hh3 HQ
      refine anyX_last (by kernel_rfl) (by kernel_rfl) rfl rfl ?_
      try simp only [List.getElem_toArray, List.getElem_cons_succ, List.getElem_cons_zero]
      go_simp
      try apply_assumption
      go_wp2_with fail
      exact bodyPost_ret (v := .agg #[.int .i64 4, .int .i64 0, .int .i64 0, .int .i64 0, .string ⟨#[]⟩, .slice (some ⟨w3.heap.size, 0, none⟩) 2 2]) (by simp [results, Tryz.results16, go_sem, World.cell?_alloc_past, hlt, hlt', r0, r1, r2, r3, r4, r5]) rfl HF.out
     ·have b13 : decide (Jv < 13) = false := by simp; omega
      have g13 : 13 <= Jv := by omega
      have hq := HM.out
      rw [if_neg (by have := HJ.out; omega)] at hq
      clear HM h13
      have HM := Lib.hid hq; clear hq
      by_cases h15 : Jv < 15
      ·have b15 : decide (Jv < 15) = true := by simp; omega
       have hq := HM.out
       rw [if_pos (by have := HJ.out; omega)] at hq
       have HQ := Lib.hid hq
       clear hq HM
       go_wp2_with fail
       refine region_x 8 (fun w' : World => w'.cell? ⟨w.heap.size, 0, none⟩ = some (.int .i64 k) /\ w'.cell? ⟨w.heap.size, 1, none⟩ = some (.int .i64 n) /\ w'.cell? ⟨w.heap.size, 2, none⟩ = some (.slice L m c)) (by kernel_rfl) ?_
       have h0d := h0.drew
       have hS := h0d.bx
       refine anyX_take (i := 0) (v := ?_) rfl (by kernel_rfl) (by kernel_rfl) (by kernel_rfl) (by kernel_rfl) (fun _ _ _ h => h) (Or.inl ⟨by rfl, ?_⟩) hS ?_
       rotate_left
       ·rintro w' ⟨s0, s1, s2⟩
        go_simp
        try with_reducible rfl
       try simp only [Act.put, List.getElem_toArray, List.getElem_cons_succ, List.getElem_cons_zero, List.setIfInBounds_toArray, List.set_cons_zero, List.set_cons_succ]
       refine anyX_take (i := 1) (v := ?_) rfl (by kernel_rfl) (by kernel_rfl) (by kernel_rfl) (by kernel_rfl) (fun _ _ _ h => h) (Or.inl ⟨by rfl, ?_⟩) hS ?_
       rotate_left
       ·rintro w' ⟨s0, s1, s2⟩
        go_simp
        try with_reducible rfl
       try simp only [Act.put, List.getElem_toArray, List.getElem_cons_succ, List.getElem_cons_zero, List.setIfInBounds_toArray, List.set_cons_zero, List.set_cons_succ]
       refine anyX_take (i := 3) (v := ?_) rfl (by kernel_rfl) (by kernel_rfl) (by kernel_rfl) (by kernel_rfl) (fun _ _ _ h => h) (Or.inl ⟨by rfl, ?_⟩) hS ?_
       rotate_left
       ·rintro w' ⟨s0, s1, s2⟩
        go_simp
        try with_reducible rfl
       try simp only [Act.put, List.getElem_toArray, List.getElem_cons_succ, List.getElem_cons_zero, List.setIfInBounds_toArray, List.set_cons_zero, List.set_cons_succ]
       refine anyX_take (i := 4) (v := ?_) rfl (by kernel_rfl) (by kernel_rfl) (by kernel_rfl) (by kernel_rfl) (fun _ _ _ h => h) (Or.inl ⟨by rfl, ?_⟩) hS ?_
       rotate_left
       ·rintro w' ⟨s0, s1, s2⟩
        go_simp
        try with_reducible rfl
       try simp only [Act.put, List.getElem_toArray, List.getElem_cons_succ, List.getElem_cons_zero, List.setIfInBounds_toArray, List.set_cons_zero, List.set_cons_succ]
       refine anyX_g (i := 2) (by kernel_rfl) (by decide) rfl (by rfl) ?_
       intro K hK
       try simp only [List.getElem_toArray, List.getElem_cons_succ, List.getElem_cons_zero]
       refine wp_enterE #[.agg #[.int .i64 k, .int .i64 n, .slice L m c], .int .i64 0, .bool right] Tryz.func39 (by kernel_rfl) (by kernel_rfl) ?_ (HP0.out W0.drew h0d.below) ?_
       ·go_simp
       rintro e w1 ⟨v2, rfl, hh2, ht2, hb2⟩
       refine ⟨_, rfl, ?_⟩
       obtain ⟨k2, lo2, hi2, wt2, nm2, A2, n2, c2, rfl⟩ := hh2.lit6'
       have h1 := h0d.below' hb2
       have hS1 := h1.bx
       have hz2 := h0d.size
       refine hK _ _ hS1 ?_
       clear hK
       try simp only [Act.put, List.getElem_toArray, List.getElem_cons_succ, List.getElem_cons_zero, List.setIfInBounds_toArray, List.set_cons_zero, List.set_cons_succ]
       refine anyX_g (i := 5) (by kernel_rfl) (by decide) rfl (by rfl) ?_
       intro K hK
       try simp only [List.getElem_toArray, List.getElem_cons_succ, List.getElem_cons_zero]
       refine wp_enterE #[.agg #[.int .i64 k, .int .i64 n, .slice L m c], .int .i64 1, .bool right] Tryz.func39 (by kernel_rfl) (by kernel_rfl) ?_ (HP1.out w1 h1.below) ?_
       ·go_simp
       rintro e w3 ⟨v3, rfl, hh3, ht3, hb3⟩
       refine ⟨_, rfl, ?_⟩
       obtain ⟨k3, lo3, hi3, wt3, nm3, A3, n3, c3, rfl⟩ := hh3.lit6'
       have h3 := h1.below' hb3
       have hS3 := h3.bx
       have hz3 := h1.size
       refine hK _ _ hS3 ?_
       clear hK
       try simp only [Act.put, List.getElem_toArray, List.getElem_cons_succ, List.getElem_cons_zero, List.setIfInBounds_toArray, List.set_cons_zero, List.set_cons_succ]
       have h4 := h3.alloc (.cells #[.int .i64 k2, .int .i64 lo2, .int .i64 hi2, .int .i64 wt2, .string nm2, .slice A2 n2 c2, .int .i64 k3, .int .i64 lo3, .int .i64 hi3, .int .i64 wt3, .string nm3, .slice A3 n3 c3] 33)
       have hS4 := h4.bx
       refine anyX_g (i := 6) (by kernel_rfl) (by decide) rfl (by rfl) ?_
       intro K hK
       try simp only [List.getElem_toArray, List.getElem_cons_succ, List.getElem_cons_zero]
       go_simp
       refine hK _ _ hS4 ?_
       clear hK
       try simp only [Act.put, List.getElem_toArray, List.getElem_cons_succ, List.getElem_cons_zero, List.setIfInBounds_toArray, List.set_cons_zero, List.set_cons_succ]
       refine anyX_take (i := 7) (v := ?_) rfl (by kernel_rfl) (by kernel_rfl) (by kernel_rfl) (by kernel_rfl) (fun _ _ _ h => h) (Or.inl ⟨by rfl, ?_⟩) hS4 ?_
       rotate_left
       ·rintro w' ⟨s0, s1, s2⟩
        go_simp
        try with_reducible rfl
       try simp only [Act.put, List.getElem_toArray, List.getElem_cons_succ, List.getElem_cons_zero, List.setIfInBounds_toArray, List.set_cons_zero, List.set_cons_succ]
       have r0 := h3.r0; have r1 := h3.r1; have r2 := h3.r2; have r3 := h3.r3; have r4 := h3.r4; have r5 := h3.r5
       have fr := h3.fr
       have hlt := Nat.lt_of_succ_lt h3.size; have hlt' := h3.size
       have hd0 : W0.drew.heap.size = W0.heap.size := rfl
       have ht2' := ht2.bel (S' := fun g => w.heap.size + 1 < g) (fun g hg => by have : W0.drew.heap.size <= g := hg; omega) hb3
       have ht3' := ht3.keep (S' := fun g => w.heap.size + 1 < g) (fun g hg => by have : w1.heap.size <= g := hg; omega) (fun _ _ _ _ h => h)
       have hfin := h4.fin (p := TOT) (k' := 5) (lo' := 0) (hi' := 0) (wt' := 0) (s := ⟨#[]⟩) (A := some ⟨w3.heap.size, 0, none⟩) (n' := 2) (c' := 2) (by rw [HQ.out]; exact TreeV.two6 5 (Blk.new w3 _ _) (ht2'.al (fun g hg => hg) _) (ht3'.al (fun g hg => hg) _) hlt')
       rw [put6_alloc hlt'] at hfin
       have HF := Lib.hid hfin
       clear hfin h1 h3 h4 hb2 hb3 hS1 hS3 hS4 hS h0 h0d ht2 ht3 ht2' ht3' hh2 hh3 HQ
       refine anyX_last (by kernel_rfl) (by kernel_rfl) rfl rfl ?_
       try simp only [List.getElem_toArray, List.getElem_cons_succ, List.getElem_cons_zero]
       go_simp
       try apply_assumption
       go_wp2_with fail
       exact bodyPost_ret (v := .agg #[.int .i64 5, .int .i64 0, .int .i64 0, .int .i64 0, .string ⟨#[]⟩, .slice (some ⟨w3.heap.size, 0, none⟩) 2 2]) (by simp [results, Tryz.results16, go_sem, World.cell?_alloc_past, hlt, hlt', r0, r1, r2, r3, r4, r5]) rfl HF.out
      ·have b15 : decide (Jv < 15) = false := by simp; omega
       have g15 : 15 <= Jv := by omega
       have hq := HM.out
       rw [if_neg (by have := HJ.out; omega)] at hq
       clear HM h15
       have HM := Lib.hid hq; clear hq
       by_cases h16 : Jv < 16
       ·have b16 : decide (Jv < 16) = true := by simp; omega
        have hq := HM.out
        rw [if_pos (by have := HJ.out; omega)] at hq
        have HQ := Lib.hid hq
        clear hq HM
        have cc0 := h0.c0; have cc1 := h0.c1; have cc2 := h0.c2
        go_wp2_with fail
        refine (HP0.out W0 h0.below).mono ?_
        rintro e w1 ⟨v2, rfl, hh2, ht2, hb2⟩
        obtain ⟨k2, lo2, hi2, wt2, nm2, A2, n2, c2, rfl⟩ := hh2.lit6'
        have h1 := h0.below' hb2
        clear cc0 cc1 cc2
        have r0 := h1.r0; have r1 := h1.r1; have r2 := h1.r2; have r3 := h1.r3; have r4 := h1.r4; have r5 := h1.r5
        have fr := h1.fr
        have hlt := Nat.lt_of_succ_lt h1.size; have hlt' := h1.size
        have hfin := (h1.alloc (.cells #[.int .i64 k2, .int .i64 lo2, .int .i64 hi2, .int .i64 wt2, .string nm2, .slice A2 n2 c2] 33)).fin (p := TOT) (k' := 6) (lo' := 0) (hi' := 0) (wt' := 0) (s := ⟨#[]⟩) (A := some ⟨w1.heap.size, 0, none⟩) (n' := 1) (c' := 1) (by rw [HQ.out]; exact TreeV.one6 6 0 0 0 (Blk.new w1 _ _) (ht2.al (fun g hg => by have : W0.heap.size <= g := hg; omega) _) hlt')
        rw [put6_alloc hlt'] at hfin
        have HF := Lib.hid hfin
        clear hfin h1 hb2 h0 ht2 hh2 HQ
        go_wp2_with fail
        exact bodyPost_ret (v := .agg #[.int .i64 6, .int .i64 0, .int .i64 0, .int .i64 0, .string ⟨#[]⟩, .slice (some ⟨w1.heap.size, 0, none⟩) 1 1]) (by simp [results, Tryz.results16, go_sem, World.cell?_alloc_past, hlt, hlt', r0, r1, r2, r3, r4, r5]) rfl HF.out
       ·have b16 : decide (Jv < 16) = false := by simp; omega
        have g16 : 16 <= Jv := by omega
        have hq := HM.out
        rw [if_neg (by have := HJ.out; omega)] at hq
        clear HM h16
        have HM := Lib.hid hq; clear hq
        by_cases h18 : Jv < 18
        ·have b18 : decide (Jv < 18) = true := by simp; omega
         have hq := HM.out
         rw [if_pos (by have := HJ.out; omega)] at hq
         obtain ⟨LO, hLO⟩ : ∃ J, wthN n 3 = J := ⟨_, rfl⟩
         obtain ⟨H3, hH3⟩ : ∃ J, wthN (n.tdiv 3) 3 = J := ⟨_, rfl⟩
         have hLO3 : LO < 3 := by rw [<- hLO]; exact wthN_lt n 3 (by omega)
         have hH33 : H3 < 3 := by rw [<- hH3]; exact wthN_lt (n.tdiv 3) 3 (by omega)
         have hwl := fun w => wth_any n 3 (by omega) (by omega) w
         have hwh := fun w => wth_any (n.tdiv 3) 3 (by omega) (by omega) w
         rw [hLO] at hwl hq
         rw [hH3] at hwh hq
         have nb : -9223372036854775808 <= n /\ n <= 9223372036854775807 := wf_bounds HWN.out
         obtain ⟨nb0, nb1⟩ := nb
         have td : IntKind.i64.wrap (n.tdiv 3) = n.tdiv 3 := tdiv_in HWN.out
         have ts : IntKind.i64.wrap ((LO : Int) + (H3 : Int)) = (LO : Int) + (H3 : Int) := IntWalk.i64_in _ (by omega)
         have HQ := Lib.hid hq; have HWL := Lib.hid hwl; have HWH := Lib.hid hwh; have TD := Lib.hid td; have TS := Lib.hid ts
         clear hq HM hwl hwh hLO hH3 nb0 nb1 td ts
         have cc1 := h0.c1
         go_wp2_with fail
         refine (HWL.out W0).mono ?_
         rintro e W ⟨rfl, rfl⟩
         clear cc1
         go_wp2_with fail
         have td := TD.out; have ts := TS.out
         refine region_x 12 (fun w' : World => w'.cell? ⟨w.heap.size, 0, none⟩ = some (.int .i64 k) /\ w'.cell? ⟨w.heap.size, 1, none⟩ = some (.int .i64 n) /\ w'.cell? ⟨w.heap.size, 2, none⟩ = some (.slice L m c)) (by kernel_rfl) ?_
         have h0d := h0.drew
         have hS := h0d.bx
         refine anyX_take (i := 0) (v := ?_) rfl (by kernel_rfl) (by kernel_rfl) (by kernel_rfl) (by kernel_rfl) (fun _ _ _ h => h) (Or.inl ⟨by rfl, ?_⟩) hS ?_
         rotate_left
         ·rintro w' ⟨s0, s1, s2⟩
          go_simp
          try with_reducible rfl
         try simp only [Act.put, List.getElem_toArray, List.getElem_cons_succ, List.getElem_cons_zero, List.setIfInBounds_toArray, List.set_cons_zero, List.set_cons_succ]
         refine anyX_take (i := 1) (v := ?_) rfl (by kernel_rfl) (by kernel_rfl) (by kernel_rfl) (by kernel_rfl) (fun _ _ _ h => h) (Or.inl ⟨by rfl, ?_⟩) hS ?_
         rotate_left
         ·rintro w' ⟨s0, s1, s2⟩
          go_simp
          try with_reducible rfl
         try simp only [Act.put, List.getElem_toArray, List.getElem_cons_succ, List.getElem_cons_zero, List.setIfInBounds_toArray, List.set_cons_zero, List.set_cons_succ]
         refine anyX_take (i := 4) (v := ?_) rfl (by kernel_rfl) (by kernel_rfl) (by kernel_rfl) (by kernel_rfl) (fun _ _ _ h => h) (Or.inl ⟨by rfl, ?_⟩) hS ?_
         rotate_left
         ·rintro w' ⟨s0, s1, s2⟩
          go_simp
          try with_reducible rfl
         try simp only [Act.put, List.getElem_toArray, List.getElem_cons_succ, List.getElem_cons_zero, List.setIfInBounds_toArray, List.set_cons_zero, List.set_cons_succ]
         refine anyX_take (i := 5) (v := ?_) rfl (by kernel_rfl) (by kernel_rfl) (by kernel_rfl) (by kernel_rfl) (fun _ _ _ h => h) (Or.inl ⟨by rfl, ?_⟩) hS ?_
         rotate_left
         ·rintro w' ⟨s0, s1, s2⟩
          go_simp
          try with_reducible rfl
         try simp only [Act.put, List.getElem_toArray, List.getElem_cons_succ, List.getElem_cons_zero, List.setIfInBounds_toArray, List.set_cons_zero, List.set_cons_succ]
         refine anyX_take (i := 6) (v := ?_) rfl (by kernel_rfl) (by kernel_rfl) (by kernel_rfl) (by kernel_rfl) (fun _ _ _ h => h) (Or.inl ⟨by rfl, ?_⟩) hS ?_
         rotate_left
         ·rintro w' ⟨s0, s1, s2⟩
          go_simp
          try with_reducible rfl
         try simp only [Act.put, List.getElem_toArray, List.getElem_cons_succ, List.getElem_cons_zero, List.setIfInBounds_toArray, List.set_cons_zero, List.set_cons_succ]
         refine anyX_take (i := 7) (v := ?_) rfl (by kernel_rfl) (by kernel_rfl) (by kernel_rfl) (by kernel_rfl) (fun _ _ _ h => h) (Or.inl ⟨by rfl, ?_⟩) hS ?_
         rotate_left
         ·rintro w' ⟨s0, s1, s2⟩
          go_simp
          try with_reducible rfl
         try simp only [Act.put, List.getElem_toArray, List.getElem_cons_succ, List.getElem_cons_zero, List.setIfInBounds_toArray, List.set_cons_zero, List.set_cons_succ]
         refine anyX_take (i := 8) (v := .int .i64 (n.tdiv 3)) rfl (by kernel_rfl) (by kernel_rfl) (by kernel_rfl) (by kernel_rfl) (fun _ _ _ h => h) (Or.inl ⟨by rfl, ?_⟩) hS ?_
         ·rintro w' ⟨s0, s1, s2⟩
          go_simp
          try with_reducible rfl
         try simp only [Act.put, List.getElem_toArray, List.getElem_cons_succ, List.getElem_cons_zero, List.setIfInBounds_toArray, List.set_cons_zero, List.set_cons_succ]
         refine anyX_g (i := 2) (by kernel_rfl) (by decide) rfl (by rfl) ?_
         intro K hK
         try simp only [List.getElem_toArray, List.getElem_cons_succ, List.getElem_cons_zero]
         refine wp_enterE #[.agg #[.int .i64 k, .int .i64 n, .slice L m c], .int .i64 0, .bool right] Tryz.func39 (by kernel_rfl) (by kernel_rfl) ?_ (HP0.out W0.drew h0d.below) ?_
         ·go_simp
         rintro e w1 ⟨v2, rfl, hh2, ht2, hb2⟩
         refine ⟨_, rfl, ?_⟩
         obtain ⟨k2, lo2, hi2, wt2, nm2, A2, n2, c2, rfl⟩ := hh2.lit6'
         have h1 := h0d.below' hb2
         have hS1 := h1.bx
         have hz2 := h0d.size
         refine hK _ _ hS1 ?_
         clear hK
         try simp only [Act.put, List.getElem_toArray, List.getElem_cons_succ, List.getElem_cons_zero, List.setIfInBounds_toArray, List.set_cons_zero, List.set_cons_succ]
         have h4 := h1.alloc (.cells #[.int .i64 k2, .int .i64 lo2, .int .i64 hi2, .int .i64 wt2, .string nm2, .slice A2 n2 c2] 33)
         have hS4 := h4.bx
         have hd0 : W0.drew.heap.size = W0.heap.size := rfl
         refine anyX_2 (i := 3) (j := 9) (by kernel_rfl) (by decide) (by decide) rfl rfl rfl rfl ?_ ?_
         ·intro K hK
          try simp only [List.getElem_toArray, List.getElem_cons_succ, List.getElem_cons_zero]
          go_simp
          refine hK _ _ hS4 ?_
          clear hK
          try simp only [Act.put, List.getElem_toArray, List.getElem_cons_succ, List.getElem_cons_zero, List.setIfInBounds_toArray, List.set_cons_zero, List.set_cons_succ]
          refine anyX_g (i := 9) (by kernel_rfl) (by decide) rfl (by rfl) ?_
          intro K hK
          try simp only [List.getElem_toArray, List.getElem_cons_succ, List.getElem_cons_zero]
          refine wp_enterE #[.int .i64 (n.tdiv 3), .int .i64 3] Tryz.func38 (by kernel_rfl) (by kernel_rfl) ?_ (HWH.out (w1.alloc _)) ?_
          ·go_simp
          rintro e W ⟨rfl, rfl⟩
          refine ⟨_, rfl, ?_⟩
          refine hK _ _ hS4 ?_
          clear hK
          try simp only [Act.put, List.getElem_toArray, List.getElem_cons_succ, List.getElem_cons_zero, List.setIfInBounds_toArray, List.set_cons_zero, List.set_cons_succ]
          refine anyX_take (i := 10) (v := .int .i64 ((LO : Int) + (H3 : Int))) rfl (by kernel_rfl) (by kernel_rfl) (by kernel_rfl) (by kernel_rfl) (fun _ _ _ h => h) (Or.inl ⟨by rfl, ?_⟩) hS4 ?_
          ·rintro w' ⟨s0, s1, s2⟩
           go_simp
           try with_reducible rfl
          try simp only [Act.put, List.getElem_toArray, List.getElem_cons_succ, List.getElem_cons_zero, List.setIfInBounds_toArray, List.set_cons_zero, List.set_cons_succ]
          refine anyX_take (i := 11) (v := ?_) rfl (by kernel_rfl) (by kernel_rfl) (by kernel_rfl) (by kernel_rfl) (fun _ _ _ h => h) (Or.inl ⟨by rfl, ?_⟩) hS4 ?_
          rotate_left
          ·rintro w' ⟨s0, s1, s2⟩
           go_simp
           try with_reducible rfl
          try simp only [Act.put, List.getElem_toArray, List.getElem_cons_succ, List.getElem_cons_zero, List.setIfInBounds_toArray, List.set_cons_zero, List.set_cons_succ]
          have r0 := h1.r0; have r1 := h1.r1; have r2 := h1.r2; have r3 := h1.r3; have r4 := h1.r4; have r5 := h1.r5
          have fr := h1.fr
          have hlt := Nat.lt_of_succ_lt h1.size; have hlt' := h1.size
          have hfin := h4.fin (p := TOT) (k' := 7) (lo' := (LO : Int)) (hi' := ((LO : Int) + (H3 : Int))) (wt' := 0) (s := ⟨#[]⟩) (A := some ⟨w1.heap.size, 0, none⟩) (n' := 1) (c' := 1) (by rw [HQ.out]; exact TreeV.one6 7 (LO : Int) ((LO : Int) + (H3 : Int)) 0 (Blk.new w1 _ _) (ht2.al (fun g hg => by have : W0.drew.heap.size <= g := hg; omega) _) hlt')
          rw [put6_alloc hlt'] at hfin
          have HF := Lib.hid hfin
          clear hfin h1 h4 hb2 hS1 hS4 hS h0 h0d ht2 hh2 HQ
          refine anyX_last (by kernel_rfl) (by kernel_rfl) rfl rfl ?_
          try simp only [List.getElem_toArray, List.getElem_cons_succ, List.getElem_cons_zero]
          go_simp
          try apply_assumption
          go_wp2_with fail
          exact bodyPost_ret (v := .agg #[.int .i64 7, .int .i64 LO, .int .i64 ((LO : Int) + (H3 : Int)), .int .i64 0, .string ⟨#[]⟩, .slice (some ⟨w1.heap.size, 0, none⟩) 1 1]) (by simp [results, Tryz.results16, go_sem, World.cell?_alloc_past, hlt, hlt', r0, r1, r2, r3, r4, r5]) rfl HF.out
         ·intro K hK
          try simp only [List.getElem_toArray, List.getElem_cons_succ, List.getElem_cons_zero]
          refine wp_enterE #[.int .i64 (n.tdiv 3), .int .i64 3] Tryz.func38 (by kernel_rfl) (by kernel_rfl) ?_ (HWH.out w1) ?_
          ·go_simp
          rintro e W ⟨rfl, rfl⟩
          refine ⟨_, rfl, ?_⟩
          refine hK _ _ hS1 ?_
          clear hK
          try simp only [Act.put, List.getElem_toArray, List.getElem_cons_succ, List.getElem_cons_zero, List.setIfInBounds_toArray, List.set_cons_zero, List.set_cons_succ]
          refine anyX_take (i := 10) (v := .int .i64 ((LO : Int) + (H3 : Int))) rfl (by kernel_rfl) (by kernel_rfl) (by kernel_rfl) (by kernel_rfl) (fun _ _ _ h => h) (Or.inl ⟨by rfl, ?_⟩) hS1 ?_
          ·rintro w' ⟨s0, s1, s2⟩
           go_simp
           try with_reducible rfl
          try simp only [Act.put, List.getElem_toArray, List.getElem_cons_succ, List.getElem_cons_zero, List.setIfInBounds_toArray, List.set_cons_zero, List.set_cons_succ]
          refine anyX_g (i := 3) (by kernel_rfl) (by decide) rfl (by rfl) ?_
          intro K hK
          try simp only [List.getElem_toArray, List.getElem_cons_succ, List.getElem_cons_zero]
          go_simp
          refine hK _ _ hS4 ?_
          clear hK
          try simp only [Act.put, List.getElem_toArray, List.getElem_cons_succ, List.getElem_cons_zero, List.setIfInBounds_toArray, List.set_cons_zero, List.set_cons_succ]
          refine anyX_take (i := 11) (v := ?_) rfl (by kernel_rfl) (by kernel_rfl) (by kernel_rfl) (by kernel_rfl) (fun _ _ _ h => h) (Or.inl ⟨by rfl, ?_⟩) hS4 ?_
          rotate_left
          ·rintro w' ⟨s0, s1, s2⟩
           go_simp
           try with_reducible rfl
          try simp only [Act.put, List.getElem_toArray, List.getElem_cons_succ, List.getElem_cons_zero, List.setIfInBounds_toArray, List.set_cons_zero, List.set_cons_succ]
          have r0 := h1.r0; have r1 := h1.r1; have r2 := h1.r2; have r3 := h1.r3; have r4 := h1.r4; have r5 := h1.r5
          have fr := h1.fr
          have hlt := Nat.lt_of_succ_lt h1.size; have hlt' := h1.size
          have hfin := h4.fin (p := TOT) (k' := 7) (lo' := (LO : Int)) (hi' := ((LO : Int) + (H3 : Int))) (wt' := 0) (s := ⟨#[]⟩) (A := some ⟨w1.heap.size, 0, none⟩) (n' := 1) (c' := 1) (by rw [HQ.out]; exact TreeV.one6 7 (LO : Int) ((LO : Int) + (H3 : Int)) 0 (Blk.new w1 _ _) (ht2.al (fun g hg => by have : W0.drew.heap.size <= g := hg; omega) _) hlt')
          rw [put6_alloc hlt'] at hfin
          have HF := Lib.hid hfin
          clear hfin h1 h4 hb2 hS1 hS4 hS h0 h0d ht2 hh2 HQ
          refine anyX_last (by kernel_rfl) (by kernel_rfl) rfl rfl ?_
          try simp only [List.getElem_toArray, List.getElem_cons_succ, List.getElem_cons_zero]
          go_simp
          try apply_assumption
          go_wp2_with fail
          exact bodyPost_ret (v := .agg #[.int .i64 7, .int .i64 LO, .int .i64 ((LO : Int) + (H3 : Int)), .int .i64 0, .string ⟨#[]⟩, .slice (some ⟨w1.heap.size, 0, none⟩) 1 1]) (by simp [results, Tryz.results16, go_sem, World.cell?_alloc_past, hlt, hlt', r0, r1, r2, r3, r4, r5]) rfl HF.out
        ·have b18 : decide (Jv < 18) = false := by simp; omega
         have g18 : 18 <= Jv := by omega
         have hq := HM.out
         rw [if_neg (by have := HJ.out; omega)] at hq
         clear HM h18
         have HM := Lib.hid hq; clear hq
         have hq := HM.out
         cases right
         ·rw [if_neg (by simp)] at hq
          obtain ⟨WT7, hW7⟩ : ∃ J, wthN n 7 = J := ⟨_, rfl⟩
          have hww := fun w => wth_any n 7 (by omega) (by omega) w
          rw [hW7] at hww hq
          have HQ := Lib.hid hq; have HWW := Lib.hid hww
          clear hq HM hww hW7
          go_wp2_with fail
          refine region_x 8 (fun w' : World => w'.cell? ⟨w.heap.size, 0, none⟩ = some (.int .i64 k) /\ w'.cell? ⟨w.heap.size, 1, none⟩ = some (.int .i64 n) /\ w'.cell? ⟨w.heap.size, 2, none⟩ = some (.slice L m c)) (by kernel_rfl) ?_
          have h0d := h0.drew
          have hS := h0d.bx
          refine anyX_take (i := 0) (v := ?_) rfl (by kernel_rfl) (by kernel_rfl) (by kernel_rfl) (by kernel_rfl) (fun _ _ _ h => h) (Or.inl ⟨by rfl, ?_⟩) hS ?_
          rotate_left
          ·rintro w' ⟨s0, s1, s2⟩
           go_simp
           try with_reducible rfl
          try simp only [Act.put, List.getElem_toArray, List.getElem_cons_succ, List.getElem_cons_zero, List.setIfInBounds_toArray, List.set_cons_zero, List.set_cons_succ]
          refine anyX_take (i := 1) (v := ?_) rfl (by kernel_rfl) (by kernel_rfl) (by kernel_rfl) (by kernel_rfl) (fun _ _ _ h => h) (Or.inl ⟨by rfl, ?_⟩) hS ?_
          rotate_left
          ·rintro w' ⟨s0, s1, s2⟩
           go_simp
           try with_reducible rfl
          try simp only [Act.put, List.getElem_toArray, List.getElem_cons_succ, List.getElem_cons_zero, List.setIfInBounds_toArray, List.set_cons_zero, List.set_cons_succ]
          refine anyX_take (i := 4) (v := ?_) rfl (by kernel_rfl) (by kernel_rfl) (by kernel_rfl) (by kernel_rfl) (fun _ _ _ h => h) (Or.inl ⟨by rfl, ?_⟩) hS ?_
          rotate_left
          ·rintro w' ⟨s0, s1, s2⟩
           go_simp
           try with_reducible rfl
          try simp only [Act.put, List.getElem_toArray, List.getElem_cons_succ, List.getElem_cons_zero, List.setIfInBounds_toArray, List.set_cons_zero, List.set_cons_succ]
          refine anyX_take (i := 5) (v := ?_) rfl (by kernel_rfl) (by kernel_rfl) (by kernel_rfl) (by kernel_rfl) (fun _ _ _ h => h) (Or.inl ⟨by rfl, ?_⟩) hS ?_
          rotate_left
          ·rintro w' ⟨s0, s1, s2⟩
           go_simp
           try with_reducible rfl
          try simp only [Act.put, List.getElem_toArray, List.getElem_cons_succ, List.getElem_cons_zero, List.setIfInBounds_toArray, List.set_cons_zero, List.set_cons_succ]
          refine anyX_g (i := 2) (by kernel_rfl) (by decide) rfl (by rfl) ?_
          intro K hK
          try simp only [List.getElem_toArray, List.getElem_cons_succ, List.getElem_cons_zero]
          refine wp_enterE #[.agg #[.int .i64 k, .int .i64 n, .slice L m c], .int .i64 0, .bool false] Tryz.func39 (by kernel_rfl) (by kernel_rfl) ?_ (HP0.out W0.drew h0d.below) ?_
          ·go_simp
          rintro e w1 ⟨v2, rfl, hh2, ht2, hb2⟩
          refine ⟨_, rfl, ?_⟩
          obtain ⟨k2, lo2, hi2, wt2, nm2, A2, n2, c2, rfl⟩ := hh2.lit6'
          have h1 := h0d.below' hb2
          have hS1 := h1.bx
          have hz2 := h0d.size
          refine hK _ _ hS1 ?_
          clear hK
          try simp only [Act.put, List.getElem_toArray, List.getElem_cons_succ, List.getElem_cons_zero, List.setIfInBounds_toArray, List.set_cons_zero, List.set_cons_succ]
          have h4 := h1.alloc (.cells #[.int .i64 k2, .int .i64 lo2, .int .i64 hi2, .int .i64 wt2, .string nm2, .slice A2 n2 c2] 33)
          have hS4 := h4.bx
          have hd0 : W0.drew.heap.size = W0.heap.size := rfl
          refine anyX_2 (i := 3) (j := 6) (by kernel_rfl) (by decide) (by decide) rfl rfl rfl rfl ?_ ?_
          ·intro K hK
           try simp only [List.getElem_toArray, List.getElem_cons_succ, List.getElem_cons_zero]
           go_simp
           refine hK _ _ hS4 ?_
           clear hK
           try simp only [Act.put, List.getElem_toArray, List.getElem_cons_succ, List.getElem_cons_zero, List.setIfInBounds_toArray, List.set_cons_zero, List.set_cons_succ]
           refine anyX_g (i := 6) (by kernel_rfl) (by decide) rfl (by rfl) ?_
           intro K hK
           try simp only [List.getElem_toArray, List.getElem_cons_succ, List.getElem_cons_zero]
           refine wp_enterE #[.int .i64 n, .int .i64 7] Tryz.func38 (by kernel_rfl) (by kernel_rfl) ?_ (HWW.out (w1.alloc _)) ?_
           ·go_simp
           rintro e W ⟨rfl, rfl⟩
           refine ⟨_, rfl, ?_⟩
           refine hK _ _ hS4 ?_
           clear hK
           try simp only [Act.put, List.getElem_toArray, List.getElem_cons_succ, List.getElem_cons_zero, List.setIfInBounds_toArray, List.set_cons_zero, List.set_cons_succ]
           refine anyX_take (i := 7) (v := ?_) rfl (by kernel_rfl) (by kernel_rfl) (by kernel_rfl) (by kernel_rfl) (fun _ _ _ h => h) (Or.inl ⟨by rfl, ?_⟩) hS4 ?_
           rotate_left
           ·rintro w' ⟨s0, s1, s2⟩
            go_simp
            try with_reducible rfl
           try simp only [Act.put, List.getElem_toArray, List.getElem_cons_succ, List.getElem_cons_zero, List.setIfInBounds_toArray, List.set_cons_zero, List.set_cons_succ]
           have r0 := h1.r0; have r1 := h1.r1; have r2 := h1.r2; have r3 := h1.r3; have r4 := h1.r4; have r5 := h1.r5
           have fr := h1.fr
           have hlt := Nat.lt_of_succ_lt h1.size; have hlt' := h1.size
           have hfin := h4.fin (p := TOT) (k' := 8) (lo' := 0) (hi' := 0) (wt' := (WT7 : Int)) (s := ⟨#[]⟩) (A := some ⟨w1.heap.size, 0, none⟩) (n' := 1) (c' := 1) (by rw [HQ.out]; exact TreeV.one6 8 0 0 (WT7 : Int) (Blk.new w1 _ _) (ht2.al (fun g hg => by have : W0.drew.heap.size <= g := hg; omega) _) hlt')
           rw [put6_alloc hlt'] at hfin
           have HF := Lib.hid hfin
           clear hfin h1 h4 hb2 hS1 hS4 hS h0 h0d ht2 hh2 HQ
           refine anyX_last (by kernel_rfl) (by kernel_rfl) rfl rfl ?_
           try simp only [List.getElem_toArray, List.getElem_cons_succ, List.getElem_cons_zero]
           go_simp
           try apply_assumption
           go_wp2_with fail
           exact bodyPost_ret (v := .agg #[.int .i64 8, .int .i64 0, .int .i64 0, .int .i64 WT7, .string ⟨#[]⟩, .slice (some ⟨w1.heap.size, 0, none⟩) 1 1]) (by simp [results, Tryz.results16, go_sem, World.cell?_alloc_past, hlt, hlt', r0, r1, r2, r3, r4, r5]) rfl HF.out
          ·intro K hK
           try simp only [List.getElem_toArray, List.getElem_cons_succ, List.getElem_cons_zero]
           refine wp_enterE #[.int .i64 n, .int .i64 7] Tryz.func38 (by kernel_rfl) (by kernel_rfl) ?_ (HWW.out w1) ?_
           ·go_simp
           rintro e W ⟨rfl, rfl⟩
           refine ⟨_, rfl, ?_⟩
           refine hK _ _ hS1 ?_
           clear hK
           try simp only [Act.put, List.getElem_toArray, List.getElem_cons_succ, List.getElem_cons_zero, List.setIfInBounds_toArray, List.set_cons_zero, List.set_cons_succ]
           refine anyX_g (i := 3) (by kernel_rfl) (by decide) rfl (by rfl) ?_
           intro K hK
           try simp only [List.getElem_toArray, List.getElem_cons_succ, List.getElem_cons_zero]
           go_simp
           refine hK _ _ hS4 ?_
           clear hK
           try simp only [Act.put, List.getElem_toArray, List.getElem_cons_succ, List.getElem_cons_zero, List.setIfInBounds_toArray, List.set_cons_zero, List.set_cons_succ]
           refine anyX_take (i := 7) (v := ?_) rfl (by kernel_rfl) (by kernel_rfl) (by kernel_rfl) (by kernel_rfl) (fun _ _ _ h => h) (Or.inl ⟨by rfl, ?_⟩) hS4 ?_
           rotate_left
           ·rintro w' ⟨s0, s1, s2⟩
            go_simp
            try with_reducible rfl
           try simp only [Act.put, List.getElem_toArray, List.getElem_cons_succ, List.getElem_cons_zero, List.setIfInBounds_toArray, List.set_cons_zero, List.set_cons_succ]
           have r0 := h1.r0; have r1 := h1.r1; have r2 := h1.r2; have r3 := h1.r3; have r4 := h1.r4; have r5 := h1.r5
           have fr := h1.fr
           have hlt := Nat.lt_of_succ_lt h1.size; have hlt' := h1.size
           have hfin := h4.fin (p := TOT) (k' := 8) (lo' := 0) (hi' := 0) (wt' := (WT7 : Int)) (s := ⟨#[]⟩) (A := some ⟨w1.heap.size, 0, none⟩) (n' := 1) (c' := 1) (by rw [HQ.out]; exact TreeV.one6 8 0 0 (WT7 : Int) (Blk.new w1 _ _) (ht2.al (fun g hg => by have : W0.drew.heap.size <= g := hg; omega) _) hlt')
           rw [put6_alloc hlt'] at hfin
           have HF := Lib.hid hfin
           clear hfin h1 h4 hb2 hS1 hS4 hS h0 h0d ht2 hh2 HQ
           refine anyX_last (by kernel_rfl) (by kernel_rfl) rfl rfl ?_
           try simp only [List.getElem_toArray, List.getElem_cons_succ, List.getElem_cons_zero]
           go_simp
           try apply_assumption
           go_wp2_with fail
           exact bodyPost_ret (v := .agg #[.int .i64 8, .int .i64 0, .int .i64 0, .int .i64 WT7, .string ⟨#[]⟩, .slice (some ⟨w1.heap.size, 0, none⟩) 1 1]) (by simp [results, Tryz.results16, go_sem, World.cell?_alloc_past, hlt, hlt', r0, r1, r2, r3, r4, r5]) rfl HF.out
         ·skip
          rw [if_pos rfl] at hq
          have HQ := Lib.hid hq
          clear hq HM
          have cc0 := h0.c0; have cc1 := h0.c1; have cc2 := h0.c2
          go_wp2_with fail
          refine (HP0.out W0 h0.below).mono ?_
          rintro e w1 ⟨v2, rfl, hh2, ht2, hb2⟩
          obtain ⟨k2, lo2, hi2, wt2, nm2, A2, n2, c2, rfl⟩ := hh2.lit6'
          have h1 := h0.below' hb2
          clear cc0 cc1 cc2
          have r0 := h1.r0; have r1 := h1.r1; have r2 := h1.r2; have r3 := h1.r3; have r4 := h1.r4; have r5 := h1.r5
          have fr := h1.fr
          have hlt := Nat.lt_of_succ_lt h1.size; have hlt' := h1.size
          have hfin := h1.fin (p := TOT) (by rw [HQ.out]; exact ht2.keep (fun g hg => by have : W0.heap.size <= g := hg; omega) (fun _ _ _ _ h => h))
          have HF := Lib.hid hfin
          clear hfin h1 hb2 h0 ht2 hh2 HQ
          go_wp2_with fail
          exact bodyPost_ret (v := .agg #[.int .i64 k2, .int .i64 lo2, .int .i64 hi2, .int .i64 wt2, .string nm2, .slice A2 n2 c2]) (by simp [results, Tryz.results16, go_sem, World.cell?_alloc_past, hlt, hlt', r0, r1, r2, r3, r4, r5]) rfl HF.out
theorem make_any (right : Bool) : ∀ (f : Nat) (x : RawP) (w : World) (v : Value), FewR f x -> RawL w v x.l -> (Lit.int .i64 x.n).wf = true ->
  Calls Tryz.prog 16 #[.agg #[.int .i64 x.k, .int .i64 x.n, v], .bool right] w (MadeR w (x.pat right)) := by
  intro f
  induction f with
  | zero => intro x w v h; simp [FewR, sizeR] at h
  | succ f ih =>
    intro x w v hx hv hwn
    have hv0 := hv
    obtain ⟨L, m, c, rfl, -⟩ := hv
    exact make_step right x w L m c x.k x.n rfl rfl hwn fun i hi W hW => part_any right f (fun y W u => ih y W u) x W _ hx (hv0.below hW) i hi
end Go.Proofs.YtfccnadbiglagaaGreat
