/- Contract of the reference's sets: a set of ranges for each expression. Contract of the reference's Sets. -/
import Derived.Test.YtalgnnidhnhciaaGreatDoorShort
import Derived.Test.YtalgnnidhnhciaaGreatDoorULf
import Derived.Test.YtalgnnidhnhciaaGreatDoorUSynMd
import Derived.Test.YtalgnnidhnhciaaGreatDoorUSi
set_option linter.unusedVariables false
set_option linter.unusedSimpArgs false
set_option linter.unusedVariables false
set_option linter.unusedSimpArgs false
namespace Go.Proofs.YtalgnnidhnhciaaGreatDoor
open Go Go.RowKit Go.Proofs

theorem ReadsP.block {w w' : World} {u : Value} {n : Nat} {l : Rg} (h : ReadsP w u n l) (hk : ∀ b, u.ownBlock = some b → ∀ o x, w.cell? ⟨b, o, none⟩ = some x → w'.cell? ⟨b, o, none⟩ = some x) : ReadsP w' u n l := by
  obtain ⟨h1, a, cap, rfl, h5, h6, h3, h4⟩ := h
  refine ⟨h1, a, cap, rfl, h5, h6, h3, fun i hi => ?_⟩
  obtain ⟨b, off, rfl, hc⟩ := h4 i hi
  exact ⟨b, off, rfl, fun j hj => ⟨hk b rfl _ _ (hc j hj).1, hk b rfl _ _ (hc j hj).2⟩⟩
/-- A row that reads, its block known to be there and to be another one than the row's own that bears it. -/
def El (w : World) (Lb : Nat) (v : Value) (u : Value) (l : Rg) : Prop := ReadsP w u l.length l ∧ ∀ k, u.ownBlock = some k → Lb ≤ k ∧ k < w.heap.size ∧ some k ≠ v.ownBlock
def SetsRd (w : World) (B Lb : Nat) (v : Value) (ss : List Rg) : Prop := ∃ us : List Value, w.ownsRow B 32 1 v ss.length us ∧ RowRel (El w Lb v) us ss
theorem SetsRd.nil (w : World) (B Lb : Nat) : SetsRd w B Lb (.slice none 0 0) [] := ⟨[], World.ownsRow_nil _ _ _ _, trivial⟩
theorem El.bel {w w' : World} {Lb : Nat} {v u : Value} {l : Rg} (h : El w Lb v u l) (hb : Below w.heap.size w w') : El w' Lb v u l := ⟨h.1.below hb, fun k e => ⟨(h.2 k e).1, Nat.lt_of_lt_of_le (h.2 k e).2.1 hb.size, (h.2 k e).2.2⟩⟩
theorem none_or (v : Value) : v.ownBlock = none ∨ v.ownBlock ≠ none := by cases v.ownBlock <;> simp
theorem SetsRd.bel {w w' : World} {B Lb : Nat} {v : Value} {ss : List Rg} (h : SetsRd w B Lb v ss) (hb : Below w.heap.size w w') : SetsRd w' B Lb v ss := by
  obtain ⟨us, h1, h2⟩ := h
  exact ⟨us, World.ownsRow.kept h1 (only_of_below hb none) (none_or v), h2.mono fun u l q => q.bel hb⟩
theorem SetsRd.push {w3 w5 : World} {B Lb g cap n : Nat} {v u : Value} {ss : List Rg} {l : Rg} {us : List Value} (hn : ss.length = n) (h2 : RowRel (El w3 Lb v) us ss) (o : Obj) (hgr : (w3.alloc o).grownBy w5 v.ownBlock) (hv : ∀ k, v.ownBlock = some k → k < w3.heap.size)
    (hat : v.ownBlock = some g ∨ g = (w3.alloc o).heap.size) (hown : w5.ownsRow B 32 1 (.slice (some ⟨g, 0, none⟩) (n + 1) cap) (n + 1) (us ++ [u])) (hu : El w3 Lb v u l) : SetsRd w5 B Lb (.slice (some ⟨g, 0, none⟩) (n + 1) cap) (ss ++ [l]) := by
  have key : ∀ (u : Value) (l : Rg), El w3 Lb v u l → El w5 Lb (.slice (some ⟨g, 0, none⟩) (n + 1) cap) u l := fun u l q => by
    refine ⟨q.1.block fun b hb o' x hx => ?_, fun k e => ⟨(q.2 k e).1, ?_, ?_⟩⟩
    · have hlt := World.block_lt_of_cell? w3 _ hx
      have h1 : (w3.alloc o).cell? ⟨b, o', none⟩ = some x := by rw [World.cell?_alloc_past _ _ _ hlt]; exact hx
      exact hgr.cell h1 (q.2 b hb).2.2
    · have h7 := hgr.size; have h8 := (q.2 k e).2.1; have h9 : (w3.alloc o).heap.size = w3.heap.size + 1 := by simp
      omega
    · intro e2
      have e2' : k = g := by injection e2
      have h3 := q.2 k e
      rcases hat with h4 | h4
      · exact h3.2.2 (by rw [h4, e2'])
      · have h5 : (w3.alloc o).heap.size = w3.heap.size + 1 := by simp
        have h6 := h3.2.1
        omega
  refine ⟨us ++ [u], by rw [List.length_append, hn]; exact hown, RowRel.push (key u l hu) (h2.mono key)⟩
theorem SetsRd.get {w : World} {B Lb : Nat} {v : Value} {ss : List Rg} (h : SetsRd w B Lb v ss) (i : Nat) (hi : i < ss.length) : ∃ g c u, v = .slice (some ⟨g, 0, none⟩) ss.length c ∧ w.cell? ⟨g, i, none⟩ = some u ∧ El w Lb v u ss[i] := by
  obtain ⟨us, h1, h2⟩ := h
  rcases h1.2 with ⟨_, h0⟩ | ⟨g, cap, cur, rfl, hg, hh, r⟩
  · omega
  · have hiu := h2.len_eq hi
    exact ⟨g, cap, us[i], rfl, by rw [World.ownsRow.cellAt h1 i (by omega), List.getElem?_eq_getElem hiu], h2.at_ i hiu hi⟩
theorem SetsRd.form {w : World} {B Lb : Nat} {v : Value} {ss : List Rg} (h : SetsRd w B Lb v ss) : ∃ A c, v = .slice A ss.length c ∧ ss.length ≤ c ∧ c ≤ maxLen := by
  obtain ⟨us, h1, h2⟩ := h
  obtain ⟨A, c, e, h3, h4, _⟩ := own_form h1
  exact ⟨A, c, e, h3, h4⟩
/-- What the call tells: ranges that read so; its block is one of S, or new. -/
def RT (w : World) (S : Nat → Prop) (R : Rg) (e : Ending) (w' : World) : Prop :=
  ∃ u, e = .returned u ∧ ReadsP w' u R.length R ∧ (∀ g, u.ownBlock = some g → (S g ∨ w.heap.size ≤ g) ∧ g < w'.heap.size) ∧ Below w.heap.size w w'
theorem RT.of_tells {w : World} {S : Nat → Prop} {R : Rg} {e : Ending} {w' : World} (h : Tells w R e w') : RT w S R e w' := by
  obtain ⟨u, h1, h2, h3⟩ := h
  exact ⟨u, h1, h2.reads, fun g hg => ⟨.inr (h2.lt g hg).1, (h2.lt g hg).2⟩, h3⟩
theorem RT.from_ {w w1 w2 : World} {S : Nat → Prop} {R : Rg} {e : Ending} (hb : Below w.heap.size w w1) (h : RT w1 S R e w2) : RT w S R e w2 := by
  obtain ⟨u, h1, h2, h3, h4⟩ := h
  exact ⟨u, h1, h2, fun g hg => ⟨(h3 g hg).1.imp id (fun q => Nat.le_trans hb.size q), (h3 g hg).2⟩, hb.trans (h4.mono hb.size)⟩
/-- The sets ahead, as they are handed in. -/
def SetsIn (w : World) (S : Nat → Prop) (sv : Value) (ss : List Rg) : Prop :=
  ∃ A c, sv = .slice A ss.length c ∧ ss.length ≤ c ∧ c ≤ maxLen ∧ ∀ i, i < ss.length → ∃ b off u, A = some ⟨b, off, none⟩ ∧ w.cell? ⟨b, off + i, none⟩ = some u ∧ ReadsP w u (ss.getD i []).length (ss.getD i []) ∧ ∀ g, u.ownBlock = some g → S g ∧ g < w.heap.size
theorem SetsIn.bel {w w' : World} {S : Nat → Prop} {sv : Value} {ss : List Rg} (h : SetsIn w S sv ss) (hb : Below w.heap.size w w') : SetsIn w' S sv ss := by
  obtain ⟨A, c, h1, h2, h3, h4⟩ := h
  refine ⟨A, c, h1, h2, h3, fun i hi => ?_⟩
  obtain ⟨b, off, u, e, hc, hr, hs⟩ := h4 i hi
  exact ⟨b, off, u, e, by rw [hb.cell (p := ⟨b, off + i, none⟩) (World.block_lt_of_cell? w _ hc)]; exact hc, hr.below hb, fun g hg => ⟨(hs g hg).1, Nat.lt_of_lt_of_le (hs g hg).2 hb.size⟩⟩
theorem SetsRd.in_ {w : World} {B Lb : Nat} {v : Value} {ss : List Rg} (h : SetsRd w B Lb v ss) : SetsIn w (fun g => Lb ≤ g ∧ g < w.heap.size ∧ some g ≠ v.ownBlock) v ss := by
  obtain ⟨A, c, e, h1, h2⟩ := h.form
  refine ⟨A, c, e, h1, h2, fun i hi => ?_⟩
  obtain ⟨g, c', u, e2, hc, hr, hs⟩ := h.get i hi
  rw [e] at e2
  injection e2 with e3 e4 e5
  refine ⟨g, 0, u, e3, by rw [Nat.zero_add]; exact hc, ?_, fun k hk => ⟨hs k hk, (hs k hk).2.1⟩⟩
  have : ss.getD i [] = ss[i] := by simp [List.getD, hi]
  rw [this]; exact hr
theorem ixN_take {D : List Bs} {s : Bs} {k : Nat} (h : s ∈ D.take k) : ixN D s = ixN (D.take k) s := by
  induction D generalizing k with
  | nil => simp at h
  | cons a D ih =>
    cases k with
    | zero => simp at h
    | succ k =>
      simp only [List.take_succ_cons, List.mem_cons] at h ⊢
      simp only [ixN]
      by_cases ha : a == s
      · simp [ha]
      · have hs : s ∈ D.take k := by
          rcases h with h | h
          · exact absurd (by simp [h]) ha
          · exact h
        rw [ih hs]
def Cls.kids : Cls → List Cls
  | .range _ _ => [] | .name _ => [] | .any_ => []
  | .not_ a => [a] | .or_ a b => [a, b] | .and_ a b => [a, b] | .less a b => [a, b]
def Cls.kind : Cls → Int
  | .range _ _ => 1 | .name _ => 2 | .any_ => 3 | .not_ _ => 4 | .or_ _ _ => 5 | .and_ _ _ => 6 | .less _ _ => 7
theorem Cls.tree_kids (p : Cls) : ∃ lo hi nm, p.tree = .mk p.kind lo hi 0 nm (p.kids.map Cls.tree) := by
  cases p <;> exact ⟨_, _, _, rfl⟩
theorem Cls.kids_len (p : Cls) : p.kids.length ≤ 2 := by cases p <;> simp [Cls.kids]

set_option maxRecDepth 100000 in
set_option maxHeartbeats 4000000 in
theorem find_any (w : World) (dv : Value) (RA : Option Addr) (RN RC : Nat) (D : List Bs) (t : ByteArray) (hN : NamesL w dv D) (hn : D.length ≤ 1000) (hm : t.data.toList ∈ D) :
    Calls Tryz.prog 61 #[.agg #[dv, .slice RA RN RC], .string t] w fun e w' => e = .returned (.int .i64 (ixN D t.data.toList)) ∧ Below w.heap.size w w' := by
  obtain ⟨A, c, rfl, h1, h2, h4⟩ := hN
  obtain ⟨n, hnn⟩ : ∃ n, D.length = n := ⟨_, rfl⟩
  rw [hnn] at h1 h4 hn ⊢
  have H4 := Lib.hid h4; have HN := Lib.hid hnn; have HM := Lib.hid hm
  clear h4 hnn hm
  unfold maxLen at h2
  go_enter Tryz.func61, Tryz.ntmps61
  go_wp2_with fail
  go_loopg [5] n (fun gk v5 wr => ∃ k : Nat, v5 = .int .i64 k ∧ gk = n - k ∧ k ≤ n ∧ Hid (∀ i, i < k → D.getD i [] ≠ t.data.toList) ∧ wr = w.alloc (.cells #[.slice A n c, .slice RA RN RC] 28))
  case atStart => exact ⟨0, rfl, rfl, Nat.zero_le _, Lib.hid (fun i hi => absurd hi (by omega)), rfl⟩
  case round =>
    obtain ⟨k, rfl, hgk, hk, HK, rfl⟩ := hrel
    have HGK := Lib.hid hgk; clear hgk
    have i0 : (0 : Int) ≤ (k : Int) := Int.natCast_nonneg _
    by_cases hlt2 : k < n
    · obtain ⟨b, o, rfl, s, e0, g0⟩ := H4.out k hlt2
      have hg0 : (w.alloc (.cells #[.slice (some ⟨b, o, none⟩) n c, .slice RA RN RC] 28)).cell? ⟨b, o + k * 6, none⟩ = some (.string s) := by rw [World.cell?_alloc_past _ _ _ (World.block_lt_of_cell? w _ g0)]; exact g0
      have E0 := Lib.hid e0; clear e0 g0
      have i1 : (k : Int) < (n : Int) := by omega
      by_cases hs : D.getD k [] = t.data.toList
      · have hb : (s.toList == t.toList) = true := by rw [ByteArray.toList_eq, ByteArray.toList_eq, E0.out, hs]; simp
        have hix : ixN D t.data.toList = k := by
          have hkd : k < D.length := by rw [HN.out]; exact hlt2
          have := ixN_drop D t.data.toList k (by omega) HK.out
          rw [this, List.drop_eq_getElem_cons hkd]
          have e : D[k] = t.data.toList := by simpa [List.getD, List.getElem?_eq_getElem hkd] using hs
          simp [ixN, e]
        have HIX := Lib.hid hix; clear hix hs
        go_wp2_with fail
        go_ret
        exact ⟨by rw [HIX.out]; rfl, (Below.refl _ _).alloc (Nat.le_refl _) _⟩
      · have hb : (s.toList == t.toList) = false := by rw [ByteArray.toList_eq, ByteArray.toList_eq, E0.out]; simpa using hs
        have HS := Lib.hid hs; clear hs
        go_wp2_with fail
        go_roundg (n - (k + 1))
        case measure => have := HGK.out; omega
        case rel => exact ⟨k + 1, by go_num, rfl, hlt2, Lib.hid (fun i hi => by
          by_cases hik : i = k
          · rw [hik]; exact HS.out
          · exact HK.out i (by omega)), rfl⟩
    · exfalso
      have hkn : k = n := by omega
      obtain ⟨i, hi, e⟩ := List.getElem_of_mem HM.out
      exact HK.out i (by rw [hkn, ← HN.out]; exact hi) (by simp [List.getD, hi, e])
theorem TreeAt.val5 {w : World} {S : Nat → Prop} {b o : Nat} {t : Tree} (h : TreeAt false w S b o t) : ∃ (k lo hi : Int) (s : ByteArray) (A : Option Addr) (n c : Nat), CellsAt w b o [.int .i64 k, .int .i64 lo, .int .i64 hi, .string s, .slice A n c] ∧ TreeV false w S (.agg #[.int .i64 k, .int .i64 lo, .int .i64 hi, .string s, .slice A n c]) t := by
  cases t with
  | mk k lo hi wt nm l =>
    rw [TreeAt] at h
    obtain ⟨s, A, n, c, h1, h2⟩ := h
    exact ⟨k, lo, hi, s, A, n, c, h1, s, A, n, c, rfl, h2⟩
theorem CellsAt.at5 {w : World} {b o : Nat} {x y z u t : Value} (h : CellsAt w b o [x, y, z, u, t]) : w.cell? ⟨b, o, none⟩ = some x ∧ w.cell? ⟨b, o + 1, none⟩ = some y ∧ w.cell? ⟨b, o + 2, none⟩ = some z ∧ w.cell? ⟨b, o + 3, none⟩ = some u ∧ w.cell? ⟨b, o + 4, none⟩ = some t := ⟨h 0 x rfl, h 1 y rfl, h 2 z rfl, h 3 u rfl, h 4 t rfl⟩
theorem CellsAt.bel {w w' : World} {b o : Nat} {cs : List Value} (h : CellsAt w b o cs) (hb : Below w.heap.size w w') : CellsAt w' b o cs := fun i v hv => by
  have hc := h i v hv
  rw [hb.cell (p := ⟨b, o + i, none⟩) (World.block_lt_of_cell? w _ hc)]; exact hc
/-- Within the call: its two boxes. -/
structure RgS (w : World) (c0 c1 : Array Value) (W : World) : Prop where
  below : Below w.heap.size w W
  box : Blk W w.heap.size 35 c0
  file : Blk W (w.heap.size + 1) 28 c1
theorem RgS.mk' (w : World) (c0 c1 : Array Value) : RgS w c0 c1 ((w.alloc (.cells c0 35)).alloc (.cells c1 28)) := by
  have h := Blk.new (w.alloc (.cells c0 35)) 28 c1
  exact ⟨((Below.refl _ _).alloc (Nat.le_refl _) _).alloc (by simp) _, Blk.alloc (Blk.new w _ _) _, by simpa using h⟩
section
variable {w W W' : World} {c0 c1 : Array Value}
theorem RgS.drew (h : RgS w c0 c1 W) : RgS w c0 c1 W.drew := ⟨h.below.drew, Blk.drew h.box, Blk.drew h.file⟩
theorem RgS.size (h : RgS w c0 c1 W) : w.heap.size + 1 < W.heap.size := h.file.lt
theorem RgS.bel (h : RgS w c0 c1 W) (hb : Below W.heap.size W W') : RgS w c0 c1 W' :=
  ⟨h.below.trans (hb.mono h.below.size), Blk.below h.box hb h.box.lt, Blk.below h.file hb h.file.lt⟩
theorem RgS.alloc (h : RgS w c0 c1 W) (o : Obj) : RgS w c0 c1 (W.alloc o) := ⟨h.below.alloc h.below.size o, Blk.alloc h.box o, Blk.alloc h.file o⟩
theorem RgS.grown (h : RgS w c0 c1 W) {row : Option Nat} (hg : W.grownBy W' row) (hr : ∀ j, row = some j → w.heap.size + 2 ≤ j) : RgS w c0 c1 W' :=
  ⟨below_own h.below hg h.below.size (fun j e => by have := hr j e; omega), Blk.grown h.box hg (fun e => by have := hr _ e.symm; omega), Blk.grown h.file hg (fun e => by have := hr _ e.symm; omega)⟩
theorem RgS.cells (h : RgS w c0 c1 W) : (∀ i, W.cell? ⟨w.heap.size, i, none⟩ = c0[i]?) ∧ (∀ i, W.cell? ⟨w.heap.size + 1, i, none⟩ = c1[i]?) := ⟨Blk.cell h.box, Blk.cell h.file⟩
end
def RSpec (Dn : List Bs) (p : Cls) : Prop :=
  ∀ (w : World) (S T : Nat → Prop) (v dv : Value) (RA : Option Addr) (RN RC : Nat) (sv : Value) (ss : List Rg), TreeV false w T v p.tree → NamesL w dv Dn → p.Ok (Dn.take ss.length) → ss.length ≤ Dn.length → SetsIn w S sv ss → (∀ g, S g → g < w.heap.size) → RtA ss →
    Calls Tryz.prog 32 #[v, .agg #[dv, .slice RA RN RC], sv] w (RT w S (meanC Dn ss p))
theorem Cls.ok_kids {D : List Bs} {p q : Cls} (h : p.Ok D) (hq : q ∈ p.kids) : q.Ok D := by
  cases p <;> simp [Cls.kids] at hq
  case not_ a => subst hq; exact h
  all_goals (rcases hq with rfl | rfl; exact h.1; exact h.2)
theorem reads_one (W : World) (lo hi : Int) : ReadsP (W.alloc (.cells #[.int .i64 lo, .int .i64 hi] 66)) (.slice (some ⟨W.heap.size, 0, none⟩) 1 1) 1 [(lo, hi)] := by
  have h : OwnP (W.alloc (.cells #[.int .i64 lo, .int .i64 hi] 66)) 0 (.slice (some ⟨W.heap.size, 0, none⟩) 1 1) 1 [(lo, hi)] := World.ownsRow_lit W #[.int .i64 lo, .int .i64 hi] 1 (Nat.zero_le _) (by unfold maxLen; omega) rfl
  exact h.reads
theorem own_capm {w : World} {B : Nat} {t : TypeId} {k : Nat} {A : Option Addr} {n m cap : Nat} {xs : List Value} (h : w.ownsRow B t k (.slice A n cap) m xs) : cap ≤ 9223372036854775807 := by
  obtain ⟨A', c', e, _, h1, _⟩ := own_form h
  injection e with e1 e2 e3
  unfold maxLen at h1
  omega

set_option maxRecDepth 100000 in
set_option maxHeartbeats 16000000 in
theorem ranges_step (Dn : List Bs) (hDn : Dn.length ≤ 1000) (p : Cls) (ih : ∀ q ∈ p.kids, RSpec Dn q) : RSpec Dn p := by
  intro w S T v dv RA RN RC sv ss hT hN hOk hkD hS hSlt hRt
  have hS0 := hS; have hN0 := hN
  obtain ⟨DA, dc, rfl, hd1, hd2, -⟩ := hN
  obtain ⟨SA, sc, rfl, hs1, hs2, -⟩ := hS
  obtain ⟨lo, hi, nm0, hpt⟩ := p.tree_kids
  rw [hpt] at hT
  obtain ⟨nm, A, n, c, rfl, hnm, -, hn, hnc, hcm, hAF, hA⟩ := hT
  rw [List.length_map] at hn
  have hkl := p.kids_len
  have hn2 : n ≤ 2 := by omega
  obtain ⟨dl, hdl⟩ : ∃ d, Dn.length = d := ⟨_, rfl⟩
  obtain ⟨k, hk⟩ : ∃ d, ss.length = d := ⟨_, rfl⟩
  obtain ⟨kd, hkd⟩ : ∃ d, p.kind = d := ⟨_, rfl⟩
  unfold maxLen at hd2 hs2 hcm
  -- what a kid tells
  have hkid : ∀ (W : World) (q : Cls), q ∈ p.kids → Below w.heap.size w W → ∀ (S' : Nat → Prop) (v' : Value), TreeV false W S' v' q.tree → Calls Tryz.prog 32 #[v', .agg #[.slice DA dl dc, .slice RA RN RC], .slice SA k sc] W (RT W S (meanC Dn ss q)) := fun W q hq hW S' v' hv' => by
    have := ih q hq W S S' v' (.slice DA Dn.length dc) RA RN RC (.slice SA ss.length sc) ss hv' (hN0.below hW) (Cls.ok_kids hOk hq) hkD (hS0.bel hW) (fun g hg => Nat.lt_of_lt_of_le (hSlt g hg) hW.size) hRt
    rw [hdl, hk] at this; exact this
  have hat : ∀ i q, p.kids[i]? = some q → ∃ g o, A = some ⟨g, o, none⟩ ∧ TreeAt false w T g (o + i * 5) q.tree := fun i q hq => by
    have hi : i < p.kids.length := (List.getElem?_eq_some_iff.1 hq).1
    obtain ⟨g, o, e⟩ := hAF.some (by omega)
    refine ⟨g, o, e, ?_⟩
    have h2 := (hA g o e (by omega)).2
    have := TreesAt.at_ h2 i (by rw [List.length_map]; exact hi)
    rw [List.getElem?_eq_getElem hi] at hq
    injection hq with hq
    simpa [sz, hq] using this
  rw [hdl] at hd1 hN0
  rw [hk] at hs1 hS0
  rw [hkd]
  show Calls Tryz.prog 32 #[.agg #[.int .i64 kd, .int .i64 lo, .int .i64 hi, .string nm, .slice A n c], .agg #[.slice DA Dn.length dc, .slice RA RN RC], .slice SA ss.length sc] w (RT w S (meanC Dn ss p))
  rw [hdl, hk]
  obtain ⟨TOT, hTOT⟩ : ∃ R, meanC Dn ss p = R := ⟨_, rfl⟩
  rw [hTOT]
  have hR0 := RgS.mk' w #[.int .i64 kd, .int .i64 lo, .int .i64 hi, .string nm, .slice A n c] #[.slice DA dl dc, .slice RA RN RC]
  have HSB := Lib.hid hSlt; have HKID := Lib.hid hkid; have HAT := Lib.hid hat; have HR0 := Lib.hid hR0; have HS0 := Lib.hid hS0; have HN0 := Lib.hid hN0; have HTOT := Lib.hid hTOT; have HKD := Lib.hid hkd; have HPT := Lib.hid hpt; have HNM := Lib.hid hnm; have HOK := Lib.hid hOk; have HRT := Lib.hid hRt; have HNK := Lib.hid hn; have HK := Lib.hid hk; have HDL := Lib.hid hdl
  clear hkid hat hR0 hS0 hN0 hTOT hkd hpt hnm hOk hRt hn hkl ih hA hAF hk hdl hkD hSlt
  go_enter Tryz.func32, Tryz.ntmps32
  go_wp2_with fail
  go_loopg [7, 8] n (fun gk vl vi wr => ∃ (i lc : Nat) (lA : Option Addr), vi = .int .i64 i ∧ vl = .slice lA i lc ∧ gk = n - i ∧ i ≤ n ∧ i ≤ lc ∧ lc ≤ 9223372036854775807 ∧ Hid (SetsRd wr (w.heap.size + 2) 0 (.slice lA i lc) ((p.kids.map (meanC Dn ss)).take i)) ∧ Hid (RgS w #[.int .i64 kd, .int .i64 lo, .int .i64 hi, .string nm, .slice A n c] #[.slice DA dl dc, .slice RA RN RC] wr))
  case atStart => exact ⟨0, 0, none, rfl, rfl, rfl, Nat.zero_le _, Nat.le_refl _, by omega, Lib.hid (SetsRd.nil _ _ _), HR0⟩
  case round =>
    clear HR0
    obtain ⟨i, lc, lA, rfl, rfl, hgk, hin, hilc, hlcm, HL, HR⟩ := hrel
    have HGK := Lib.hid hgk; clear hgk
    have i0 : (0 : Int) ≤ (i : Int) := Int.natCast_nonneg _
    have b4 := HR.out.cells.1 4
    simp only [List.getElem?_toArray, List.getElem?_cons_zero, List.getElem?_cons_succ] at b4
    by_cases hlt : i < n
    · have i1 : (i : Int) < (n : Int) := by omega
      obtain ⟨q, hq⟩ : ∃ q, p.kids[i]? = some q := ⟨_, List.getElem?_eq_getElem (by rw [HNK.out]; exact hlt)⟩
      have hqm := List.mem_of_getElem? hq
      obtain ⟨g, o, rfl, hta⟩ := HAT.out i q hq
      obtain ⟨k1, lo1, hi1, s1, A1, n1, c1, hca, htv⟩ := hta.val5
      have hbw := HR.out.below
      have hca' := (hca.bel hbw).at5
      have htv' : TreeV false wr.drew T (.agg #[.int .i64 k1, .int .i64 lo1, .int .i64 hi1, .string s1, .slice A1 n1 c1]) q.tree := htv.bel (fun _ h => h) hbw.drew
      have hco := HKID.out wr.drew q hqm hbw.drew T _ htv'
      obtain ⟨Rk, hRk⟩ : ∃ R, meanC Dn ss q = R := ⟨_, rfl⟩
      rw [hRk] at hco
      have hnx : (p.kids.map (meanC Dn ss)).take (i + 1) = (p.kids.map (meanC Dn ss)).take i ++ [Rk] := by
        rw [List.take_succ_eq_append_getElem (by rw [List.length_map, HNK.out]; exact hlt), List.getElem_map]
        have e : p.kids[i]'(by rw [HNK.out]; exact hlt) = q := by rw [List.getElem?_eq_getElem (by rw [HNK.out]; exact hlt)] at hq; injection hq
        rw [e, hRk]
      have hti : ((p.kids.map (meanC Dn ss)).take i).length = i := by rw [List.length_take, List.length_map, HNK.out]; omega
      have hRf : ∀ W : World, RgS w #[.int .i64 kd, .int .i64 lo, .int .i64 hi, .string nm, .slice (some ⟨g, o, none⟩) n c] #[.slice DA dl dc, .slice RA RN RC] W → (fun w' : World => w'.cell? ⟨w.heap.size, 4, none⟩ = some (.slice (some ⟨g, o, none⟩) n c) ∧ w'.cell? ⟨g, o + i * 5, none⟩ = some (.int .i64 k1) ∧ w'.cell? ⟨g, o + i * 5 + 1, none⟩ = some (.int .i64 lo1) ∧ w'.cell? ⟨g, o + i * 5 + 2, none⟩ = some (.int .i64 hi1) ∧ w'.cell? ⟨g, o + i * 5 + 3, none⟩ = some (.string s1) ∧ w'.cell? ⟨g, o + i * 5 + 4, none⟩ = some (.slice A1 n1 c1) ∧ w'.cell? ⟨w.heap.size + 1, 0, none⟩ = some (.slice DA dl dc) ∧ w'.cell? ⟨w.heap.size + 1, 1, none⟩ = some (.slice RA RN RC)) W := fun W hW => by
        obtain ⟨q0, q1⟩ := hW.cells
        have hc5 := (hca.bel hW.below).at5
        exact ⟨q0 4, hc5.1, hc5.2.1, hc5.2.2.1, hc5.2.2.2.1, hc5.2.2.2.2, q1 0, q1 1⟩
      have HCO := Lib.hid hco; have HNX := Lib.hid hnx; have HTI := Lib.hid hti; have HRF := Lib.hid hRf
      clear hq hqm hco hnx hti hRf hta hca hca' htv htv' hbw hRk HAT HKID
      have hbrg : RgS w #[.int .i64 kd, .int .i64 lo, .int .i64 hi, .string nm, .slice (some ⟨g, o, none⟩) n c] #[.slice DA dl dc, .slice RA RN RC] wr := HR.out
      go_wp2_with fail
      refine region_x 11 (fun w' : World => w'.cell? ⟨w.heap.size, 4, none⟩ = some (.slice (some ⟨g, o, none⟩) n c) ∧ w'.cell? ⟨g, o + i * 5, none⟩ = some (.int .i64 k1) ∧ w'.cell? ⟨g, o + i * 5 + 1, none⟩ = some (.int .i64 lo1) ∧ w'.cell? ⟨g, o + i * 5 + 2, none⟩ = some (.int .i64 hi1) ∧ w'.cell? ⟨g, o + i * 5 + 3, none⟩ = some (.string s1) ∧ w'.cell? ⟨g, o + i * 5 + 4, none⟩ = some (.slice A1 n1 c1) ∧ w'.cell? ⟨w.heap.size + 1, 0, none⟩ = some (.slice DA dl dc) ∧ w'.cell? ⟨w.heap.size + 1, 1, none⟩ = some (.slice RA RN RC)) (by kernel_rfl) ?_
      have hS := HRF.out _ hbrg.drew
      refine anyX_take (i := 0) (v := ?_) rfl (by kernel_rfl) (by kernel_rfl) (by kernel_rfl) (by kernel_rfl) (fun _ _ _ h => h) (Or.inl ⟨by rfl, ?_⟩) hS ?_
      rotate_left
      · rintro w' ⟨s0, s1, s2, s3, s4, s5, s6, s7⟩
        go_simp
        try with_reducible rfl
      try simp only [Act.put, zq1, zq2, zq3, zq4, zq5, zq6]
      refine anyX_take (i := 1) (v := ?_) rfl (by kernel_rfl) (by kernel_rfl) (by kernel_rfl) (by kernel_rfl) (fun _ _ _ h => h) (Or.inl ⟨by rfl, ?_⟩) hS ?_
      rotate_left
      · rintro w' ⟨s0, s1, s2, s3, s4, s5, s6, s7⟩
        go_simp
        try with_reducible rfl
      try simp only [Act.put, zq1, zq2, zq3, zq4, zq5, zq6]
      refine anyX_take (i := 2) (v := ?_) rfl (by kernel_rfl) (by kernel_rfl) (by kernel_rfl) (by kernel_rfl) (fun _ _ _ h => h) (Or.inl ⟨by rfl, ?_⟩) hS ?_
      rotate_left
      · rintro w' ⟨s0, s1, s2, s3, s4, s5, s6, s7⟩
        go_simp
        try with_reducible rfl
      try simp only [Act.put, zq1, zq2, zq3, zq4, zq5, zq6]
      refine anyX_take (i := 3) (v := ?_) rfl (by kernel_rfl) (by kernel_rfl) (by kernel_rfl) (by kernel_rfl) (fun _ _ _ h => h) (Or.inl ⟨by rfl, ?_⟩) hS ?_
      rotate_left
      · rintro w' ⟨s0, s1, s2, s3, s4, s5, s6, s7⟩
        go_simp
        try with_reducible rfl
      try simp only [Act.put, zq1, zq2, zq3, zq4, zq5, zq6]
      refine anyX_take (i := 4) (v := ?_) rfl (by kernel_rfl) (by kernel_rfl) (by kernel_rfl) (by kernel_rfl) (fun _ _ _ h => h) (Or.inl ⟨by rfl, ?_⟩) hS ?_
      rotate_left
      · rintro w' ⟨s0, s1, s2, s3, s4, s5, s6, s7⟩
        go_simp
        try with_reducible rfl
      try simp only [Act.put, zq1, zq2, zq3, zq4, zq5, zq6]
      refine anyX_take (i := 5) (v := ?_) rfl (by kernel_rfl) (by kernel_rfl) (by kernel_rfl) (by kernel_rfl) (fun _ _ _ h => h) (Or.inl ⟨by rfl, ?_⟩) hS ?_
      rotate_left
      · rintro w' ⟨s0, s1, s2, s3, s4, s5, s6, s7⟩
        go_simp
        try with_reducible rfl
      try simp only [Act.put, zq1, zq2, zq3, zq4, zq5, zq6]
      refine anyX_take (i := 6) (v := ?_) rfl (by kernel_rfl) (by kernel_rfl) (by kernel_rfl) (by kernel_rfl) (fun _ _ _ h => h) (Or.inl ⟨by rfl, ?_⟩) hS ?_
      rotate_left
      · rintro w' ⟨s0, s1, s2, s3, s4, s5, s6, s7⟩
        go_simp
        try with_reducible rfl
      try simp only [Act.put, zq1, zq2, zq3, zq4, zq5, zq6]
      refine anyX_take (i := 7) (v := ?_) rfl (by kernel_rfl) (by kernel_rfl) (by kernel_rfl) (by kernel_rfl) (fun _ _ _ h => h) (Or.inl ⟨by rfl, ?_⟩) hS ?_
      rotate_left
      · rintro w' ⟨s0, s1, s2, s3, s4, s5, s6, s7⟩
        go_simp
        try with_reducible rfl
      try simp only [Act.put, zq1, zq2, zq3, zq4, zq5, zq6]
      refine anyX_g (i := 8) (by kernel_rfl) (by decide) rfl (by rfl) ?_
      intro K hK
      try simp only [zq1, zq2, zq3]
      refine wp_enterE #[.agg #[.int .i64 k1, .int .i64 lo1, .int .i64 hi1, .string s1, .slice A1 n1 c1], .agg #[.slice DA dl dc, .slice RA RN RC], .slice SA k sc] Tryz.func32 (by kernel_rfl) (by kernel_rfl) ?_ (HCO.out) ?_
      · go_simp
      rintro e w3 ⟨u, rfl, hu, hub, hb3⟩
      refine ⟨_, rfl, ?_⟩
      have hb3' : Below wr.heap.size wr w3 := (Below.refl _ wr).drew.trans hb3
      have hR3 := hbrg.bel hb3'
      have hS3 := HRF.out _ hR3
      obtain ⟨ua, uc, rfl, -⟩ := hu.form
      obtain ⟨m, hm⟩ : ∃ m, Rk.length = m := ⟨_, rfl⟩
      rw [hm] at hu hub ⊢
      refine hK _ _ hS3 ?_
      clear hK
      try simp only [Act.put, zq1, zq2, zq3, zq4, zq5, zq6]
      refine anyX_g (i := 9) (by kernel_rfl) (by decide) rfl (by rfl) ?_
      intro K hK
      try simp only [zq1, zq2, zq3]
      go_simp
      have hR4 := hR3.alloc (.cells #[.slice ua m uc] 32)
      have hS4 := HRF.out _ hR4
      refine hK _ _ hS4 ?_
      clear hK
      try simp only [Act.put, zq1, zq2, zq3, zq4, zq5, zq6]
      refine anyX_g (i := 10) (by kernel_rfl) (by decide) rfl (by rfl) ?_
      intro K hK
      try simp only [zq1, zq2, zq3]
      have hl3 := HL.out.bel hb3'
      obtain ⟨us, hrow, hrr⟩ := hl3
      rw [HTI.out] at hrow
      refine wp_pushK rfl (.tmp 16) (.tmp 25) 29 32 rfl 1 24 _ Tryz.underlying29 info_ranges rfl (by omega) (by omega) (w.heap.size + 2) (.slice lA i lc) i us (by rfl) (World.ownsRow.alloc hrow _) w3.heap.size (by rfl) #[.slice ua m uc] rfl (Blk.new w3 _ _) (by simp [Value.oneCell']) (by omega) (by have := hR3.size; simp; omega) ?_
      intro g2 cap w5 hown5 hgr5 hat5
      have hrlt := fun j (e : (Value.slice lA i lc).ownBlock = some j) => own_below hrow j e
      have hR5 := hR4.grown hgr5 (fun j e => (hrlt j e).1)
      have hS5 := HRF.out _ hR5
      have hwr : ∀ j, (Value.slice lA i lc).ownBlock = some j → j < wr.heap.size := fun j e => by obtain ⟨us0, hq0, -⟩ := HL.out; exact (own_below hq0 j e).2
      have hel : El w3 0 (.slice lA i lc) (.slice ua m uc) Rk := ⟨by rw [hm]; exact hu, fun j e => ⟨Nat.zero_le _, (hub j e).2, fun e2 => by rcases (hub j e).1 with q | q; exact absurd (HSB.out j q) (by have := (hrlt j e2.symm).1; omega); exact absurd (hwr j e2.symm) (by have : wr.drew.heap.size ≤ j := q; have : wr.heap.size ≤ j := this; omega)⟩⟩
      have hp := SetsRd.push (B := w.heap.size + 2) HTI.out hrr (.cells #[.slice ua m uc] 32) hgr5 (fun j e => (hrlt j e).2) hat5 hown5 hel
      rw [← HNX.out] at hp
      have hcap := own_cap hown5
      have hcap2 := own_capm hown5
      refine hK _ _ hS5 ?_
      clear hK
      try simp only [Act.put, zq1, zq2, zq3, zq4, zq5, zq6]
      have HP := Lib.hid hp; have HR5 := Lib.hid hR5
      clear hp hR5 hS5 hel hwr hrlt hown5 hgr5 hat5 hrow hrr hR4 hS4 hR3 hS3 hb3 hb3' hu hub hm hS hbrg HCO HNX HTI HRF HL HR
      refine anyX_last (by kernel_rfl) (by kernel_rfl) rfl rfl ?_
      try simp only [zq1, zq2, zq3]
      go_simp
      try apply_assumption
      go_wp2_with fail
      go_roundg (n - (i + 1))
      case measure => have := HGK.out; omega
      case rel => exact ⟨i + 1, cap, some ⟨g2, 0, none⟩, by go_num, rfl, rfl, hlt, hcap, hcap2, HP, HR5⟩
    · obtain rfl : i = n := by omega
      have hl := HL.out
      rw [List.take_of_length_le (by rw [List.length_map, HNK.out]; exact Nat.le_refl _)] at hl
      have b0 := HR.out.cells.1 0; have b1 := HR.out.cells.1 1; have b2 := HR.out.cells.1 2; have b3 := HR.out.cells.1 3; have q0 := HR.out.cells.2 0; have q1 := HR.out.cells.2 1
      simp only [List.getElem?_toArray, List.getElem?_cons_zero, List.getElem?_cons_succ] at b0 b1 b2 b3 q0 q1
      have hbel := HR.out.below
      have HB := Lib.hid hbel; have HLL := Lib.hid hl
      clear HL hl hbel HKID HAT HGK
      cases p with
      | range x y =>
        obtain rfl : kd = 1 := HKD.out.symm
        have hxy : lo = (x : Int) ∧ hi = (y : Int) := by
          have := HPT.out
          have h2 : Tree.mk 1 (x : Int) (y : Int) 0 [] [] = Tree.mk 1 lo hi 0 nm0 [] := this
          injection h2 with _ e1 e2
          exact ⟨e1.symm, e2.symm⟩
        obtain ⟨rfl, rfl⟩ := hxy
        have hc := (rnorm_any (reads_one wr x y) (by omega)).mono fun e w' h => RT.from_ (S := S) (HB.out.alloc HB.out.size (.cells #[.int .i64 (x : Int), .int .i64 (y : Int)] 66)) (RT.of_tells h)
        have hr : normL [((x : Int), (y : Int))] = TOT := HTOT.out
        rw [hr] at hc
        have HC := Lib.hid hc
        clear hc hr HR HB HLL
        go_wp2_with fail
        refine HC.out.mono ?_
        rintro e w3 ⟨u, rfl, hu, hub, hb3⟩
        have H3 := Lib.hid hu; have H4 := Lib.hid hub; have H5 := Lib.hid hb3
        clear hu hub hb3 b0 b1 b2 b3 b4 q0 q1
        go_wp2_with fail
        go_ret
        exact ⟨u, rfl, H3.out, H4.out, H5.out⟩
      | name x =>
        obtain rfl : kd = 2 := HKD.out.symm
        have hnx : nm.data.toList = x := by
          have := HPT.out
          have h2 : Tree.mk 2 0 0 0 x [] = Tree.mk 2 lo hi 0 nm0 [] := this
          injection h2 with _ _ _ _ e1
          rw [HNM.out, e1]
        have hmem : x ∈ Dn.take ss.length := HOK.out
        have hix : ixN Dn x = ixN (Dn.take ss.length) x := ixN_take hmem
        have hi0 := (ixN_mem (Dn.take ss.length) x).2 hmem
        have hi1 := ixN_lt (Dn.take ss.length) x
        have hmean : meanN Dn ss x = TOT := HTOT.out
        unfold meanN at hmean
        rw [if_pos hi0] at hmean
        obtain ⟨J, hJ⟩ : ∃ J : Nat, ixN (Dn.take ss.length) x = J := ⟨(ixN (Dn.take ss.length) x).toNat, by omega⟩
        rw [hJ] at hix hmean hi1
        rw [Int.toNat_natCast] at hmean
        have hJk : J < k := by rw [← HK.out]; rw [List.length_take] at hi1; omega
        have hff := find_any wr (.slice DA dl dc) RA RN RC Dn nm (HN0.out.below HB.out) (by omega) (by rw [hnx]; exact List.mem_of_mem_take hmem)
        rw [hnx, hix] at hff
        obtain ⟨A', c', e', -, -, hset⟩ := HS0.out
        have hkss := HK.out
        obtain ⟨bb, off, u, eA, hcell, hread, hbl⟩ := hset J (by rw [hkss]; exact hJk)
        injection e' with e1 e2 e3
        rw [← e1] at eA
        subst eA
        rw [hmean] at hread
        obtain ⟨ua, uc, rfl, -⟩ := hread.form
        obtain ⟨m, hm⟩ : ∃ m, TOT.length = m := ⟨_, rfl⟩
        have j0 : (0 : Int) ≤ (J : Int) := by omega
        have j1 : (J : Int) < (k : Int) := by omega
        have HFF := Lib.hid hff; have HCELL := Lib.hid hcell; have HREAD := Lib.hid hread; have HBL := Lib.hid hbl; have HM := Lib.hid hm
        clear hff hcell hread hbl hnx hmem hix hi0 hi1 hmean hJ HR HLL hset e1 e2 e3 hkss
        go_wp2_with fail
        refine HFF.out.mono ?_
        rintro e w3 ⟨rfl, hb3⟩
        have hb := HB.out.trans (hb3.mono HB.out.size)
        have hc3 : w3.cell? ⟨bb, off + J, none⟩ = some (.slice ua TOT.length uc) := by rw [hb.cell (p := ⟨bb, off + J, none⟩) (World.block_lt_of_cell? w _ HCELL.out)]; exact HCELL.out
        rw [HM.out] at hc3 hm
        have HB3 := Lib.hid hb
        clear hb3 hb b0 b1 b2 b3 b4 q0 q1 hm
        go_wp2_with fail
        go_ret
        refine ⟨_, rfl, ?_, fun j e => ?_, HB3.out⟩
        · have := HREAD.out.below HB3.out
          rw [HM.out] at this ⊢; exact this
        · have := HBL.out j (by rw [HM.out]; exact e)
          exact ⟨.inl this.1, Nat.lt_of_lt_of_le this.2 HB3.out.size⟩
      | any_ =>
        obtain rfl : kd = 3 := HKD.out.symm
        have hc := (rnot_any (ReadsP.nil wr) (show Rt [] by decide)).mono fun e w' h => RT.from_ (S := S) HB.out (RT.of_tells h)
        have hr : notL [] = TOT := HTOT.out
        rw [hr] at hc
        have HC := Lib.hid hc
        clear hc hr HR HB HLL
        go_wp2_with fail
        refine HC.out.mono ?_
        rintro e w3 ⟨u, rfl, hu, hub, hb3⟩
        have H3 := Lib.hid hu; have H4 := Lib.hid hub; have H5 := Lib.hid hb3
        clear hu hub hb3 b0 b1 b2 b3 b4 q0 q1
        go_wp2_with fail
        go_ret
        exact ⟨u, rfl, H3.out, H4.out, H5.out⟩
      | not_ a =>
        obtain rfl : kd = 4 := HKD.out.symm
        have hi1 : i = 1 := HNK.out.symm
        have hiA : 0 < i := by omega
        have hiB : (0 : Int) < (i : Int) := by omega
        clear hi1
        have hra : Rt (meanC Dn ss a) := meanC_rt HRT.out a
        obtain ⟨gl, cl, u0, el, hc0, he0⟩ := HLL.out.get 0 (by simp [Cls.kids])
        have hr0 : ReadsP wr u0 (meanC Dn ss a).length (meanC Dn ss a) := he0.1
        have hc := (rnot_any hr0 hra).mono fun e w' h => RT.from_ (S := S) HB.out (RT.of_tells h)
        have hr : notL (meanC Dn ss a) = TOT := HTOT.out
        rw [hr] at hc
        injection el with el1 el2 el3
        subst el1
        clear el2 el3
        obtain ⟨ua, uc, rfl, -⟩ := hr0.form
        obtain ⟨m, hm⟩ : ∃ m, (meanC Dn ss a).length = m := ⟨_, rfl⟩
        rw [hm] at hc hc0
        have HC := Lib.hid hc
        clear hc hr HR HB HLL hr0 hra he0 hm
        go_wp2_with fail
        refine HC.out.mono ?_
        rintro e w3 ⟨u, rfl, hu, hub, hb3⟩
        have H3 := Lib.hid hu; have H4 := Lib.hid hub; have H5 := Lib.hid hb3
        clear hu hub hb3 b0 b1 b2 b3 b4 q0 q1 hc0
        go_wp2_with fail
        go_ret
        exact ⟨u, rfl, H3.out, H4.out, H5.out⟩
      | or_ a b' =>
        obtain rfl : kd = 5 := HKD.out.symm
        have hi2 : i = 2 := HNK.out.symm
        have hiA : 0 < i := by omega
        have hiB : (0 : Int) < (i : Int) := by omega
        have hiC : 1 < i := by omega
        have hiD : (1 : Int) < (i : Int) := by omega
        clear hi2
        have hra : Rt (meanC Dn ss a) := meanC_rt HRT.out a
        have hrb : Rt (meanC Dn ss b') := meanC_rt HRT.out b'
        obtain ⟨gl, cl, u0, el, hc0, he0⟩ := HLL.out.get 0 (by simp [Cls.kids])
        obtain ⟨gl', cl', u1, el', hc1, he1⟩ := HLL.out.get 1 (by simp [Cls.kids])
        have hr0 : ReadsP wr u0 (meanC Dn ss a).length (meanC Dn ss a) := he0.1
        have hr1 : ReadsP wr u1 (meanC Dn ss b').length (meanC Dn ss b') := he1.1
        injection el with el1 el3 el4
        injection el' with el2 el5 el6
        subst el1
        clear el3 el4 el5 el6
        obtain rfl : gl = gl' := by injection el2 with el2; injection el2
        have hc := (show Calls Tryz.prog 62 #[u0, u1] wr.drew _ from (ror_any hr0.drew hr1.drew (Rt.short2 hra hrb rfl rfl)))
        have hr : orL (meanC Dn ss a) (meanC Dn ss b') = TOT := by rw [← HTOT.out]; show _ = normL [meanC Dn ss a, meanC Dn ss b'].flatten; simp [orL]
        rw [hr] at hc
        obtain ⟨ua, uc, rfl, -⟩ := hr0.form
        obtain ⟨ub, ud, rfl, -⟩ := hr1.form
        obtain ⟨m, hm⟩ : ∃ m, (meanC Dn ss a).length = m := ⟨_, rfl⟩
        obtain ⟨m', hm'⟩ : ∃ m, (meanC Dn ss b').length = m := ⟨_, rfl⟩
        rw [hm, hm'] at hc
        rw [hm] at hc0
        rw [hm'] at hc1
        have HC := Lib.hid hc
        clear hc hr HR HLL hr0 hr1 hra hrb he0 he1 hm hm' el2
        go_wp2_with fail
        refine region_x 7 (fun w' : World => w'.cell? ⟨gl, 0, none⟩ = some (.slice ua m uc) ∧ w'.cell? ⟨gl, 1, none⟩ = some (.slice ub m' ud)) (by kernel_rfl) ?_
        have hS : wr.drew.cell? ⟨gl, 0, none⟩ = some (.slice ua m uc) ∧ wr.drew.cell? ⟨gl, 1, none⟩ = some (.slice ub m' ud) := ⟨hc0, hc1⟩
        refine anyX_take (i := 0) (v := ?_) rfl (by kernel_rfl) (by kernel_rfl) (by kernel_rfl) (by kernel_rfl) (fun _ _ _ h => h) (Or.inl ⟨by rfl, ?_⟩) hS ?_
        rotate_left
        · rintro w' ⟨s0, s1⟩
          go_simp
          try with_reducible rfl
        try simp only [Act.put, zq1, zq2, zq3, zq4, zq5, zq6]
        refine anyX_take (i := 1) (v := ?_) rfl (by kernel_rfl) (by kernel_rfl) (by kernel_rfl) (by kernel_rfl) (fun _ _ _ h => h) (Or.inl ⟨by rfl, ?_⟩) hS ?_
        rotate_left
        · rintro w' ⟨s0, s1⟩
          go_simp
          try with_reducible rfl
        try simp only [Act.put, zq1, zq2, zq3, zq4, zq5, zq6]
        refine anyX_take (i := 2) (v := ?_) rfl (by kernel_rfl) (by kernel_rfl) (by kernel_rfl) (by kernel_rfl) (fun _ _ _ h => h) (Or.inl ⟨by rfl, ?_⟩) hS ?_
        rotate_left
        · rintro w' ⟨s0, s1⟩
          go_simp
          try with_reducible rfl
        try simp only [Act.put, zq1, zq2, zq3, zq4, zq5, zq6]
        refine anyX_take (i := 3) (v := ?_) rfl (by kernel_rfl) (by kernel_rfl) (by kernel_rfl) (by kernel_rfl) (fun _ _ _ h => h) (Or.inl ⟨by rfl, ?_⟩) hS ?_
        rotate_left
        · rintro w' ⟨s0, s1⟩
          go_simp
          try with_reducible rfl
        try simp only [Act.put, zq1, zq2, zq3, zq4, zq5, zq6]
        refine anyX_take (i := 4) (v := ?_) rfl (by kernel_rfl) (by kernel_rfl) (by kernel_rfl) (by kernel_rfl) (fun _ _ _ h => h) (Or.inl ⟨by rfl, ?_⟩) hS ?_
        rotate_left
        · rintro w' ⟨s0, s1⟩
          go_simp
          try with_reducible rfl
        try simp only [Act.put, zq1, zq2, zq3, zq4, zq5, zq6]
        refine anyX_take (i := 5) (v := ?_) rfl (by kernel_rfl) (by kernel_rfl) (by kernel_rfl) (by kernel_rfl) (fun _ _ _ h => h) (Or.inl ⟨by rfl, ?_⟩) hS ?_
        rotate_left
        · rintro w' ⟨s0, s1⟩
          go_simp
          try with_reducible rfl
        try simp only [Act.put, zq1, zq2, zq3, zq4, zq5, zq6]
        refine anyX_g (i := 6) (by kernel_rfl) (by decide) rfl (by rfl) ?_
        intro K hK
        try simp only [zq1, zq2, zq3]
        refine wp_enterE #[.slice ua m uc, .slice ub m' ud] Tryz.func62 (by kernel_rfl) (by kernel_rfl) ?_ HC.out ?_
        · go_simp
        rintro e w3 ⟨u, rfl, hu, hb3⟩
        refine ⟨_, rfl, ?_⟩
        have hs3 : w3.cell? ⟨gl, 0, none⟩ = some (.slice ua m uc) ∧ w3.cell? ⟨gl, 1, none⟩ = some (.slice ub m' ud) := ⟨by rw [hb3.cell (p := ⟨gl, 0, none⟩) (World.block_lt_of_cell? wr _ hc0)]; exact hc0, by rw [hb3.cell (p := ⟨gl, 1, none⟩) (World.block_lt_of_cell? wr _ hc1)]; exact hc1⟩
        refine hK _ _ hs3 ?_
        clear hK
        try simp only [Act.put, zq1, zq2, zq3, zq4, zq5, zq6]
        have H3 := Lib.hid (RT.from_ (S := S) HB.out.drew (RT.of_tells (show Tells wr.drew TOT (.returned u) w3 from ⟨u, rfl, hu, hb3⟩)))
        clear hu hb3 b0 b1 b2 b3 b4 q0 q1 hc0 hc1 hs3 hS
        refine anyX_last (by kernel_rfl) (by kernel_rfl) rfl rfl ?_
        try simp only [zq1, zq2, zq3]
        go_simp
        try apply_assumption
        go_wp2_with fail
        go_ret
        exact H3.out
      | and_ a b' =>
        obtain rfl : kd = 6 := HKD.out.symm
        have hi2 : i = 2 := HNK.out.symm
        have hiA : 0 < i := by omega
        have hiB : (0 : Int) < (i : Int) := by omega
        have hiC : 1 < i := by omega
        have hiD : (1 : Int) < (i : Int) := by omega
        clear hi2
        have hra : Rt (meanC Dn ss a) := meanC_rt HRT.out a
        have hrb : Rt (meanC Dn ss b') := meanC_rt HRT.out b'
        obtain ⟨gl, cl, u0, el, hc0, he0⟩ := HLL.out.get 0 (by simp [Cls.kids])
        obtain ⟨gl', cl', u1, el', hc1, he1⟩ := HLL.out.get 1 (by simp [Cls.kids])
        have hr0 : ReadsP wr u0 (meanC Dn ss a).length (meanC Dn ss a) := he0.1
        have hr1 : ReadsP wr u1 (meanC Dn ss b').length (meanC Dn ss b') := he1.1
        injection el with el1 el3 el4
        injection el' with el2 el5 el6
        subst el1
        clear el3 el4 el5 el6
        obtain rfl : gl = gl' := by injection el2 with el2; injection el2
        have hc := (show Calls Tryz.prog 63 #[u0, u1] wr.drew _ from (rand_any hr0.drew hr1.drew hra hrb))
        have hr : andL (meanC Dn ss a) (meanC Dn ss b') = TOT := by rw [← HTOT.out]; rfl
        rw [hr] at hc
        obtain ⟨ua, uc, rfl, -⟩ := hr0.form
        obtain ⟨ub, ud, rfl, -⟩ := hr1.form
        obtain ⟨m, hm⟩ : ∃ m, (meanC Dn ss a).length = m := ⟨_, rfl⟩
        obtain ⟨m', hm'⟩ : ∃ m, (meanC Dn ss b').length = m := ⟨_, rfl⟩
        rw [hm, hm'] at hc
        rw [hm] at hc0
        rw [hm'] at hc1
        have HC := Lib.hid hc
        clear hc hr HR HLL hr0 hr1 hra hrb he0 he1 hm hm' el2
        go_wp2_with fail
        refine region_x 7 (fun w' : World => w'.cell? ⟨gl, 0, none⟩ = some (.slice ua m uc) ∧ w'.cell? ⟨gl, 1, none⟩ = some (.slice ub m' ud)) (by kernel_rfl) ?_
        have hS : wr.drew.cell? ⟨gl, 0, none⟩ = some (.slice ua m uc) ∧ wr.drew.cell? ⟨gl, 1, none⟩ = some (.slice ub m' ud) := ⟨hc0, hc1⟩
        refine anyX_take (i := 0) (v := ?_) rfl (by kernel_rfl) (by kernel_rfl) (by kernel_rfl) (by kernel_rfl) (fun _ _ _ h => h) (Or.inl ⟨by rfl, ?_⟩) hS ?_
        rotate_left
        · rintro w' ⟨s0, s1⟩
          go_simp
          try with_reducible rfl
        try simp only [Act.put, zq1, zq2, zq3, zq4, zq5, zq6]
        refine anyX_take (i := 1) (v := ?_) rfl (by kernel_rfl) (by kernel_rfl) (by kernel_rfl) (by kernel_rfl) (fun _ _ _ h => h) (Or.inl ⟨by rfl, ?_⟩) hS ?_
        rotate_left
        · rintro w' ⟨s0, s1⟩
          go_simp
          try with_reducible rfl
        try simp only [Act.put, zq1, zq2, zq3, zq4, zq5, zq6]
        refine anyX_take (i := 2) (v := ?_) rfl (by kernel_rfl) (by kernel_rfl) (by kernel_rfl) (by kernel_rfl) (fun _ _ _ h => h) (Or.inl ⟨by rfl, ?_⟩) hS ?_
        rotate_left
        · rintro w' ⟨s0, s1⟩
          go_simp
          try with_reducible rfl
        try simp only [Act.put, zq1, zq2, zq3, zq4, zq5, zq6]
        refine anyX_take (i := 3) (v := ?_) rfl (by kernel_rfl) (by kernel_rfl) (by kernel_rfl) (by kernel_rfl) (fun _ _ _ h => h) (Or.inl ⟨by rfl, ?_⟩) hS ?_
        rotate_left
        · rintro w' ⟨s0, s1⟩
          go_simp
          try with_reducible rfl
        try simp only [Act.put, zq1, zq2, zq3, zq4, zq5, zq6]
        refine anyX_take (i := 4) (v := ?_) rfl (by kernel_rfl) (by kernel_rfl) (by kernel_rfl) (by kernel_rfl) (fun _ _ _ h => h) (Or.inl ⟨by rfl, ?_⟩) hS ?_
        rotate_left
        · rintro w' ⟨s0, s1⟩
          go_simp
          try with_reducible rfl
        try simp only [Act.put, zq1, zq2, zq3, zq4, zq5, zq6]
        refine anyX_take (i := 5) (v := ?_) rfl (by kernel_rfl) (by kernel_rfl) (by kernel_rfl) (by kernel_rfl) (fun _ _ _ h => h) (Or.inl ⟨by rfl, ?_⟩) hS ?_
        rotate_left
        · rintro w' ⟨s0, s1⟩
          go_simp
          try with_reducible rfl
        try simp only [Act.put, zq1, zq2, zq3, zq4, zq5, zq6]
        refine anyX_g (i := 6) (by kernel_rfl) (by decide) rfl (by rfl) ?_
        intro K hK
        try simp only [zq1, zq2, zq3]
        refine wp_enterE #[.slice ua m uc, .slice ub m' ud] Tryz.func63 (by kernel_rfl) (by kernel_rfl) ?_ HC.out ?_
        · go_simp
        rintro e w3 ⟨u, rfl, hu, hb3⟩
        refine ⟨_, rfl, ?_⟩
        have hs3 : w3.cell? ⟨gl, 0, none⟩ = some (.slice ua m uc) ∧ w3.cell? ⟨gl, 1, none⟩ = some (.slice ub m' ud) := ⟨by rw [hb3.cell (p := ⟨gl, 0, none⟩) (World.block_lt_of_cell? wr _ hc0)]; exact hc0, by rw [hb3.cell (p := ⟨gl, 1, none⟩) (World.block_lt_of_cell? wr _ hc1)]; exact hc1⟩
        refine hK _ _ hs3 ?_
        clear hK
        try simp only [Act.put, zq1, zq2, zq3, zq4, zq5, zq6]
        have H3 := Lib.hid (RT.from_ (S := S) HB.out.drew (RT.of_tells (show Tells wr.drew TOT (.returned u) w3 from ⟨u, rfl, hu, hb3⟩)))
        clear hu hb3 b0 b1 b2 b3 b4 q0 q1 hc0 hc1 hs3 hS
        refine anyX_last (by kernel_rfl) (by kernel_rfl) rfl rfl ?_
        try simp only [zq1, zq2, zq3]
        go_simp
        try apply_assumption
        go_wp2_with fail
        go_ret
        exact H3.out
      | less a b' =>
        obtain rfl : kd = 7 := HKD.out.symm
        have hi2 : i = 2 := HNK.out.symm
        have hiA : 0 < i := by omega
        have hiB : (0 : Int) < (i : Int) := by omega
        have hiC : 1 < i := by omega
        have hiD : (1 : Int) < (i : Int) := by omega
        clear hi2
        have hra : Rt (meanC Dn ss a) := meanC_rt HRT.out a
        have hrb : Rt (meanC Dn ss b') := meanC_rt HRT.out b'
        obtain ⟨gl, cl, u0, el, hc0, he0⟩ := HLL.out.get 0 (by simp [Cls.kids])
        obtain ⟨gl', cl', u1, el', hc1, he1⟩ := HLL.out.get 1 (by simp [Cls.kids])
        have hr0 : ReadsP wr u0 (meanC Dn ss a).length (meanC Dn ss a) := he0.1
        have hr1 : ReadsP wr u1 (meanC Dn ss b').length (meanC Dn ss b') := he1.1
        injection el with el1 el3 el4
        injection el' with el2 el5 el6
        subst el1
        clear el3 el4 el5 el6
        obtain rfl : gl = gl' := by injection el2 with el2; injection el2
        have hc := (show Calls Tryz.prog 64 #[u0, u1] wr.drew _ from (rless_any hr0.drew hr1.drew hra hrb))
        have hr : lessL (meanC Dn ss a) (meanC Dn ss b') = TOT := by rw [← HTOT.out]; rfl
        rw [hr] at hc
        obtain ⟨ua, uc, rfl, -⟩ := hr0.form
        obtain ⟨ub, ud, rfl, -⟩ := hr1.form
        obtain ⟨m, hm⟩ : ∃ m, (meanC Dn ss a).length = m := ⟨_, rfl⟩
        obtain ⟨m', hm'⟩ : ∃ m, (meanC Dn ss b').length = m := ⟨_, rfl⟩
        rw [hm, hm'] at hc
        rw [hm] at hc0
        rw [hm'] at hc1
        have HC := Lib.hid hc
        clear hc hr HR HLL hr0 hr1 hra hrb he0 he1 hm hm' el2
        go_wp2_with fail
        refine region_x 7 (fun w' : World => w'.cell? ⟨gl, 0, none⟩ = some (.slice ua m uc) ∧ w'.cell? ⟨gl, 1, none⟩ = some (.slice ub m' ud)) (by kernel_rfl) ?_
        have hS : wr.drew.cell? ⟨gl, 0, none⟩ = some (.slice ua m uc) ∧ wr.drew.cell? ⟨gl, 1, none⟩ = some (.slice ub m' ud) := ⟨hc0, hc1⟩
        refine anyX_take (i := 0) (v := ?_) rfl (by kernel_rfl) (by kernel_rfl) (by kernel_rfl) (by kernel_rfl) (fun _ _ _ h => h) (Or.inl ⟨by rfl, ?_⟩) hS ?_
        rotate_left
        · rintro w' ⟨s0, s1⟩
          go_simp
          try with_reducible rfl
        try simp only [Act.put, zq1, zq2, zq3, zq4, zq5, zq6]
        refine anyX_take (i := 1) (v := ?_) rfl (by kernel_rfl) (by kernel_rfl) (by kernel_rfl) (by kernel_rfl) (fun _ _ _ h => h) (Or.inl ⟨by rfl, ?_⟩) hS ?_
        rotate_left
        · rintro w' ⟨s0, s1⟩
          go_simp
          try with_reducible rfl
        try simp only [Act.put, zq1, zq2, zq3, zq4, zq5, zq6]
        refine anyX_take (i := 2) (v := ?_) rfl (by kernel_rfl) (by kernel_rfl) (by kernel_rfl) (by kernel_rfl) (fun _ _ _ h => h) (Or.inl ⟨by rfl, ?_⟩) hS ?_
        rotate_left
        · rintro w' ⟨s0, s1⟩
          go_simp
          try with_reducible rfl
        try simp only [Act.put, zq1, zq2, zq3, zq4, zq5, zq6]
        refine anyX_take (i := 3) (v := ?_) rfl (by kernel_rfl) (by kernel_rfl) (by kernel_rfl) (by kernel_rfl) (fun _ _ _ h => h) (Or.inl ⟨by rfl, ?_⟩) hS ?_
        rotate_left
        · rintro w' ⟨s0, s1⟩
          go_simp
          try with_reducible rfl
        try simp only [Act.put, zq1, zq2, zq3, zq4, zq5, zq6]
        refine anyX_take (i := 4) (v := ?_) rfl (by kernel_rfl) (by kernel_rfl) (by kernel_rfl) (by kernel_rfl) (fun _ _ _ h => h) (Or.inl ⟨by rfl, ?_⟩) hS ?_
        rotate_left
        · rintro w' ⟨s0, s1⟩
          go_simp
          try with_reducible rfl
        try simp only [Act.put, zq1, zq2, zq3, zq4, zq5, zq6]
        refine anyX_take (i := 5) (v := ?_) rfl (by kernel_rfl) (by kernel_rfl) (by kernel_rfl) (by kernel_rfl) (fun _ _ _ h => h) (Or.inl ⟨by rfl, ?_⟩) hS ?_
        rotate_left
        · rintro w' ⟨s0, s1⟩
          go_simp
          try with_reducible rfl
        try simp only [Act.put, zq1, zq2, zq3, zq4, zq5, zq6]
        refine anyX_g (i := 6) (by kernel_rfl) (by decide) rfl (by rfl) ?_
        intro K hK
        try simp only [zq1, zq2, zq3]
        refine wp_enterE #[.slice ua m uc, .slice ub m' ud] Tryz.func64 (by kernel_rfl) (by kernel_rfl) ?_ HC.out ?_
        · go_simp
        rintro e w3 ⟨u, rfl, hu, hb3⟩
        refine ⟨_, rfl, ?_⟩
        have hs3 : w3.cell? ⟨gl, 0, none⟩ = some (.slice ua m uc) ∧ w3.cell? ⟨gl, 1, none⟩ = some (.slice ub m' ud) := ⟨by rw [hb3.cell (p := ⟨gl, 0, none⟩) (World.block_lt_of_cell? wr _ hc0)]; exact hc0, by rw [hb3.cell (p := ⟨gl, 1, none⟩) (World.block_lt_of_cell? wr _ hc1)]; exact hc1⟩
        refine hK _ _ hs3 ?_
        clear hK
        try simp only [Act.put, zq1, zq2, zq3, zq4, zq5, zq6]
        have H3 := Lib.hid (RT.from_ (S := S) HB.out.drew (RT.of_tells (show Tells wr.drew TOT (.returned u) w3 from ⟨u, rfl, hu, hb3⟩)))
        clear hu hb3 b0 b1 b2 b3 b4 q0 q1 hc0 hc1 hs3 hS
        refine anyX_last (by kernel_rfl) (by kernel_rfl) rfl rfl ?_
        try simp only [zq1, zq2, zq3]
        go_simp
        try apply_assumption
        go_wp2_with fail
        go_ret
        exact H3.out
end Go.Proofs.YtalgnnidhnhciaaGreatDoor

set_option linter.unusedVariables false
set_option linter.unusedSimpArgs false
namespace Go.Proofs.YtalgnnidhnhciaaGreatDoor
open Go Go.RowKit Go.Proofs

theorem ranges_any (Dn : List Bs) (hDn : Dn.length ≤ 1000) : ∀ p : Cls, RSpec Dn p
  | .range x y => ranges_step Dn hDn _ fun q hq => by cases hq
  | .name x => ranges_step Dn hDn _ fun q hq => by cases hq
  | .any_ => ranges_step Dn hDn _ fun q hq => by cases hq
  | .not_ a => ranges_step Dn hDn _ fun q hq => by
      have h : q = a := by simpa [Cls.kids] using hq
      rw [h]; exact ranges_any Dn hDn a
  | .or_ a b => ranges_step Dn hDn _ fun q hq => by
      have h : q = a ∨ q = b := by simpa [Cls.kids] using hq
      exact h.elim (fun e => by rw [e]; exact ranges_any Dn hDn a) (fun e => by rw [e]; exact ranges_any Dn hDn b)
  | .and_ a b => ranges_step Dn hDn _ fun q hq => by
      have h : q = a ∨ q = b := by simpa [Cls.kids] using hq
      exact h.elim (fun e => by rw [e]; exact ranges_any Dn hDn a) (fun e => by rw [e]; exact ranges_any Dn hDn b)
  | .less a b => ranges_step Dn hDn _ fun q hq => by
      have h : q = a ∨ q = b := by simpa [Cls.kids] using hq
      exact h.elim (fun e => by rw [e]; exact ranges_any Dn hDn a) (fun e => by rw [e]; exact ranges_any Dn hDn b)
theorem defsOk_at (defs : List DefP) : ∀ (D : List Bs), defsOk D defs → ∀ i (hi : i < defs.length), (defs[i]).c.Ok (D ++ (defs.map DefP.name).take i) := by
  induction defs with
  | nil => intro D _ i hi; simp at hi
  | cons d r ih =>
    intro D h i hi
    cases i with
    | zero => simpa using h.1.2.2.1
    | succ i =>
      have := ih _ h.2 i (by simpa using hi)
      simpa using this
/-- Within the call: its box. -/
structure FlS (w : World) (c1 : Array Value) (W : World) : Prop where
  below : Below w.heap.size w W
  file : Blk W w.heap.size 28 c1
section
variable {w W W' : World} {c1 : Array Value}
theorem FlS.drew (h : FlS w c1 W) : FlS w c1 W.drew := ⟨h.below.drew, Blk.drew h.file⟩
theorem FlS.bel (h : FlS w c1 W) (hb : Below W.heap.size W W') : FlS w c1 W' := ⟨h.below.trans (hb.mono h.below.size), Blk.below h.file hb h.file.lt⟩
theorem FlS.alloc (h : FlS w c1 W) (o : Obj) : FlS w c1 (W.alloc o) := ⟨h.below.alloc h.below.size o, Blk.alloc h.file o⟩
theorem FlS.grown (h : FlS w c1 W) {row : Option Nat} (hg : W.grownBy W' row) (hr : ∀ j, row = some j → w.heap.size + 1 ≤ j) : FlS w c1 W' :=
  ⟨below_own h.below hg h.below.size (fun j e => by have := hr j e; omega), Blk.grown h.file hg (fun e => by have := hr _ e.symm; omega)⟩
end
set_option maxRecDepth 100000 in
set_option maxHeartbeats 16000000 in
theorem rsets_any (defs : List DefP) (hnd : defs.length ≤ 1000) (hOk : defsOk [] defs) (w : World) (dv : Value) (RA : Option Addr) (RN RC : Nat) (hD : DefsAt w (fun g => g < w.heap.size) dv (defs.map DefP.tree)) :
    Calls Tryz.prog 13 #[.agg #[dv, .slice RA RN RC]] w fun e w' => ∃ v, e = .returned v ∧ SetsRd w' w.heap.size w.heap.size v (setsOf defs defs.length) ∧ Below w.heap.size w w' := by
  have hD0 := hD
  obtain ⟨DA, dc, cs, rfl, hd1, hd2, hd3, hrr, hcs⟩ := hD
  obtain ⟨nd, hndE⟩ : ∃ d, defs.length = d := ⟨_, rfl⟩
  have hlm : (defs.map DefP.tree).length = nd := by rw [List.length_map, hndE]
  have hNm : NamesL w (.slice DA nd dc) (defs.map DefP.name) := by
    refine ⟨DA, dc, by rw [List.length_map, hndE], by rw [List.length_map, hndE, ← hlm]; exact hd1, hd2, fun i hi => ?_⟩
    rw [List.length_map] at hi
    obtain ⟨g, o, e⟩ := hd3.some (by omega)
    have hic : i < cs.length := hrr.len_eq (by omega)
    have h1 := (hcs g o e i hic).2 0 _ rfl
    have h2 := (hrr.at_ i hic (by omega)).1
    refine ⟨g, o, e, cs[i].nm0, ?_, h1⟩
    rw [h2]
    simp [List.getD, hi, DefP.tree]
  have hat : ∀ i d, defs[i]? = some d → ∃ g o, DA = some ⟨g, o, none⟩ ∧ ∃ (k1 lo1 hi1 : Int) (s1 : ByteArray) (A1 : Option Addr) (n1 c1 : Nat), CellsAt w g (o + i * 6 + 1) [.int .i64 k1, .int .i64 lo1, .int .i64 hi1, .string s1, .slice A1 n1 c1] ∧ TreeV false w (fun g => g < w.heap.size) (.agg #[.int .i64 k1, .int .i64 lo1, .int .i64 hi1, .string s1, .slice A1 n1 c1]) d.c.tree := fun i d hd => by
    have hi : i < defs.length := (List.getElem?_eq_some_iff.1 hd).1
    have hde : defs[i] = d := by rw [List.getElem?_eq_getElem hi] at hd; injection hd
    obtain ⟨g, o, e⟩ := hd3.some (by omega)
    have hic : i < cs.length := hrr.len_eq (by omega)
    have h1 := (hcs g o e i hic).2
    have h2 := (hrr.at_ i hic (by omega)).2
    refine ⟨g, o, e, cs[i].k, cs[i].lo, cs[i].hi, cs[i].nm, cs[i].A, cs[i].n, cs[i].c, fun j v hj => ?_, by simpa [DefP.tree, DCell.val, hde] using h2⟩
    have := h1 (j + 1) v (by simpa [DCell.enc] using hj)
    rw [show o + i * 6 + 1 + j = o + i * 6 + (j + 1) by omega]; exact this
  rw [hlm] at hd1 ⊢
  rw [hndE] at hnd ⊢
  unfold maxLen at hd2
  have hF0 : FlS w #[.slice DA nd dc, .slice RA RN RC] (w.alloc (.cells #[.slice DA nd dc, .slice RA RN RC] 28)) := ⟨(Below.refl _ _).alloc (Nat.le_refl _) _, Blk.new _ _ _⟩
  have HAT := Lib.hid hat; have HF0 := Lib.hid hF0; have HN := Lib.hid hNm; have HOK := Lib.hid hOk; have HND := Lib.hid hndE
  clear hat hF0 hNm hOk hndE hlm hD0 hd3 hrr hcs
  go_enter Tryz.func13, Tryz.ntmps13
  go_wp2_with fail
  go_loopg [3, 4] nd (fun gk vl vi wr => ∃ (i lc : Nat) (lA : Option Addr), vi = .int .i64 i ∧ vl = .slice lA i lc ∧ gk = nd - i ∧ i ≤ nd ∧ i ≤ lc ∧ lc ≤ 9223372036854775807 ∧ Hid (SetsRd wr (w.heap.size + 1) w.heap.size (.slice lA i lc) (setsOf defs i)) ∧ Hid (FlS w #[.slice DA nd dc, .slice RA RN RC] wr))
  case atStart => exact ⟨0, 0, none, rfl, rfl, rfl, Nat.zero_le _, Nat.le_refl _, by omega, Lib.hid (SetsRd.nil _ _ _), HF0⟩
  case round =>
    clear HF0
    obtain ⟨i, lc, lA, rfl, rfl, hgk, hin, hilc, hlcm, HL, HF⟩ := hrel
    have HGK := Lib.hid hgk; clear hgk
    have i0 : (0 : Int) ≤ (i : Int) := Int.natCast_nonneg _
    have b0 := Blk.cell HF.out.file 0
    simp only [List.getElem?_toArray, List.getElem?_cons_zero, List.getElem?_cons_succ] at b0
    by_cases hlt : i < nd
    · have i1 : (i : Int) < (nd : Int) := by omega
      have hid : i < defs.length := by rw [HND.out]; exact hlt
      obtain ⟨g, o, rfl, k1, lo1, hi1, s1, A1, n1, c1, hca, htv⟩ := HAT.out i defs[i] (List.getElem?_eq_getElem hid)
      have hbw := HF.out.below
      have hti : (setsOf defs i).length = i := setsOf_len defs i (by omega)
      have hin_ := HL.out.in_
      have hco := ranges_any (defs.map DefP.name) (by rw [List.length_map, HND.out]; exact hnd) (defs[i]).c wr.drew _ (fun g => g < w.heap.size) (.agg #[.int .i64 k1, .int .i64 lo1, .int .i64 hi1, .string s1, .slice A1 n1 c1]) (.slice (some ⟨g, o, none⟩) nd dc) RA RN RC (.slice lA i lc) (setsOf defs i)
        (htv.bel (fun _ h => h) hbw.drew) (HN.out.below hbw.drew) (by rw [hti]; have := defsOk_at defs [] HOK.out i hid; simpa using this) (by rw [hti, List.length_map]; omega) (hin_.bel (Below.refl _ _).drew) (fun g hg => hg.2.1) (setsOf_rt defs i)
      obtain ⟨Rk, hRk⟩ : ∃ R, meanC (defs.map DefP.name) (setsOf defs i) (defs[i]).c = R := ⟨_, rfl⟩
      have hnx := setsOf_next defs i hid
      rw [hRk] at hco hnx
      have hRf : ∀ W : World, FlS w #[.slice (some ⟨g, o, none⟩) nd dc, .slice RA RN RC] W → (fun w' : World => w'.cell? ⟨w.heap.size, 0, none⟩ = some (.slice (some ⟨g, o, none⟩) nd dc) ∧ w'.cell? ⟨w.heap.size, 1, none⟩ = some (.slice RA RN RC) ∧ w'.cell? ⟨g, o + i * 6 + 1, none⟩ = some (.int .i64 k1) ∧ w'.cell? ⟨g, o + i * 6 + 2, none⟩ = some (.int .i64 lo1) ∧ w'.cell? ⟨g, o + i * 6 + 3, none⟩ = some (.int .i64 hi1) ∧ w'.cell? ⟨g, o + i * 6 + 4, none⟩ = some (.string s1) ∧ w'.cell? ⟨g, o + i * 6 + 5, none⟩ = some (.slice A1 n1 c1)) W := fun W hW => by
        have q0 := fun j => Blk.cell hW.file j
        have hc5 := (hca.bel hW.below).at5
        exact ⟨q0 0, q0 1, hc5.1, hc5.2.1, hc5.2.2.1, hc5.2.2.2.1, hc5.2.2.2.2⟩
      have HCO := Lib.hid hco; have HNX := Lib.hid hnx; have HTI := Lib.hid hti; have HRF := Lib.hid hRf
      clear hco hnx hti hRf hca htv hbw hRk HAT hin_ hid
      have hbrg : FlS w #[.slice (some ⟨g, o, none⟩) nd dc, .slice RA RN RC] wr := HF.out
      go_wp2_with fail
      refine region_x 12 (fun w' : World => w'.cell? ⟨w.heap.size, 0, none⟩ = some (.slice (some ⟨g, o, none⟩) nd dc) ∧ w'.cell? ⟨w.heap.size, 1, none⟩ = some (.slice RA RN RC) ∧ w'.cell? ⟨g, o + i * 6 + 1, none⟩ = some (.int .i64 k1) ∧ w'.cell? ⟨g, o + i * 6 + 2, none⟩ = some (.int .i64 lo1) ∧ w'.cell? ⟨g, o + i * 6 + 3, none⟩ = some (.int .i64 hi1) ∧ w'.cell? ⟨g, o + i * 6 + 4, none⟩ = some (.string s1) ∧ w'.cell? ⟨g, o + i * 6 + 5, none⟩ = some (.slice A1 n1 c1)) (by kernel_rfl) ?_
      have hS := HRF.out _ hbrg.drew
      refine anyX_take (i := 0) (v := ?_) rfl (by kernel_rfl) (by kernel_rfl) (by kernel_rfl) (by kernel_rfl) (fun _ _ _ h => h) (Or.inl ⟨by rfl, ?_⟩) hS ?_
      rotate_left
      · rintro w' ⟨s0, s1, s2, s3, s4, s5, s6⟩
        go_simp
        try with_reducible rfl
      try simp only [Act.put, zq1, zq2, zq3, zq4, zq5, zq6]
      refine anyX_take (i := 1) (v := ?_) rfl (by kernel_rfl) (by kernel_rfl) (by kernel_rfl) (by kernel_rfl) (fun _ _ _ h => h) (Or.inl ⟨by rfl, ?_⟩) hS ?_
      rotate_left
      · rintro w' ⟨s0, s1, s2, s3, s4, s5, s6⟩
        go_simp
        try with_reducible rfl
      try simp only [Act.put, zq1, zq2, zq3, zq4, zq5, zq6]
      refine anyX_take (i := 2) (v := ?_) rfl (by kernel_rfl) (by kernel_rfl) (by kernel_rfl) (by kernel_rfl) (fun _ _ _ h => h) (Or.inl ⟨by rfl, ?_⟩) hS ?_
      rotate_left
      · rintro w' ⟨s0, s1, s2, s3, s4, s5, s6⟩
        go_simp
        try with_reducible rfl
      try simp only [Act.put, zq1, zq2, zq3, zq4, zq5, zq6]
      refine anyX_take (i := 3) (v := ?_) rfl (by kernel_rfl) (by kernel_rfl) (by kernel_rfl) (by kernel_rfl) (fun _ _ _ h => h) (Or.inl ⟨by rfl, ?_⟩) hS ?_
      rotate_left
      · rintro w' ⟨s0, s1, s2, s3, s4, s5, s6⟩
        go_simp
        try with_reducible rfl
      try simp only [Act.put, zq1, zq2, zq3, zq4, zq5, zq6]
      refine anyX_take (i := 4) (v := ?_) rfl (by kernel_rfl) (by kernel_rfl) (by kernel_rfl) (by kernel_rfl) (fun _ _ _ h => h) (Or.inl ⟨by rfl, ?_⟩) hS ?_
      rotate_left
      · rintro w' ⟨s0, s1, s2, s3, s4, s5, s6⟩
        go_simp
        try with_reducible rfl
      try simp only [Act.put, zq1, zq2, zq3, zq4, zq5, zq6]
      refine anyX_take (i := 5) (v := ?_) rfl (by kernel_rfl) (by kernel_rfl) (by kernel_rfl) (by kernel_rfl) (fun _ _ _ h => h) (Or.inl ⟨by rfl, ?_⟩) hS ?_
      rotate_left
      · rintro w' ⟨s0, s1, s2, s3, s4, s5, s6⟩
        go_simp
        try with_reducible rfl
      try simp only [Act.put, zq1, zq2, zq3, zq4, zq5, zq6]
      refine anyX_take (i := 6) (v := ?_) rfl (by kernel_rfl) (by kernel_rfl) (by kernel_rfl) (by kernel_rfl) (fun _ _ _ h => h) (Or.inl ⟨by rfl, ?_⟩) hS ?_
      rotate_left
      · rintro w' ⟨s0, s1, s2, s3, s4, s5, s6⟩
        go_simp
        try with_reducible rfl
      try simp only [Act.put, zq1, zq2, zq3, zq4, zq5, zq6]
      refine anyX_take (i := 7) (v := ?_) rfl (by kernel_rfl) (by kernel_rfl) (by kernel_rfl) (by kernel_rfl) (fun _ _ _ h => h) (Or.inl ⟨by rfl, ?_⟩) hS ?_
      rotate_left
      · rintro w' ⟨s0, s1, s2, s3, s4, s5, s6⟩
        go_simp
        try with_reducible rfl
      try simp only [Act.put, zq1, zq2, zq3, zq4, zq5, zq6]
      refine anyX_take (i := 8) (v := ?_) rfl (by kernel_rfl) (by kernel_rfl) (by kernel_rfl) (by kernel_rfl) (fun _ _ _ h => h) (Or.inl ⟨by rfl, ?_⟩) hS ?_
      rotate_left
      · rintro w' ⟨s0, s1, s2, s3, s4, s5, s6⟩
        go_simp
        try with_reducible rfl
      try simp only [Act.put, zq1, zq2, zq3, zq4, zq5, zq6]
      refine anyX_g (i := 9) (by kernel_rfl) (by decide) rfl (by rfl) ?_
      intro K hK
      try simp only [zq1, zq2, zq3]
      refine wp_enterE #[.agg #[.int .i64 k1, .int .i64 lo1, .int .i64 hi1, .string s1, .slice A1 n1 c1], .agg #[.slice (some ⟨g, o, none⟩) nd dc, .slice RA RN RC], .slice lA i lc] Tryz.func32 (by kernel_rfl) (by kernel_rfl) ?_ (HCO.out) ?_
      · go_simp
      rintro e w3 ⟨u, rfl, hu, hub, hb3⟩
      refine ⟨_, rfl, ?_⟩
      have hb3' : Below wr.heap.size wr w3 := (Below.refl _ wr).drew.trans hb3
      have hR3 := hbrg.bel hb3'
      have hS3 := HRF.out _ hR3
      obtain ⟨ua, uc, rfl, -⟩ := hu.form
      obtain ⟨m, hm⟩ : ∃ m, Rk.length = m := ⟨_, rfl⟩
      rw [hm] at hu hub ⊢
      refine hK _ _ hS3 ?_
      clear hK
      try simp only [Act.put, zq1, zq2, zq3, zq4, zq5, zq6]
      refine anyX_g (i := 10) (by kernel_rfl) (by decide) rfl (by rfl) ?_
      intro K hK
      try simp only [zq1, zq2, zq3]
      go_simp
      have hR4 := hR3.alloc (.cells #[.slice ua m uc] 32)
      have hS4 := HRF.out _ hR4
      refine hK _ _ hS4 ?_
      clear hK
      try simp only [Act.put, zq1, zq2, zq3, zq4, zq5, zq6]
      refine anyX_g (i := 11) (by kernel_rfl) (by decide) rfl (by rfl) ?_
      intro K hK
      try simp only [zq1, zq2, zq3]
      have hl3 := HL.out.bel hb3'
      obtain ⟨us, hrow, hrr⟩ := hl3
      rw [HTI.out] at hrow
      refine wp_pushK rfl (.tmp 12) (.tmp 22) 29 32 rfl 1 24 _ Tryz.underlying29 info_ranges rfl (by omega) (by omega) (w.heap.size + 1) (.slice lA i lc) i us (by rfl) (World.ownsRow.alloc hrow _) w3.heap.size (by rfl) #[.slice ua m uc] rfl (Blk.new w3 _ _) (by simp [Value.oneCell']) (by omega) (by have := hR3.file.lt; simp; omega) ?_
      intro g2 cap w5 hown5 hgr5 hat5
      have hrlt := fun j (e : (Value.slice lA i lc).ownBlock = some j) => own_below hrow j e
      have hR5 := hR4.grown hgr5 (fun j e => (hrlt j e).1)
      have hS5 := HRF.out _ hR5
      have hwr : ∀ j, (Value.slice lA i lc).ownBlock = some j → j < wr.heap.size := fun j e => by obtain ⟨us0, hq0, -⟩ := HL.out; exact (own_below hq0 j e).2
      have hel : El w3 w.heap.size (.slice lA i lc) (.slice ua m uc) Rk := ⟨by rw [hm]; exact hu, fun j e => ⟨(by rcases (hub j e).1 with q | q; exact q.1; exact Nat.le_trans HF.out.below.size q), (hub j e).2, fun e2 => by rcases (hub j e).1 with q | q; exact q.2.2 e2; exact absurd (hwr j e2.symm) (by have : wr.drew.heap.size ≤ j := q; have : wr.heap.size ≤ j := this; omega)⟩⟩
      have hp := SetsRd.push (B := w.heap.size + 1) HTI.out hrr (.cells #[.slice ua m uc] 32) hgr5 (fun j e => (hrlt j e).2) hat5 hown5 hel
      rw [← HNX.out] at hp
      have hcap := own_cap hown5
      have hcap2 := own_capm hown5
      refine hK _ _ hS5 ?_
      clear hK
      try simp only [Act.put, zq1, zq2, zq3, zq4, zq5, zq6]
      have HP := Lib.hid hp; have HR5 := Lib.hid hR5
      clear hp hR5 hS5 hel hwr hrlt hown5 hgr5 hat5 hrow hrr hR4 hS4 hR3 hS3 hb3 hb3' hu hub hm hS hbrg HCO HNX HTI HRF HL HF
      refine anyX_last (by kernel_rfl) (by kernel_rfl) rfl rfl ?_
      try simp only [zq1, zq2, zq3]
      go_simp
      try apply_assumption
      go_wp2_with fail
      go_roundg (nd - (i + 1))
      case measure => have := HGK.out; omega
      case rel => exact ⟨i + 1, cap, some ⟨g2, 0, none⟩, by go_num, rfl, rfl, hlt, hcap, hcap2, HP, HR5⟩
    · obtain rfl : i = nd := by omega
      clear HAT HGK
      go_wp2_with fail
      go_ret
      refine ⟨_, rfl, ?_, HF.out.below⟩
      obtain ⟨us, h1, h2⟩ := HL.out
      refine ⟨us, ?_, h2⟩
      obtain ⟨h1, q⟩ := h1
      refine ⟨h1, ?_⟩
      rcases q with q | ⟨g, cap, cur, e, hg, r⟩
      · exact .inl q
      · exact .inr ⟨g, cap, cur, e, by omega, r⟩
end Go.Proofs.YtalgnnidhnhciaaGreatDoor
