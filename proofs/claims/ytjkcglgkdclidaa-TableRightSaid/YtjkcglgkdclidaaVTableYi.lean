/- The writer's list. The writer's lists. The writer's emits. The writer's table; Save. Save. -/
import Derived.Test.YtjkcglgkdclidaaVTableYe
set_option linter.unusedVariables false
set_option linter.unusedSimpArgs false
set_option maxRecDepth 100000
set_option maxHeartbeats 4000000
namespace Go.Proofs.Ytjkcglgkdclidaa
open Go Go.RowKit Go.Proofs
theorem enN_eq (l : List Int) : enN l = (l.length : Int) :: l := by
 show (l.length : Int) :: l.flatMap enOne = _
 congr 1
 induction l with
 | nil => rfl
 | cons a l ih => rw [List.flatMap_cons, ih]; rfl
theorem bytesN_one (x : Int) : bytesN [x] = be8 x := by simp [bytesN]
section
variable {w w1 W W' : World} {b B : Nat} {vb vc vd : Value} {M N : List Int}
theorem PutW.trans (h : PutW w b B vb W vc M) (k : PutW W b B vc W' vd N) : PutW w b B vb W' vd N :=
 ⟨k.x, k.o, by
  rcases k.at_ with h1 | h1
  ·rcases h.at_ with h2 | h2
   ·exact .inl (h1.trans h2)
   ·exact .inr (fun q hq => h2 q (h1 ▸ hq))
  ·exact .inr (fun q hq => Nat.le_trans h.fr.size (h1 q hq)), h.fr.then_ k.fr (fun q hq e => by
   rcases e with e | e
   ·exact .inl e
   ·rcases h.at_ with h2 | h2
    ·exact .inr (h2 ▸ e)
    ·have := h2 q e; omega)⟩
theorem PutW.from_ (h : PutW w1 b B vb W vc M) (hb : Below w.heap.size w w1) : PutW w b B vb W vc M :=
 ⟨h.x, h.o, h.at_.imp id (fun h1 q hq => Nat.le_trans hb.size (h1 q hq)), (Fr.of_below hb).trans h.fr⟩
theorem PutW.low (h : PutW w b B vb W vc M) (hbb : B <= b) (hB : B <= w.heap.size) (hv : ∀ k, vb.ownBlock = some k -> B <= k) : Below B w W :=
 h.fr.below hB (fun k hk e => by
  rcases e with e | e
  ·omega
  ·have := hv k e; omega)
structure WrAt (w0 w : World) (b : Nat) (vb : Value) (L : List Int) : Prop where
 x : Blk w b 71 #[vb]
 o : BRow w w0.heap.size vb L
 b : w0.heap.size <= b
 low : Below w0.heap.size w0 w
theorem WrAt.put {w0 : World} (h : WrAt w0 w b vb M) (k : PutW w b w0.heap.size vb W vc N) : WrAt w0 W b vc N :=
 ⟨k.x, k.o, h.b, h.low.trans ((k.low h.b h.low.size (fun q hq => (h.o.lt q hq).1)))⟩
theorem WrAt.below {w0 : World} (h : WrAt w0 w b vb M) (hb : Below w.heap.size w W) : WrAt w0 W b vb M :=
 ⟨h.x.below hb h.x.lt, h.o.below hb, h.b, h.low.trans (hb.mono h.low.size)⟩
end
theorem putOld_any {w0 w : World} {b : Nat} {vb : Value} {L l : List Int} {A : Option Addr} {m cap : Nat} (h : WrAt w0 w b vb L) (hr : ReadsI w0 (.slice A m cap) m l) (hi : ∀ x ∈ l, Int64 x) (hlen : L.length + 8 * m <= 100000000) :
  Calls Try.prog 34 #[.pointer (some ⟨b, 0, none⟩), .slice A m cap] w fun e w' => (∃ v, e = .returned v) /\ ∃ vc, PutW w b w0.heap.size vb w' vc (L ++ bytesN l) :=
  put_any h.x h.o h.low.size (hr.below h.low) hi (fun hm a ha => by
   obtain ⟨h1, a', c, h2, h5, h6, h3, h4⟩ := hr
   simp only [Value.slice.injEq, true_and] at h2
   obtain ⟨rfl, rfl⟩ := h2
   obtain ⟨g, o, e, hc⟩ := h4 0 hm
   subst ha
   simp only [Option.some.injEq] at e
   subst e
   have hlt : g < w0.heap.size := World.block_lt_of_cell? w0 _ (hc 0 hm)
   refine ⟨?_, fun e => ?_⟩
   ·have := h.b; show g ≠ b; omega
   ·have := (h.o.lt _ e).1; have : w0.heap.size <= g := this; omega) hlen
theorem putNew_any {w0 w : World} {b k : Nat} {vb : Value} {L l : List Int} {m cap : Nat} (h : WrAt w0 w b vb L) (hr : ReadsI w (.slice (some ⟨k, 0, none⟩) m cap) m l) (hk : k ≠ b) (hk2 : vb.ownBlock ≠ some k) (hi : ∀ x ∈ l, Int64 x) (hlen : L.length + 8 * m <= 100000000) :
  Calls Try.prog 34 #[.pointer (some ⟨b, 0, none⟩), .slice (some ⟨k, 0, none⟩) m cap] w fun e w' => (∃ v, e = .returned v) /\ ∃ vc, PutW w b w0.heap.size vb w' vc (L ++ bytesN l) :=
  put_any h.x h.o h.low.size hr hi (fun hm a ha => by cases ha; exact ⟨hk, hk2⟩) hlen
theorem putOne_any {w0 w : World} {b : Nat} {vb : Value} {L : List Int} {x : Int} (h : WrAt w0 w b vb L) (hi : Int64 x) (hlen : L.length + 8 <= 100000000) :
  Calls Try.prog 34 #[.pointer (some ⟨b, 0, none⟩), .slice (some ⟨w.heap.size, 0, none⟩) 1 1] (w.alloc (.cells #[.int .i64 x] 3)) fun e w' => (∃ v, e = .returned v) /\ ∃ vc, PutW w b w0.heap.size vb w' vc (L ++ be8 x) := by
  have hb : Below w.heap.size w (w.alloc (.cells #[.int .i64 x] 3)) := (Below.refl _ _).alloc (Nat.le_refl _) _
  refine (putNew_any (h.below hb) (readsI_new (new1 w _ _)) (fun e => by have := h.x.lt; omega) (fun e => by have := (h.o.lt _ e).2; omega) (l := [x]) (fun y hy => by simp only [List.mem_singleton] at hy; subst hy; exact hi) (by omega)).mono ?_
  rintro e w' ⟨he, vc, hp⟩
  rw [bytesN_one] at hp
  exact ⟨he, vc, hp.from_ hb⟩
theorem wlist_any {w0 w : World} {b : Nat} {vb : Value} {L l : List Int} {A : Option Addr} {m cap : Nat} (h : WrAt w0 w b vb L) (hr : ReadsI w0 (.slice A m cap) m l) (hi : ∀ x ∈ l, Int64 x) (hm : m <= 10000000) (hlen : L.length + 8 * m + 8 <= 100000000) :
  Calls Try.prog 57 #[.pointer (some ⟨b, 0, none⟩), .slice A m cap] w fun e w' => (∃ v, e = .returned v) /\ ∃ vc, PutW w b w0.heap.size vb w' vc (L ++ bytesN (enN l)) := by
  have hl := hr.1
  have HH := Lib.hid h; have HR := Lib.hid hr; have HI := Lib.hid hi; have HL := Lib.hid hl
  have HP := Lib.hid (putOne_any h (x := (m : Int)) (by unfold Int64; omega) (by omega))
  have HLN := Lib.hid hlen
  clear h hr hi hl hlen
  go_enter Try.func57, Try.ntmps57
  go_wp2_with fail
  refine HP.out.mono ?_
  rintro e w1 ⟨⟨v, rfl⟩, vc, hp⟩
  have HP1 := Lib.hid hp
  have HW1 := Lib.hid (HH.out.put hp)
  clear hp HP
  go_wp2_with fail
  refine (putOld_any HW1.out HR.out HI.out (by rw [List.length_append, be8_len]; have := HLN.out; omega)).mono ?_
  rintro e w2 ⟨⟨v2, rfl⟩, vd, hp⟩
  have HP2 := Lib.hid (HP1.out.trans hp)
  clear hp
  go_wp2_with fail
  go_end0
  refine ⟨⟨_, rfl⟩, vd, ?_⟩
  have := HP2.out
  rw [enN_eq, bytesN_cons, HL.out, <- List.append_assoc]
  exact this
end Go.Proofs.Ytjkcglgkdclidaa
namespace Go.Proofs.Ytjkcglgkdclidaa
open Go Go.RowKit Go.Proofs
theorem flat_take_len {α : Type} (en : α -> List Int) (T : List α) (i : Nat) : ((T.take i).flatMap en).length <= (T.flatMap en).length := by
 have := congrArg List.length (congrArg (List.flatMap en) (List.take_append_drop i T))
 rw [List.flatMap_append, List.length_append] at this
 omega
theorem flat_take_one {α : Type} (en : α -> List Int) (T : List α) {i : Nat} (hi : i < T.length) (d : α) : (T.take (i + 1)).flatMap en = (T.take i).flatMap en ++ en (T.getD i d) := by
 rw [List.take_add_one, List.getElem?_eq_getElem hi, List.flatMap_append, List.getD_eq_getElem?_getD, List.getElem?_eq_getElem hi]
 simp
theorem flat_one_le {α : Type} (en : α -> List Int) (T : List α) {i : Nat} (hi : i < T.length) (d : α) : ((T.take i).flatMap en).length + (en (T.getD i d)).length <= (T.flatMap en).length := by
 have := flat_take_len en T (i + 1)
 rw [flat_take_one en T hi d, List.length_append] at this
 exact this
theorem wlists_any {w0 w : World} {b : Nat} {vb v : Value} {L : List Int} {T : List (List Int)} (h : WrAt w0 w b vb L) (hr : RowsI w0 v T) (hi : ∀ r ∈ T, ∀ x ∈ r, Int64 x) (hlen : L.length + 8 * (enRows T).length <= 80000000) :
  Calls Try.prog 58 #[.pointer (some ⟨b, 0, none⟩), v] w fun e w' => (∃ v, e = .returned v) /\ ∃ vc, PutW w b w0.heap.size vb w' vc (L ++ bytesN (enRows T)) := by
  obtain ⟨A, cap, rfl, l1, l2⟩ := hr.form
  have hrl : (enRows T).length = (T.flatMap enN).length + 1 := rfl
  have hge := flat_ge (en := enN) codecN.pos T
  obtain ⟨m, hm⟩ : ∃ m, T.length = m := ⟨_, rfl⟩
  have HH := Lib.hid h; have HR := Lib.hid hr; have HI := Lib.hid hi; have HM := Lib.hid hm
  have HP := Lib.hid (putOne_any h (x := (m : Int)) (by unfold Int64; omega) (by omega))
  have HLN : Hid (L.length + 8 * ((T.flatMap enN).length + 1) <= 80000000) := Lib.hid (by rw [<- hrl]; exact hlen)
  rw [hm] at l1 hge ⊢
  have hm9 : m <= 80000000 := by omega
  clear h hr hi hlen hrl hge hm
  go_enter Try.func58, Try.ntmps58
  go_wp2_with fail
  refine HP.out.mono ?_
  rintro e w1 ⟨⟨v, rfl⟩, vc, hp⟩
  have HP1 : Hid (PutW w b w0.heap.size vb w1 vc (L ++ bytesN ((m : Int) :: (T.take 0).flatMap enN))) := Lib.hid (by rw [List.take_zero, List.flatMap_nil, bytesN_one]; exact hp)
  clear hp HP
  go_wp2_with fail
  go_loopw [15] (fun vi wr => ∃ (i : Nat) (vd : Value), vi = .int .i64 (i : Int) /\ i <= m /\ Hid (PutW w b w0.heap.size vb wr vd (L ++ bytesN ((m : Int) :: (T.take i).flatMap enN)))) (fun vi _ => m - (intOf vi).toNat)
  case atStart => exact ⟨0, vc, rfl, Nat.zero_le _, HP1⟩
  case round =>
   clear HP1
   obtain ⟨i, vd, rfl, him, HPW⟩ := hrel
   have i0 : (0 : Int) <= (i : Int) := Int.natCast_nonneg _
   by_cases hlt : i < m
   ·have i1 : (i : Int) < (m : Int) := by omega
    have hil : i < T.length := by rw [HM.out]; exact hlt
    have hw := HH.out.put HPW.out
    have hrr := HR.out.below hw.low
    have hr0 := HR.out
    rw [show A = A from rfl] at hrr
    obtain ⟨g, o, A2, k, c2, ea, hk, hc0, hrd, hkc, hc9⟩ := (show RowsI w0 (.slice A m cap) T by rw [<- HM.out]; exact hr0).at_ hil
    subst ea
    have hcx : wr.cell? ⟨g, o + i, none⟩ = some (.slice A2 k c2) := bel_m hw.low hc0
    have hone := flat_one_le enN T hil []
    have hkk : (enN (T.getD i [])).length = 1 + k := by rw [enN_len, hk]
    have hstep := flat_take_one enN T hil []
    have hLL := HLN.out
    have hcall := wlist_any hw (l := T.getD i []) hrd (fun x hx => HI.out _ (by rw [List.getD_eq_getElem?_getD, List.getElem?_eq_getElem hil]; exact List.getElem_mem hil) x hx) (by omega) (by rw [List.length_append, bytesN_len, List.length_cons]; omega)
    have HC := Lib.hid hcall; have HST := Lib.hid hstep
    clear hw hrr hr0 hrd hone hkk hstep hLL hcall hk hc0 hil
    go_wp2_with fail
    refine HC.out.mono ?_
    rintro e w2 ⟨⟨v2, rfl⟩, vf, hp⟩
    have HP2 := Lib.hid (HPW.out.trans hp)
    clear hp HC hcx
    go_wp2_with fail
    refine ⟨⟨i + 1, vf, by go_num, by omega, Lib.hid ?_⟩, by simp [intOf]; omega⟩
    have := HP2.out
    rw [HST.out, <- List.cons_append, bytesN_app, <- List.append_assoc]
    exact this
   ·obtain rfl : i = m := by omega
    have hp := HPW.out
    rw [List.take_of_length_le (by rw [HM.out]; exact Nat.le_refl _)] at hp
    have HPF := Lib.hid hp
    clear hp
    go_wp2_with fail
    go_end0
    refine ⟨⟨_, rfl⟩, vd, ?_⟩
    have := HPF.out
    rw [<- HM.out] at this
    exact this
end Go.Proofs.Ytjkcglgkdclidaa
namespace Go.Proofs.Ytjkcglgkdclidaa
open Go Go.RowKit Go.Proofs
theorem readsI_vec {w : World} {b : Nat} {u : V3} {t : TypeId} (h : Blk w b t #[.int .i64 u.1, .int .i64 u.2.1, .int .i64 u.2.2]) : ReadsI w (.slice (some ⟨b, 0, none⟩) 3 3) 3 (enVec u) :=
 ⟨rfl, _, 3, rfl, Nat.le_refl _, by unfold maxLen; omega, (fun e => by cases e), fun i hi => ⟨b, 0, rfl, fun j hj => by
  rw [Nat.zero_add, h.cell]
  rcases (show j = 0 \/ j = 1 \/ j = 2 by omega) with rfl | rfl | rfl <;> rfl⟩⟩
theorem wemits_any {w0 w : World} {b : Nat} {vb v : Value} {L : List Int} {E : List (List V3)} (h : WrAt w0 w b vb L) (hr : EmitR w0 v E) (hi : ∀ r ∈ E, ∀ u ∈ r, ∀ x ∈ enVec u, Int64 x) (hlen : L.length + 8 * (enEmits E).length <= 80000000) :
  Calls Try.prog 59 #[.pointer (some ⟨b, 0, none⟩), v] w fun e w' => (∃ v, e = .returned v) /\ ∃ vc, PutW w b w0.heap.size vb w' vc (L ++ bytesN (enEmits E)) := by
  obtain ⟨A, cap, rfl, l1, l2⟩ := hr.form
  have hrl : (enEmits E).length = (E.flatMap enVecs).length + 1 := rfl
  have hge := flat_ge (en := enVecs) codecVecs.pos E
  obtain ⟨m, hm⟩ : ∃ m, E.length = m := ⟨_, rfl⟩
  have HH := Lib.hid h; have HR := Lib.hid hr; have HI := Lib.hid hi; have HM := Lib.hid hm
  have HP := Lib.hid (putOne_any h (x := (m : Int)) (by unfold Int64; omega) (by omega))
  have HLN : Hid (L.length + 8 * ((E.flatMap enVecs).length + 1) <= 80000000) := Lib.hid (by rw [<- hrl]; exact hlen)
  rw [hm] at l1 hge ⊢
  have hm9 : m <= 80000000 := by omega
  clear h hr hi hlen hrl hge hm
  go_enter Try.func59, Try.ntmps59
  go_wp2_with fail
  refine HP.out.mono ?_
  rintro e w1 ⟨⟨v, rfl⟩, vc, hp⟩
  have HP1 : Hid (PutW w b w0.heap.size vb w1 vc (L ++ bytesN ((m : Int) :: (E.take 0).flatMap enVecs))) := Lib.hid (by rw [List.take_zero, List.flatMap_nil, bytesN_one]; exact hp)
  clear hp HP
  go_wp2_with fail
  go_loopw [17] (fun vi wr => ∃ (i : Nat) (vd : Value), vi = .int .i64 (i : Int) /\ i <= m /\ Hid (PutW w b w0.heap.size vb wr vd (L ++ bytesN ((m : Int) :: (E.take i).flatMap enVecs)))) (fun vi _ => m - (intOf vi).toNat)
  case atStart => exact ⟨0, vc, rfl, Nat.zero_le _, HP1⟩
  case round =>
   clear HP1
   obtain ⟨i, vd, rfl, him, HPW⟩ := hrel
   have i0 : (0 : Int) <= (i : Int) := Int.natCast_nonneg _
   by_cases hlt : i < m
   ·have i1 : (i : Int) < (m : Int) := by omega
    have hil : i < E.length := by rw [HM.out]; exact hlt
    have hw := HH.out.put HPW.out
    obtain ⟨g, o, A2, k, c2, ea, hk, hc0, hrd, hkc, hc9⟩ := (show EmitR w0 (.slice A m cap) E by rw [<- HM.out]; exact HR.out).at_ hil
    subst ea
    have hcx : wr.cell? ⟨g, o + i, none⟩ = some (.slice A2 k c2) := bel_m hw.low hc0
    have hone := flat_one_le enVecs E hil []
    have hkk : (enVecs (E.getD i [])).length = 1 + 3 * k := by rw [enVecs_len, hk]
    have hstep := flat_take_one enVecs E hil []
    have hLL := HLN.out
    obtain ⟨R, hR⟩ : ∃ R, E.getD i [] = R := ⟨_, rfl⟩
    have hRI : ∀ u ∈ R, ∀ x ∈ enVec u, Int64 x := by
     rw [<- hR]
     exact HI.out _ (by rw [List.getD_eq_getElem?_getD, List.getElem?_eq_getElem hil]; exact List.getElem_mem hil)
    obtain ⟨P, hP⟩ : ∃ P, L ++ bytesN ((m : Int) :: (E.take i).flatMap enVecs) = P := ⟨_, rfl⟩
    have hPl : P.length + 8 * (1 + 3 * k) <= 80000000 := by rw [<- hP, List.length_append, bytesN_len, List.length_cons]; omega
    rw [hR] at hk hrd hstep
    have HST : Hid (L ++ bytesN ((m : Int) :: (E.take (i + 1)).flatMap enVecs) = P ++ bytesN (enVecs R)) := Lib.hid (by
     rw [hstep, <- List.cons_append, bytesN_app, <- List.append_assoc, hP])
    rw [hP] at HPW hw
    have HC := Lib.hid (putOne_any hw (x := (k : Int)) (by unfold Int64; omega) (by omega))
    have HW := Lib.hid hw; have HRD := Lib.hid hrd; have HRI := Lib.hid hRI; have HK := Lib.hid hk; have HPL := Lib.hid hPl
    have hk9 : k <= 80000000 := by omega
    clear hw hrd hone hkk hstep hLL hc0 hil hR hRI hP hPl hk
    go_wp2_with fail
    refine HC.out.mono ?_
    rintro e w2 ⟨⟨v2, rfl⟩, vf, hp⟩
    have HP2 : Hid (PutW w b w0.heap.size vb w2 vf (P ++ bytesN ((k : Int) :: (R.take 0).flatMap enVec))) := Lib.hid (by rw [List.take_zero, List.flatMap_nil, bytesN_one]; exact HPW.out.trans hp)
    clear hp HC hcx HW HPW
    go_wp2_with fail
    go_loopw [30] (fun vj wi => ∃ (j : Nat) (vg : Value), vj = .int .i64 (j : Int) /\ j <= k /\ Hid (PutW w b w0.heap.size vb wi vg (P ++ bytesN ((k : Int) :: (R.take j).flatMap enVec)))) (fun vj _ => k - (intOf vj).toNat)
    case atStart => exact ⟨0, vf, rfl, Nat.zero_le _, HP2⟩
    case round =>
     clear HP2
     obtain ⟨W9, hW9⟩ : ∃ W, W = wr := ⟨_, rfl⟩
     obtain ⟨j, vg, rfl, hjk, HPJ⟩ := hrel
     have j0 : (0 : Int) <= (j : Int) := Int.natCast_nonneg _
     by_cases hlj : j < k
     ·have j1 : (j : Int) < (k : Int) := by omega
      have hjl : j < R.length := by rw [<- HK.out]; exact hlj
      have hw := HH.out.put HPJ.out
      obtain ⟨⟨x, y, z⟩, hu⟩ : ∃ u, R.getD j (0, 0, 0) = u := ⟨_, rfl⟩
      have hx : R[j]? = some (x, y, z) := by rw [<- hu, List.getD_eq_getElem?_getD, List.getElem?_eq_getElem hjl]; rfl
      have hrd0 := HRD.out
      obtain ⟨g2, o2, e, -, hc⟩ := ReadsE.at (ReadsE.below hrd0 hw.low) encV_len (by decide) j _ hx
      subst e
      have c0 := hc 0 (.int .i64 x) rfl; have c1 := hc 1 (.int .i64 y) rfl; have c3 := hc 2 (.int .i64 z) rfl
      rw [Nat.add_zero] at c0
      have hone := flat_one_le enVec R hjl (0, 0, 0)
      have htot : (R.flatMap enVec).length = 3 * k := by
       have := enVecs_len R
       have e2 : (enVecs R).length = (R.flatMap enVec).length + 1 := rfl
       rw [<- HK.out] at this
       omega
      have hthree : (enVec (R.getD j (0, 0, 0))).length = 3 := rfl
      have hstep : P ++ bytesN ((k : Int) :: (R.take (j + 1)).flatMap enVec) = (P ++ bytesN ((k : Int) :: (R.take j).flatMap enVec)) ++ bytesN (enVec (x, y, z)) := by
       rw [flat_take_one enVec R hjl (0, 0, 0), hu, <- List.cons_append, bytesN_app, <- List.append_assoc]
      have hlen3 : (P ++ bytesN ((k : Int) :: (R.take j).flatMap enVec)).length + 8 * 3 <= 100000000 := by
       rw [List.length_append, bytesN_len, List.length_cons]
       have := HPL.out
       omega
      have hin : ∀ q ∈ enVec (x, y, z), Int64 q := HRI.out _ (List.mem_of_getElem? hx)
      have hb9 : Below wr.heap.size wr (wr.alloc (.cells #[.int .i64 x, .int .i64 y, .int .i64 z] 45)).drew := ((Below.refl _ _).alloc (Nat.le_refl _) _).drew
      have hrd3 : ReadsI (wr.alloc (.cells #[.int .i64 x, .int .i64 y, .int .i64 z] 45)).drew (.slice (some ⟨wr.heap.size, 0, none⟩) 3 3) 3 (enVec (x, y, z)) := readsI_any3 (Blk.drew (Blk.new wr _ _))
      have hcall := putNew_any (hw.below hb9) hrd3 (fun e => by have := hw.x.lt; omega) (fun e => by have := (hw.o.lt _ e).2; omega) hin hlen3
      have HC := Lib.hid hcall; have HST2 := Lib.hid hstep; have HB9 := Lib.hid hb9
      clear hjl hw hu hx hrd0 hc hone htot hthree hstep hlen3 hin hb9 hrd3 hcall hW9
      go_wp2_with fail
      refine region_x 4 (fun _ : World => True) (by kernel_rfl) ?_
      have hS : (fun _ : World => True) (wr.alloc (.cells #[.int .i64 x, .int .i64 y, .int .i64 z] 45)).drew := trivial
      refine tkx (i := 3) (v := ?_) hS ?_ ?_
      rotate_left
      ·rintro w' s0'
       go_simp
       try with_reducible rfl
      try simp only [Act.put, zq1, zq2, zq3, zq4, zq5, zq6]
      refine anyX_g (i := 0) (by kernel_rfl) (by decide) rfl (by rfl) ?_
      intro K hK
      try simp only [zq1, zq2, zq3]
      go_simp
      refine hK _ _ hS ?_
      clear hK
      try simp only [Act.put, zq1, zq2, zq3, zq4, zq5, zq6]
      refine anyX_g (i := 1) (by kernel_rfl) (by decide) rfl (by rfl) ?_
      intro K hK
      try simp only [zq1, zq2, zq3]
      go_simp
      refine hK _ _ hS ?_
      clear hK
      try simp only [Act.put, zq1, zq2, zq3, zq4, zq5, zq6]
      refine anyX_g (i := 2) (by kernel_rfl) (by decide) rfl (by rfl) ?_
      intro K hK
      try simp only [zq1, zq2, zq3]
      go_simp
      refine hK _ _ hS ?_
      clear hK
      try simp only [Act.put, zq1, zq2, zq3, zq4, zq5, zq6]
      refine anyX_last (by kernel_rfl) (by kernel_rfl) rfl rfl ?_
      try simp only [zq1, zq2, zq3]
      refine wp_enterE #[.pointer (some ⟨b, 0, none⟩), .slice (some ⟨wr.heap.size, 0, none⟩) 3 3] Try.func34 (by kernel_rfl) (by kernel_rfl) ?_ HC.out ?_
      ·go_simp
      rintro e w3 ⟨⟨v3, rfl⟩, vh, hp⟩
      have HP3 := Lib.hid (HPJ.out.trans (hp.from_ HB9.out))
      clear hp HC hS
      refine ⟨_, rfl, ?_⟩
      try apply_assumption
      go_wp2_with fail
      refine ⟨⟨j + 1, vh, by go_num, by omega, Lib.hid ?_⟩, by simp [intOf]; omega⟩
      rw [HST2.out]
      exact HP3.out
     ·obtain rfl : j = k := by omega
      have hp := HPJ.out
      rw [List.take_of_length_le (by rw [<- HK.out]; exact Nat.le_refl _)] at hp
      have HPF : Hid (PutW w b w0.heap.size vb wr vg (P ++ bytesN (enVecs R))) := Lib.hid (by
       have e : enVecs R = (R.length : Int) :: R.flatMap enVec := rfl
       rw [e, <- HK.out]
       exact hp)
      clear hp HPJ
      go_wp2_with fail
      refine ⟨⟨i + 1, vg, by go_num, by omega, Lib.hid ?_⟩, by simp [intOf]; omega⟩
      rw [HST.out]
      exact HPF.out
   ·obtain rfl : i = m := by omega
    have hp := HPW.out
    rw [List.take_of_length_le (by rw [HM.out]; exact Nat.le_refl _)] at hp
    have HPF := Lib.hid hp
    clear hp
    go_wp2_with fail
    go_end0
    refine ⟨⟨_, rfl⟩, vd, ?_⟩
    have := HPF.out
    rw [<- HM.out] at this
    exact this
end Go.Proofs.Ytjkcglgkdclidaa
namespace Go.Proofs.Ytjkcglgkdclidaa
open Go Go.RowKit Go.Proofs
structure IntsT (t : Tab) : Prop where
 c : ∀ x ∈ t.cuts, Int64 x
 l : ∀ x ∈ t.letters, Int64 x
 bn : ∀ r ∈ t.bn, ∀ x ∈ r, Int64 x
 bo : ∀ x ∈ t.bo, Int64 x
 fn : ∀ r ∈ t.fn, ∀ x ∈ r, Int64 x
 fe : ∀ r ∈ t.fe, ∀ u ∈ r, ∀ x ∈ enVec u, Int64 x
theorem RightT.intsT {t : Tab} (h : RightT t) : IntsT t := by
 have hi := h.ints
 have hn : ∀ {l : List Int} {x : Int}, x ∈ l -> x ∈ enN l := fun {l x} hx => by rw [enN_eq]; simp [hx]
 have hr : ∀ {T : List (List Int)} {r : List Int} {x : Int}, r ∈ T -> x ∈ r -> x ∈ enRows T := fun {T r x} h1 h2 => List.mem_cons_of_mem _ (List.mem_flatMap.2 ⟨r, h1, hn h2⟩)
 simp only [enT, List.mem_append] at hi
 exact ⟨fun x hx => hi x (.inl (hn hx)), fun x hx => hi x (.inr (.inl (hn hx))), fun r h1 x h2 => hi x (.inr (.inr (.inl (hr h1 h2)))), fun x hx => hi x (.inr (.inr (.inr (.inl (hn hx))))), fun r h1 x h2 => hi x (.inr (.inr (.inr (.inr (.inl (hr h1 h2)))))),
  fun r h1 u h2 x h3 => hi x (.inr (.inr (.inr (.inr (.inr (List.mem_cons_of_mem _ (List.mem_flatMap.2 ⟨r, h1, List.mem_cons_of_mem _ (List.mem_flatMap.2 ⟨u, h2, h3⟩)⟩)))))))⟩
theorem enT_parts (t : Tab) : (enT t).length = (enN t.cuts).length + (enN t.letters).length + (enRows t.bn).length + (enN t.bo).length + (enRows t.fn).length + (enEmits t.fe).length := by
 simp only [enT, List.length_append]; omega
theorem wtable_any {w0 w : World} {b : Nat} {vb vc vl vbn vbo vfn vfe : Value} {L : List Int} {t : Tab} (h : WrAt w0 w b vb L) (ht : TabR w0 vc vl vbn vbo vfn vfe t) (hi : IntsT t) (hlen : L.length + 8 * (enT t).length <= 70000000) :
  Calls Try.prog 33 #[.pointer (some ⟨b, 0, none⟩), .agg #[vc, vl, vbn, vbo, vfn, vfe]] w fun e w' => (∃ v, e = .returned v) /\ ∃ vd, PutW w b w0.heap.size vb w' vd (L ++ bodyT t) := by
  obtain ⟨C, cc, rfl, l1, l2, -⟩ := ht.c.form
  obtain ⟨L0, lc, rfl, l3, l4, -⟩ := ht.l.form
  obtain ⟨BN, bc, e1, l5, l6⟩ := ht.bn.form
  obtain ⟨BO, oc, rfl, l7, l8, -⟩ := ht.bo.form
  obtain ⟨FN, fc, e2, l9, l10⟩ := ht.fn.form
  obtain ⟨FE, ec, e3, l11, l12⟩ := ht.fe.form
  subst e1 e2 e3
  obtain ⟨bx, hbx⟩ : ∃ b, b = w.heap.size := ⟨_, rfl⟩
  obtain ⟨V0, hV0⟩ : ∃ W, w.alloc (.cells #[.slice C t.cuts.length cc, .slice L0 t.letters.length lc, .slice BN t.bn.length bc, .slice BO t.bo.length oc, .slice FN t.fn.length fc, .slice FE t.fe.length ec] 31) = W := ⟨_, rfl⟩
  have hb0 : Below w.heap.size w V0 := by rw [<- hV0]; exact (Below.refl _ _).alloc (Nat.le_refl _) _
  have XB0 : Hid (Blk V0 bx 31 #[.slice C t.cuts.length cc, .slice L0 t.letters.length lc, .slice BN t.bn.length bc, .slice BO t.bo.length oc, .slice FN t.fn.length fc, .slice FE t.fe.length ec]) := Lib.hid (by rw [<- hV0, hbx]; exact Blk.new _ _ _)
  have hlt := h.x.lt
  have HBX : Hid (bx ≠ b /\ True) := Lib.hid ⟨by omega, trivial⟩
  have HW0 := Lib.hid (h.below hb0)
  have hlen6 : (enN t.cuts).length = 1 + t.cuts.length /\ (enN t.letters).length = 1 + t.letters.length /\ (enN t.bo).length = 1 + t.bo.length := ⟨enN_len _, enN_len _, enN_len _⟩
  have HLN : Hid (L.length + 8 * ((enN t.cuts).length + (enN t.letters).length + (enRows t.bn).length + (enN t.bo).length + (enRows t.fn).length + (enEmits t.fe).length) <= 70000000) := Lib.hid (by rw [<- enT_parts]; exact hlen)
  have HA0 : Hid (L.length = L.length + 8 * 0) := Lib.hid (by omega)
  have HT := Lib.hid ht; have HI := Lib.hid hi; have HV0 := Lib.hid hV0; have EBX := Lib.hid hbx; have HB0 := Lib.hid hb0
  clear h ht hi hlen hV0 hbx hb0 hlt
  go_enter Try.func33, Try.ntmps33
  go_wp2_with fail
  rw [HV0.out, <- EBX.out]
  have hbx0 := XB0.out.cell 0
  simp only [List.getElem?_toArray, List.getElem?_cons_zero, List.getElem?_cons_succ] at hbx0
  go_wp2_with fail
  refine (wlist_any HW0.out HT.out.c (fun x hx => HI.out.c x hx) (by have := HLN.out; have := hlen6; omega) (by have := HLN.out; rw [HA0.out]; omega)).mono ?_
  rintro e V1 ⟨⟨x0, rfl⟩, u1, hp⟩
  clear hbx0
  have HP1 := Lib.hid (hp)
  have HW1 := Lib.hid (HW0.out.put hp)
  have XB1 : Hid (Blk V1 bx 31 #[.slice C t.cuts.length cc, .slice L0 t.letters.length lc, .slice BN t.bn.length bc, .slice BO t.bo.length oc, .slice FN t.fn.length fc, .slice FE t.fe.length ec]) := Lib.hid (hp.fr.blk XB0.out (fun e => by rcases e with e | e; exact HBX.out.1 e; exact (HW0.out.o.ne XB0.out (by decide)) e))
  have HA1 : Hid ((L ++ bytesN (enN t.cuts)).length = L.length + 8 * ((enN t.cuts).length)) := Lib.hid (by rw [List.length_append, bytesN_len, HA0.out]; omega)
  clear hp XB0 HW0 HA0
  have hbx1 := XB1.out.cell 1
  simp only [List.getElem?_toArray, List.getElem?_cons_zero, List.getElem?_cons_succ] at hbx1
  go_wp2_with fail
  refine (wlist_any HW1.out HT.out.l (fun x hx => HI.out.l x hx) (by have := HLN.out; have := hlen6; omega) (by have := HLN.out; rw [HA1.out]; omega)).mono ?_
  rintro e V2 ⟨⟨x1, rfl⟩, u2, hp⟩
  clear hbx1
  have HP2 := Lib.hid (HP1.out.trans hp)
  have HW2 := Lib.hid (HW1.out.put hp)
  have XB2 : Hid (Blk V2 bx 31 #[.slice C t.cuts.length cc, .slice L0 t.letters.length lc, .slice BN t.bn.length bc, .slice BO t.bo.length oc, .slice FN t.fn.length fc, .slice FE t.fe.length ec]) := Lib.hid (hp.fr.blk XB1.out (fun e => by rcases e with e | e; exact HBX.out.1 e; exact (HW1.out.o.ne XB1.out (by decide)) e))
  have HA2 : Hid (((L ++ bytesN (enN t.cuts)) ++ bytesN (enN t.letters)).length = L.length + 8 * ((enN t.cuts).length + (enN t.letters).length)) := Lib.hid (by rw [List.length_append, bytesN_len, HA1.out]; omega)
  clear hp XB1 HW1 HA1 HP1
  have hbx2 := XB2.out.cell 2
  simp only [List.getElem?_toArray, List.getElem?_cons_zero, List.getElem?_cons_succ] at hbx2
  go_wp2_with fail
  refine (wlists_any HW2.out HT.out.bn HI.out.bn (by have := HLN.out; rw [HA2.out]; omega)).mono ?_
  rintro e V3 ⟨⟨x2, rfl⟩, u3, hp⟩
  clear hbx2
  have HP3 := Lib.hid (HP2.out.trans hp)
  have HW3 := Lib.hid (HW2.out.put hp)
  have XB3 : Hid (Blk V3 bx 31 #[.slice C t.cuts.length cc, .slice L0 t.letters.length lc, .slice BN t.bn.length bc, .slice BO t.bo.length oc, .slice FN t.fn.length fc, .slice FE t.fe.length ec]) := Lib.hid (hp.fr.blk XB2.out (fun e => by rcases e with e | e; exact HBX.out.1 e; exact (HW2.out.o.ne XB2.out (by decide)) e))
  have HA3 : Hid ((((L ++ bytesN (enN t.cuts)) ++ bytesN (enN t.letters)) ++ bytesN (enRows t.bn)).length = L.length + 8 * ((enN t.cuts).length + (enN t.letters).length + (enRows t.bn).length)) := Lib.hid (by rw [List.length_append, bytesN_len, HA2.out]; omega)
  clear hp XB2 HW2 HA2 HP2
  have hbx3 := XB3.out.cell 3
  simp only [List.getElem?_toArray, List.getElem?_cons_zero, List.getElem?_cons_succ] at hbx3
  go_wp2_with fail
  refine (wlist_any HW3.out HT.out.bo (fun x hx => HI.out.bo x hx) (by have := HLN.out; have := hlen6; omega) (by have := HLN.out; rw [HA3.out]; omega)).mono ?_
  rintro e V4 ⟨⟨x3, rfl⟩, u4, hp⟩
  clear hbx3
  have HP4 := Lib.hid (HP3.out.trans hp)
  have HW4 := Lib.hid (HW3.out.put hp)
  have XB4 : Hid (Blk V4 bx 31 #[.slice C t.cuts.length cc, .slice L0 t.letters.length lc, .slice BN t.bn.length bc, .slice BO t.bo.length oc, .slice FN t.fn.length fc, .slice FE t.fe.length ec]) := Lib.hid (hp.fr.blk XB3.out (fun e => by rcases e with e | e; exact HBX.out.1 e; exact (HW3.out.o.ne XB3.out (by decide)) e))
  have HA4 : Hid (((((L ++ bytesN (enN t.cuts)) ++ bytesN (enN t.letters)) ++ bytesN (enRows t.bn)) ++ bytesN (enN t.bo)).length = L.length + 8 * ((enN t.cuts).length + (enN t.letters).length + (enRows t.bn).length + (enN t.bo).length)) := Lib.hid (by rw [List.length_append, bytesN_len, HA3.out]; omega)
  clear hp XB3 HW3 HA3 HP3
  have hbx4 := XB4.out.cell 4
  simp only [List.getElem?_toArray, List.getElem?_cons_zero, List.getElem?_cons_succ] at hbx4
  go_wp2_with fail
  refine (wlists_any HW4.out HT.out.fn HI.out.fn (by have := HLN.out; rw [HA4.out]; omega)).mono ?_
  rintro e V5 ⟨⟨x4, rfl⟩, u5, hp⟩
  clear hbx4
  have HP5 := Lib.hid (HP4.out.trans hp)
  have HW5 := Lib.hid (HW4.out.put hp)
  have XB5 : Hid (Blk V5 bx 31 #[.slice C t.cuts.length cc, .slice L0 t.letters.length lc, .slice BN t.bn.length bc, .slice BO t.bo.length oc, .slice FN t.fn.length fc, .slice FE t.fe.length ec]) := Lib.hid (hp.fr.blk XB4.out (fun e => by rcases e with e | e; exact HBX.out.1 e; exact (HW4.out.o.ne XB4.out (by decide)) e))
  have HA5 : Hid ((((((L ++ bytesN (enN t.cuts)) ++ bytesN (enN t.letters)) ++ bytesN (enRows t.bn)) ++ bytesN (enN t.bo)) ++ bytesN (enRows t.fn)).length = L.length + 8 * ((enN t.cuts).length + (enN t.letters).length + (enRows t.bn).length + (enN t.bo).length + (enRows t.fn).length)) := Lib.hid (by rw [List.length_append, bytesN_len, HA4.out]; omega)
  clear hp XB4 HW4 HA4 HP4
  have hbx5 := XB5.out.cell 5
  simp only [List.getElem?_toArray, List.getElem?_cons_zero, List.getElem?_cons_succ] at hbx5
  go_wp2_with fail
  refine (wemits_any HW5.out HT.out.fe HI.out.fe (by have := HLN.out; rw [HA5.out]; omega)).mono ?_
  rintro e V6 ⟨⟨x5, rfl⟩, u6, hp⟩
  clear hbx5
  have HP6 := Lib.hid (HP5.out.trans hp)
  have HW6 := Lib.hid (HW5.out.put hp)
  have XB6 : Hid (Blk V6 bx 31 #[.slice C t.cuts.length cc, .slice L0 t.letters.length lc, .slice BN t.bn.length bc, .slice BO t.bo.length oc, .slice FN t.fn.length fc, .slice FE t.fe.length ec]) := Lib.hid (hp.fr.blk XB5.out (fun e => by rcases e with e | e; exact HBX.out.1 e; exact (HW5.out.o.ne XB5.out (by decide)) e))
  have HA6 : Hid (((((((L ++ bytesN (enN t.cuts)) ++ bytesN (enN t.letters)) ++ bytesN (enRows t.bn)) ++ bytesN (enN t.bo)) ++ bytesN (enRows t.fn)) ++ bytesN (enEmits t.fe)).length = L.length + 8 * ((enN t.cuts).length + (enN t.letters).length + (enRows t.bn).length + (enN t.bo).length + (enRows t.fn).length + (enEmits t.fe).length)) := Lib.hid (by rw [List.length_append, bytesN_len, HA5.out]; omega)
  clear hp XB5 HW5 HA5 HP5
  go_wp2_with fail
  go_end0
  refine ⟨⟨_, rfl⟩, u6, ?_⟩
  have := HP6.out.from_ HB0.out
  simp only [List.append_assoc] at this
  unfold bodyT enT
  simp only [bytesN_app]
  exact this
end Go.Proofs.Ytjkcglgkdclidaa
namespace Go.Proofs.Ytjkcglgkdclidaa
open Go Go.RowKit Go.Proofs
theorem bodyT_byte (t : Tab) : ∀ b ∈ bodyT t, ByteI b := bytesN_byte _
theorem tsave_any {w : World} {vc vl vbn vbo vfn vfe : Value} {t : Tab} (ht : TabR w vc vl vbn vbo vfn vfe t) (hlen : RightT t -> (enT t).length <= 1000000) :
  Calls Try.prog 15 #[.agg #[vc, vl, vbn, vbo, vfn, vfe]] w fun e w' => ∃ v, e = .returned v /\ (RightT t -> BRow w' w.heap.size v (saveT t)) /\ (¬ RightT t -> v = .slice none 0 0) /\ Below w.heap.size w w' := by
  obtain ⟨C, cc, rfl, l1, l2, -⟩ := ht.c.form
  obtain ⟨L0, lc, rfl, l3, l4, -⟩ := ht.l.form
  obtain ⟨BN, bc, e1, l5, l6⟩ := ht.bn.form
  obtain ⟨BO, oc, rfl, l7, l8, -⟩ := ht.bo.form
  obtain ⟨FN, fc, e2, l9, l10⟩ := ht.fn.form
  obtain ⟨FE, ec, e3, l11, l12⟩ := ht.fe.form
  subst e1 e2 e3
  obtain ⟨bx, hbx⟩ : ∃ b, b = w.heap.size := ⟨_, rfl⟩
  obtain ⟨V0, hV0⟩ : ∃ W, w.alloc (.cells #[.slice C t.cuts.length cc, .slice L0 t.letters.length lc, .slice BN t.bn.length bc, .slice BO t.bo.length oc, .slice FN t.fn.length fc, .slice FE t.fe.length ec] 31) = W := ⟨_, rfl⟩
  have hb0 : Below w.heap.size w V0 := by rw [<- hV0]; exact (Below.refl _ _).alloc (Nat.le_refl _) _
  have XB0 : Hid (Blk V0 bx 31 #[.slice C t.cuts.length cc, .slice L0 t.letters.length lc, .slice BN t.bn.length bc, .slice BO t.bo.length oc, .slice FN t.fn.length fc, .slice FE t.fe.length ec]) := Lib.hid (by rw [<- hV0, hbx]; exact Blk.new _ _ _)
  have HT := Lib.hid ht; have HLEN := Lib.hid hlen; have HV0 := Lib.hid hV0; have EBX := Lib.hid hbx; have HB0 := Lib.hid hb0
  have c0 := XB0.out.cell 0; have c1 := XB0.out.cell 1; have c2 := XB0.out.cell 2; have c3 := XB0.out.cell 3; have c4 := XB0.out.cell 4; have c5 := XB0.out.cell 5
  simp only [List.getElem?_toArray, List.getElem?_cons_zero, List.getElem?_cons_succ] at c0 c1 c2 c3 c4 c5
  clear ht hlen hV0 hbx hb0
  go_enter Try.func15, Try.ntmps15
  go_wp2_with fail
  rw [HV0.out, <- EBX.out]
  refine (tright_any (HT.out.below HB0.out)).mono ?_
  rintro e V1 ⟨s, rfl, hs, hb1⟩
  clear c0 c1 c2 c3 c4 c5
  have XB1 := Lib.hid (Blk.below XB0.out hb1 XB0.out.lt)
  have HB1 := Lib.hid (HB0.out.trans (hb1.mono HB0.out.size))
  have HS := Lib.hid hs
  clear hs hb1 HB0 XB0
  cases s with
  | false =>
    have HN : Hid (¬ RightT t) := Lib.hid (fun e => by have := HS.out.2 e; cases this)
    clear HS
    go_wp2_with fail
    go_ret
    exact ⟨_, rfl, fun e => absurd e HN.out, fun _ => rfl, HB1.out⟩
  | true =>
    have HR := Lib.hid (HS.out.1 rfl)
    clear HS
    obtain ⟨b, hb⟩ : ∃ b, b = V1.heap.size := ⟨_, rfl⟩
    obtain ⟨V2, hV2⟩ : ∃ W, V1.alloc (.cells #[.slice none 0 0] 71) = W := ⟨_, rfl⟩
    have hb2 : Below V1.heap.size V1 V2 := by rw [<- hV2]; exact (Below.refl _ _).alloc (Nat.le_refl _) _
    have xw : Blk V2 b 71 #[.slice none 0 0] := by rw [<- hV2, hb]; exact Blk.new _ _ _
    have XB2 := Lib.hid (Blk.below XB1.out hb2 XB1.out.lt)
    have HB2 := Lib.hid (HB1.out.trans (hb2.mono HB1.out.size))
    have HW2 : Hid (WrAt w V2 b (.slice none 0 0) []) := Lib.hid ⟨xw, BRow.nil _ _, by have := HB1.out.size; omega, HB2.out⟩
    have hbb : ¬ bx = b := by have := XB1.out.lt; omega
    have HV2 := Lib.hid hV2; have EB := Lib.hid hb
    have c0 := XB2.out.cell 0; have c1 := XB2.out.cell 1; have c2 := XB2.out.cell 2; have c3 := XB2.out.cell 3; have c4 := XB2.out.cell 4; have c5 := XB2.out.cell 5
    simp only [List.getElem?_toArray, List.getElem?_cons_zero, List.getElem?_cons_succ] at c0 c1 c2 c3 c4 c5
    clear hb2 xw hV2 hb XB1 HB1
    have HRI := Lib.hid HR.out.intsT
    have HL := Lib.hid (HLEN.out HR.out)
    rw [<- HV2.out] at c0 c1 c2 c3 c4 c5
    go_wp2_with fail
    rw [HV2.out]
    try rw [<- EB.out]
    clear c0 c1 c2 c3 c4 c5
    refine (wtable_any HW2.out HT.out HRI.out (by have := HL.out; simp only [List.length_nil]; omega)).mono ?_
    rintro e V3 ⟨⟨x3, rfl⟩, vd, hp⟩
    have HW3 : Hid (WrAt w V3 b vd (bodyT t)) := Lib.hid (by have := HW2.out.put hp; rwa [List.nil_append] at this)
    clear hp
    obtain ⟨A3, k3, rfl, hk1, hk2⟩ := HW3.out.o.slice
    have hcw := HW3.out.x.cell 0
    simp only [List.getElem?_toArray, List.getElem?_cons_zero] at hcw
    obtain ⟨n3, hn3⟩ : ∃ n, (bodyT t).length = n := ⟨_, rfl⟩
    have HBY := Lib.hid (HW3.out.o.bytes (bodyT_byte t))
    rw [hn3] at hk1 hcw HBY
    have HN3 := Lib.hid hn3
    have hn9 : n3 <= 8000000 := by rw [<- hn3]; unfold bodyT; rw [bytesN_len]; have := HL.out; omega
    have HP3 := Lib.hid (putOne_any HW3.out (x := sumI (bodyT t)) (by have := sumI_in (bodyT t); unfold Int64; omega) (by rw [hn3]; omega))
    rw [hn3] at HP3 HW3
    clear hn3
    go_wp2_with fail
    refine (sum_any HBY.out).mono ?_
    rintro e V4 ⟨rfl, rfl⟩
    obtain ⟨y, hy⟩ : ∃ y, sumI (bodyT t) = y := ⟨_, rfl⟩
    rw [hy] at HP3 ⊢
    have HY := Lib.hid hy
    clear hy
    go_wp2_with fail
    refine HP3.out.mono ?_
    rintro e V5 ⟨⟨x5, rfl⟩, vf, hp⟩
    have HW5 : Hid (WrAt w V5 b vf (saveT t)) := Lib.hid (by have := HW3.out.put hp; rw [<- HY.out] at this; exact this)
    clear hp HP3
    have hcf := HW5.out.x.cell 0
    simp only [List.getElem?_toArray, List.getElem?_cons_zero] at hcf
    clear hcw
    go_wp2_with fail
    go_ret
    exact ⟨_, rfl, fun _ => HW5.out.o, fun e => absurd HR.out e, HW5.out.low⟩
end Go.Proofs.Ytjkcglgkdclidaa
