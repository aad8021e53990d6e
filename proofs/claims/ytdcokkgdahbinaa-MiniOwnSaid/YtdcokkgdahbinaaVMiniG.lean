/- parts.mark. -/
import Derived.Test.YtdcokkgdahbinaaVMiniA1
import Derived.Test.YtdcokkgdahbinaaVMiniF
import Derived.Test.YtdcokkgdahbinaaVAny
set_option linter.unusedVariables false
set_option linter.unusedSimpArgs false
set_option maxRecDepth 100000
set_option maxHeartbeats 8000000
namespace Go.Proofs.Ytdcokkgdahbinaa
open Go Go.RowKit Go.Proofs
theorem flatS_set (l l' : List (Nat × Nat × Nat)) (q j : Nat) (x : Value) (hj : j < 3) (hl : l'.length = l.length) (h1 : ∀ i, i < l.length -> i ≠ q -> l'[i]? = l[i]?) (h2 : ∀ a b, l[q]? = some a -> l'[q]? = some b -> encS b = (encS a).set j x) :
  (l.flatMap encS).set (q * 3 + j) x = l'.flatMap encS := by
  apply List.ext_getElem?
  intro i
  have hi3 : i = i / 3 * 3 + i % 3 := by omega
  have hm : i % 3 < 3 := Nat.mod_lt _ (by omega)
  rcases Nat.lt_or_ge (i / 3) l.length with h | h
  ·have h' : i / 3 < l'.length := by omega
   rw [List.getElem?_set]
   by_cases e : q * 3 + j = i
   ·have e1 : i / 3 = q := by omega
    have e2 : i % 3 = j := by omega
    rw [if_pos e, if_pos (by rw [flatE_len encS 3 encS_len]; omega)]
    rw [hi3, flatE_at encS 3 encS_len l' _ _ h' hm, e2]
    have := h2 (l[i / 3]) (l'[i / 3]) (by rw [<- e1]; exact List.getElem?_eq_getElem h) (by rw [<- e1]; exact List.getElem?_eq_getElem h')
    rw [this, List.getElem?_set_self (by rw [encS_len]; exact hj)]
   ·rw [if_neg e]
    conv => lhs; rw [hi3]
    conv => rhs; rw [hi3]
    rw [flatE_at encS 3 encS_len l _ _ h hm, flatE_at encS 3 encS_len l' _ _ h' hm]
    by_cases e1 : i / 3 = q
    ·have := h2 (l[i / 3]) (l'[i / 3]) (by rw [<- e1]; exact List.getElem?_eq_getElem h) (by rw [<- e1]; exact List.getElem?_eq_getElem h')
     rw [this, List.getElem?_set_ne (by omega)]
    ·have := h1 _ h e1
     rw [List.getElem?_eq_getElem h, List.getElem?_eq_getElem h'] at this
     injection this with this
     rw [this]
  ·rw [List.getElem?_eq_none, List.getElem?_eq_none]
   ·rw [flatE_len encS 3 encS_len]; omega
   ·rw [List.length_set, flatE_len encS 3 encS_len]; omega
theorem rowS_get {c : Nat} (fr to mk : Nat -> Nat) {i : Nat} : (rowS c fr to mk)[i]? = if i < c then some (fr i, to i, mk i) else none := by
 split
 ·rename_i h; exact rowS_at fr to mk h
 ·rename_i h; exact List.getElem?_eq_none (by rw [rowS_len]; omega)
theorem rowS_mk (c : Nat) (fr to mk : Nat -> Nat) (q v : Nat) : ((rowS c fr to mk).flatMap encS).set (q * 3 + 2) (.int .i64 (v : Int)) = (rowS c fr to (updN mk q v)).flatMap encS := by
 refine flatS_set _ _ q 2 _ (by omega) (by simp [rowS]) (fun i hi hne => ?_) (fun a b ha hb => ?_)
 ·rw [rowS_get, rowS_get, updN_ne _ _ hne]
 ·rw [rowS_get] at ha hb
  split at ha
  ·rw [if_pos (by assumption)] at hb
   injection ha with ha; injection hb with hb
   subst ha; subst hb; simp [encS, updN]
  ·cases ha
theorem rowS_fr (c : Nat) (fr to mk : Nat -> Nat) (q v : Nat) : ((rowS c fr to mk).flatMap encS).set (q * 3 + 0) (.int .i64 (v : Int)) = (rowS c (updN fr q v) to mk).flatMap encS := by
 refine flatS_set _ _ q 0 _ (by omega) (by simp [rowS]) (fun i hi hne => ?_) (fun a b ha hb => ?_)
 ·rw [rowS_get, rowS_get, updN_ne _ _ hne]
 ·rw [rowS_get] at ha hb
  split at ha
  ·rw [if_pos (by assumption)] at hb
   injection ha with ha; injection hb with hb
   subst ha; subst hb; simp [encS, updN]
  ·cases ha
theorem rowS_to (c : Nat) (fr to mk : Nat -> Nat) (q v : Nat) : ((rowS c fr to mk).flatMap encS).set (q * 3 + 1) (.int .i64 (v : Int)) = (rowS c fr (updN to q v) mk).flatMap encS := by
 refine flatS_set _ _ q 1 _ (by omega) (by simp [rowS]) (fun i hi hne => ?_) (fun a b ha hb => ?_)
 ·rw [rowS_get, rowS_get, updN_ne _ _ hne]
 ·rw [rowS_get] at ha hb
  split at ha
  ·rw [if_pos (by assumption)] at hb
   injection ha with ha; injection hb with hb
   subst ha; subst hb; simp [encS, updN]
  ·cases ha
theorem spans_store {w : World} {B g c cp : Nat} {l l' : List (Nat × Nat × Nat)} {k : Nat} {x : Value} (h : OwnE encS 113 3 w B (sl g c cp) c l) (e : (l.flatMap encS).set k x = l'.flatMap encS) : OwnE encS 113 3 (w.setCell ⟨g, k, none⟩ x) B (sl g c cp) c l' := by
 have := (World.ownsRow.stored h k x).1
 rw [e] at this
 exact this
theorem PtAt.spanAt {w : World} {B : Nat} {L : Lay} {N c : Nat} {A P f fr to mk : Nat -> Nat} {Tl : List Nat} (h : PtAt w B L N A P f fr to mk c Tl) {q : Nat} (hq : q < c) :
  w.cell? ⟨L.gs, q * 3, none⟩ = some (.int .i64 (fr q : Int)) /\ w.cell? ⟨L.gs, q * 3 + 1, none⟩ = some (.int .i64 (to q : Int)) /\ w.cell? ⟨L.gs, q * 3 + 2, none⟩ = some (.int .i64 (mk q : Int)) /\ ∀ k, w.frozen? ⟨L.gs, k, none⟩ = false := by
  have hcell : ∀ j v, (encS (fr q, to q, mk q))[j]? = some v -> w.cell? ⟨L.gs, 0 + q * 3 + j, none⟩ = some v := by
   rcases h.spans.form (fun _ => rfl) (by omega) with ⟨e, _⟩ | ⟨g, cap, e, _, _, _, _, hc⟩
   ·cases e
   ·simp only [Value.slice.injEq, Option.some.injEq, Addr.mk.injEq, and_true, true_and] at e
    obtain ⟨rfl, rfl⟩ := e
    exact hc q _ (rowS_at fr to mk hq)
  have s0 := hcell 0 _ rfl
  have s1 := hcell 1 _ rfl
  have s2 := hcell 2 _ rfl
  rw [Nat.zero_add] at s0 s1 s2
  exact ⟨s0, s1, s2, fun k => World.ownsRow.frozenAt h.spans k⟩
theorem PtAt.spanCap {w : World} {B : Nat} {L : Lay} {N c : Nat} {A P f fr to mk : Nat -> Nat} {Tl : List Nat} (h : PtAt w B L N A P f fr to mk c Tl) : c <= L.cs /\ L.cs <= 9223372036854775807 := by
 obtain ⟨A', c', e, q1, q2, _⟩ := (h.spans.reads (fun _ => rfl) (by omega)).form
 simp only [Value.slice.injEq, true_and] at e
 obtain ⟨_, rfl⟩ := e
 exact ⟨q1, q2⟩
theorem swap_any {w : World} {b B N ga ca gp cp : Nat} {x2 x3 x4 : Value} {A P : Nat -> Nat} {i j : Nat}
  (hb : Blk w b 87 #[sl ga N ca, sl gp N cp, x2, x3, x4])
  (hA : Own w B (sl ga N ca) N (rowN N A)) (hP : Own w B (sl gp N cp) N (rowN N P)) (h1 : b ≠ ga) (h2 : b ≠ gp) (h3 : ga ≠ gp)
  (hi : i < N) (hj : j < N) (hai : A i < N) (haj : A j < N) (hN : N <= 1000000) (hap : ∀ i, i < N -> A i < N /\ P (A i) = i) :
  Calls Try.prog 66 #[.pointer (some ⟨b, 0, none⟩), .int .i64 (i : Int), .int .i64 (j : Int)] w fun e w' => e = .returned (.tuple #[]) /\
   Own w' B (sl ga N ca) N (rowN N (updN (updN A i (A j)) j (A i))) /\ Own w' B (sl gp N cp) N (rowN N (updN (updN P (A j) i) (A i) j)) /\ Fr (fun k => k = ga \/ k = gp) w w' := by
  by_cases e : i = j
  ·exact swap_same hb hA hP h1 h2 h3 e hi hai hN
  ·refine swap_diff hb hA hP h1 h2 h3 e (fun q => e ?_) hi hj hai haj hN
   rw [<- (hap i hi).2, <- (hap j hj).2, q]
theorem PtAt.swapped {w w' : World} {B : Nat} {L : Lay} {N c : Nat} {A P A' P' f fr to mk : Nat -> Nat} {Tl : List Nat} (h : PtAt w B L N A P f fr to mk c Tl)
  (ha : Own w' B (sl L.ga N L.ca) N (rowN N A')) (hp : Own w' B (sl L.gp N L.cp) N (rowN N P')) (hf : Fr (fun k => k = L.ga \/ k = L.gp) w w') : PtAt w' B L N A' P' f fr to mk c Tl where
  box := hf.blk h.box (fun q => q.elim h.ok.ba h.ok.bp)
  all := ha
  places := hp
  of := hf.own h.of (fun k hk q => by
   have : L.go = k := by simpa [Value.ownBlock] using hk
   subst this
   exact q.elim (fun e => h.ok.ao e.symm) (fun e => h.ok.po e.symm))
  spans := hf.rows h.spans (fun k hk q => by
   have : L.gs = k := by simpa [Value.ownBlock] using hk
   subst this
   exact q.elim (fun e => h.ok.as_ e.symm) (fun e => h.ok.ps e.symm))
  touch := hf.own h.touch (fun k hk q => q.elim (fun e => h.ok.at_ (by rw [<- e]; exact hk)) (fun e => h.ok.pt (by rw [<- e]; exact hk)))
  ok := h.ok
  bB := h.bB
theorem PtAt.spanSet {w : World} {B : Nat} {L : Lay} {N c : Nat} {A P f fr to mk fr' to' mk' : Nat -> Nat} {Tl : List Nat} (h : PtAt w B L N A P f fr to mk c Tl) (k : Nat) (x : Value) (e : ((rowS c fr to mk).flatMap encS).set k x = (rowS c fr' to' mk').flatMap encS) :
  PtAt (w.setCell ⟨L.gs, k, none⟩ x) B L N A P f fr' to' mk' c Tl where
  box := h.box.far (p := ⟨L.gs, k, none⟩) h.ok.bs _
  all := own_set h.all (p := ⟨L.gs, k, none⟩) (fun q => h.ok.as_ (by simpa [Value.ownBlock] using q)) _
  places := own_set h.places (p := ⟨L.gs, k, none⟩) (fun q => h.ok.ps (by simpa [Value.ownBlock] using q)) _
  of := own_set h.of (p := ⟨L.gs, k, none⟩) (fun q => h.ok.os (by simpa [Value.ownBlock] using q)) _
  spans := spans_store h.spans e
  touch := own_set h.touch (p := ⟨L.gs, k, none⟩) h.ok.st _
  ok := h.ok
  bB := h.bB
theorem PtAt.marked {w : World} {B : Nat} {L : Lay} {N c : Nat} {A P f fr to mk : Nat -> Nat} {Tl : List Nat} (h : PtAt w B L N A P f fr to mk c Tl) (q v : Nat) : PtAt (w.setCell ⟨L.gs, q * 3 + 2, none⟩ (.int .i64 (v : Int))) B L N A P f fr to (updN mk q v) c Tl := h.spanSet _ _ (rowS_mk c fr to mk q v)
theorem PtAt.touched {w v w' : World} {B : Nat} {L : Lay} {N c : Nat} {A P f fr to mk : Nat -> Nat} {Tl : List Nat} (h : PtAt w B L N A P f fr to mk c Tl) (hv : Below w.heap.size w v) {g cap q : Nat}
  (ho : w'.ownsRow B 3 1 (sl g (L.tn + 1) cap) (L.tn + 1) ((Tl.map Int.ofNat).map (Value.int .i64) ++ [Value.int .i64 (q : Int)])) (hg : v.grownBy w' L.tv.ownBlock) (hat : L.tv.ownBlock = some g \/ g = v.heap.size) :
  PtAt (w'.setCell ⟨L.b, 4, none⟩ (sl g (L.tn + 1) cap)) B { L with tv := sl g (L.tn + 1) cap, tn := L.tn + 1 } N A P f fr to mk c (Tl ++ [q]) /\ Fr L.has w (w'.setCell ⟨L.b, 4, none⟩ (sl g (L.tn + 1) cap)) /\ ((sl g (L.tn + 1) cap).ownBlock = L.tv.ownBlock \/ ∃ k, (sl g (L.tn + 1) cap).ownBlock = some k /\ w.heap.size <= k) := by
  have hf : Fr (fun k => L.tv.ownBlock = some k) w w' := (Fr.of_below (X := fun k => L.tv.ownBlock = some k) hv).trans (Fr.of_grown hg (fun k hk => hk))
  have hlow := h.low
  have hgn : ∀ k, L.has k -> L.tv.ownBlock ≠ some k -> g ≠ k := fun k hk hne e => by
   subst e
   rcases hat with q | q
   ·exact hne q
   ·have := (hlow _ hk).2; have := hv.size; omega
  have hne : ∀ {n c : Nat} {g0 : Nat} {l : List Int}, L.has g0 -> L.tv.ownBlock ≠ some g0 -> g0 ≠ L.b -> Own w B (sl g0 n c) n l -> Own (w'.setCell ⟨L.b, 4, none⟩ (sl g (L.tn + 1) cap)) B (sl g0 n c) n l := fun {n c g0 l} h1 h2 h3 ho =>
   own_set (hf.own ho (fun k hk q => by
    have : g0 = k := by simpa [Value.ownBlock] using hk
    subst this; exact h2 q)) (p := ⟨L.b, 4, none⟩) (fun e => h3 (by simpa [Value.ownBlock] using e)) _
  have gb := hgn _ (.inl rfl) h.ok.bt
  refine ⟨⟨?_, hne (.inr (.inl rfl)) h.ok.at_ h.ok.ba.symm h.all, hne (.inr (.inr (.inl rfl))) h.ok.pt h.ok.bp.symm h.places, hne (.inr (.inr (.inr (.inl rfl)))) h.ok.ot h.ok.bo.symm h.of, ?_, ?_, ?_, h.bB⟩, ?_, ?_⟩
  ·have := (hf.blk h.box h.ok.bt).set_ 4 (sl g (L.tn + 1) cap)
   simpa using this
  ·exact rows_set (hf.rows h.spans (fun k hk q => by
    have : L.gs = k := by simpa [Value.ownBlock] using hk
    subst this; exact h.ok.st q)) (fun e => h.ok.bs e.symm) _
  ·refine own_set (v := sl g (L.tn + 1) cap) ?_ (p := ⟨L.b, 4, none⟩) (fun e => gb (by simpa [Value.ownBlock] using e)) _
   unfold Own
   rw [List.map_append, List.map_append]
   exact ho
  ·exact ⟨h.ok.ba, h.ok.bp, h.ok.bo, h.ok.bs, fun e => gb (by simpa [Value.ownBlock] using e), h.ok.ap, h.ok.ao, h.ok.as_, fun e => hgn _ (.inr (.inl rfl)) h.ok.at_ (by simpa [Value.ownBlock] using e), h.ok.po, h.ok.ps,
    fun e => hgn _ (.inr (.inr (.inl rfl))) h.ok.pt (by simpa [Value.ownBlock] using e), h.ok.os, fun e => hgn _ (.inr (.inr (.inr (.inl rfl)))) h.ok.ot (by simpa [Value.ownBlock] using e), fun e => hgn _ (.inr (.inr (.inr (.inr (.inl rfl))))) h.ok.st (by simpa [Value.ownBlock] using e)⟩
  ·exact (hf.mono (fun k _ e => .inr (.inr (.inr (.inr (.inr e)))))).set_ (p := ⟨L.b, 4, none⟩) (.inl (.inl rfl)) _
  ·rcases hat with q | q
   ·exact .inl q.symm
   ·exact .inr ⟨g, rfl, by have := hv.size; omega⟩
def MkInv (w : World) (B : Nat) (L : Lay) (N : Nat) (f fr to : Nat -> Nat) (c : Nat) (M : Nat -> Prop) (wr : World) (ms : List Nat) : Prop :=
 ∃ A P mk Tl tv tn, PtAt wr B { L with tv := tv, tn := tn } N A P f fr to mk c Tl /\ GoodN N A P f fr to mk c (fun x => M x \/ x ∈ ms) Tl /\ Fr L.has w wr /\ (tv.ownBlock = L.tv.ownBlock \/ ∃ k, tv.ownBlock = some k /\ w.heap.size <= k)
theorem mark_any {w : World} {B : Nat} {L : Lay} {N c : Nat} {A P f fr to mk : Nat -> Nat} {Tl : List Nat} {M : Nat -> Prop} {v : Value} {n : Nat} {ns : List Nat} (h : PtAt w B L N A P f fr to mk c Tl) (hG : GoodN N A P f fr to mk c M Tl)
  (hv : ∀ W, Fr L.has w W -> ReadsI W v n (intsN ns)) (hnd : ns.Nodup) (hns : ∀ x ∈ ns, x < N /\ ¬ M x) (hN : N <= 1000) (hBw : B <= w.heap.size) :
  Calls Try.prog 62 #[.pointer (some ⟨L.b, 0, none⟩), v] w fun e w' => e = .returned (.tuple #[]) /\ MkInv w B L N f fr to c M w' ns := by
  have hN6 : N <= 1000000 := by omega
  obtain ⟨va, vc, rfl, hvc, hvc2, hvl⟩ := (hv w (Fr.refl _ _)).form
  have hnl : ns.length = n := by simpa [intsN] using hvl
  have hnN : n <= 1000 := by
   have := nodup_len hnd (fun x hx => (hns x hx).1)
   omega
  have HI0 : Hid (MkInv w B L N f fr to c M w (ns.take 0)) := Lib.hid ⟨A, P, mk, Tl, L.tv, L.tn, h, by simpa using hG, Fr.refl _ _, .inl rfl⟩
  have HV := Lib.hid hv; have HND := Lib.hid hnd; have HNS := Lib.hid hns; have HNL := Lib.hid hnl
  clear h hG hv hnd hns hvl hnl
  go_enter Try.func62, Try.ntmps62
  go_wp2_with fail
  go_loopw [5, 6, 9] (fun vx vs vi wr => ∃ i : Nat, vi = .int .i64 (i : Int) /\ i <= n /\ Hid (MkInv w B L N f fr to c M wr (ns.take i))) (fun _ _ i _ => n - (intOf i).toNat)
  case atStart => exact ⟨0, rfl, Nat.zero_le _, HI0⟩
  case round =>
   clear HI0
   obtain ⟨i, rfl, hi, HIN⟩ := hrel
   have i0 : (0 : Int) <= (i : Int) := Int.natCast_nonneg _
   by_cases hlt : i < n
   ·obtain ⟨A, P, mk, Tl, tv, tn, h1, h2, h3, h4⟩ := HIN.out
    have HPT := Lib.hid h1; have HG := Lib.hid h2; have HF := Lib.hid h3; have HTV := Lib.hid h4
    clear h1 h2 h3 h4 HIN
    have i1 : (i : Int) < (n : Int) := by omega
    have til : i < ns.length := by rw [HNL.out]; exact hlt
    obtain ⟨x, hxe⟩ : ∃ x, ns[i]'til = x := ⟨_, rfl⟩
    have hxm : x ∈ ns := by rw [<- hxe]; exact List.getElem_mem _
    have hx : x < N := (HNS.out x hxm).1
    have hnot : ¬ (M x \/ x ∈ ns.take i) := by
     rintro (q | q)
     ·exact (HNS.out x hxm).2 q
     ·obtain ⟨j, hj, ej⟩ := List.getElem_of_mem q
      have hj' : j < i := by have := hj; simp at this; omega
      rw [List.getElem_take] at ej
      exact (List.pairwise_iff_getElem.1 HND.out j i (by omega) til hj') (by rw [ej, hxe])
    have HX := Lib.hid hxe; have HNOT := Lib.hid hnot
    obtain ⟨gv, ov, hva, -, cv⟩ := (HV.out wr HF.out).at i hlt
    subst hva
    have ce : (intsN ns).getD i 0 = (x : Int) := by simp [intsN, List.getD, List.getElem?_eq_getElem til, hxe]
    rw [ce] at cv
    have hq : f x < c := HG.out.lt x hx
    obtain ⟨g1, g2, g3⟩ := HG.out.span _ hq
    obtain ⟨p1, p2⟩ := HG.out.place hx
    have hle : fr (f x) + mk (f x) <= P x := by
     rcases Nat.lt_or_ge (P x) (fr (f x) + mk (f x)) with q | q
     ·exact absurd ((HG.out.mark x hx).2 q) hnot
     ·exact q
    have hbN : fr (f x) + mk (f x) < N := by omega
    have hcN := HG.out.count_le
    obtain ⟨cs1, cs2⟩ := HPT.out.spanCap
    obtain ⟨co1, co2, -, -⟩ := HPT.out.of.capN
    obtain ⟨cp1, cp2, -, -⟩ := HPT.out.places.capN
    unfold maxLen at co2 cp2
    obtain ⟨s0, s1, s2, sf⟩ := HPT.out.spanAt hq
    have b2 := HPT.out.box.cell 2; have b3 := HPT.out.box.cell 3; have b4 := HPT.out.box.cell 4
    simp only [List.getElem?_toArray, List.getElem?_cons_zero, List.getElem?_cons_succ] at b2 b3 b4
    have o1 := HPT.out.of.cellAt hx
    have x0 : (0 : Int) <= (x : Int) := Int.natCast_nonneg _
    have x1 : (x : Int) < (N : Int) := by omega
    have q0 : (0 : Int) <= (f x : Int) := Int.natCast_nonneg _
    have q1 : (f x : Int) < (c : Int) := by omega
    have HQ1 := Lib.hid q1
    have tx : decide (x < N) = true := by simpa using hx
    have tq : decide (f x < c) = true := by simpa using hq
    have ti : decide (i < n) = true := by simpa using hlt
    have hq7 := hq
    have HTK : Hid ((fun y => M y \/ y ∈ ns.take (i + 1)) = (fun y => (M y \/ y ∈ ns.take i) \/ y = x)) := Lib.hid (by
     funext y
     rw [List.take_succ_eq_append_getElem til, hxe]
     simp [or_assoc])
    clear hxe hnot hxm ce
    by_cases hz : mk (f x) = 0
    ·have hzI : (mk (f x) : Int) = 0 := by omega
     go_wp2_with fail
     go_quiet (fail)
     obtain ⟨W4, hW4⟩ : ∃ W4, wr.drewN nq = W4 := ⟨_, rfl⟩
     have HPT4 : Hid (PtAt W4 B ({ L with tv := tv, tn := tn } : Lay) N A P f fr to mk c Tl) := Lib.hid (by rw [<- hW4]; exact HPT.out.keep ((Fr.refl (fun _ => False) wr).drewN nq) (fun _ _ => id))
     have HF4 : Hid (Fr L.has w W4) := Lib.hid (by rw [<- hW4]; exact HF.out.drewN nq)
     rw [hW4]
     clear hW4 HPT HF
     have e2 := (HPT4.out.spanAt hq).2.2.1
     obtain ⟨TA, tc, htv, htc, htc2, -⟩ := HPT4.out.touch.readsI.form
     have htl := HPT4.out.tn
     have htv' : tv = .slice TA tn tc := htv
     clear htv
     subst htv'
     go_wp2_with fail
     clear e2 s0 s1 s2 b2 b3 b4 o1 cv
     have HKS : Hid (∀ W : World, Fr (fun k => (Value.slice TA tn tc).ownBlock = some k) W4 W -> W.cell? ⟨L.b, 4, none⟩ = some (.slice TA tn tc) /\ W.cell? ⟨L.b, 2, none⟩ = some (sl L.go N L.co) /\ W.cell? ⟨L.go, x, none⟩ = some (.int .i64 (f x : Int))) := Lib.hid (fun W hW => by
      have hx0 := hW.blk HPT4.out.box HPT4.out.ok.bt
      have k4 := hx0.cell 4; have k2 := hx0.cell 2
      have k5 := (hW.own HPT4.out.of (fun k hk e => HPT4.out.ok.ot (by
       have : L.go = k := by simpa [Value.ownBlock] using hk
       rw [<- this] at e; exact e))).cellAt hx
      exact ⟨by simpa using k4, by simpa using k2, k5⟩)
     have htn9 : tn <= 1000000 := by
      have h1 : tn = Tl.length := htl
      have h2 := nodup_len HG.out.nodup (fun x hx => ((HG.out.touch x).1 hx).1)
      omega
     generalize hqq : f x = q at *
     have HQQ := Lib.hid hqq
     clear hqq htl
     refine region_x 16 (fun w' : World => w'.cell? ⟨L.b, 4, none⟩ = some (.slice TA tn tc) /\ w'.cell? ⟨L.b, 2, none⟩ = some (sl L.go N L.co) /\ w'.cell? ⟨L.go, x, none⟩ = some (.int .i64 (q : Int))) (by kernel_rfl) ?_
     have hF0 : Fr (fun k => (Value.slice TA tn tc).ownBlock = some k) W4 W4.drew := (Fr.refl _ _).drew
     have hB0 : Below W4.heap.size W4 W4.drew := (Below.refl _ _).drew
     have hS := HKS.out _ hF0
     have hO0 : Own W4.drew B (.slice TA tn tc) tn (Tl.map Int.ofNat) := HPT4.out.touch.drew
     generalize W4.drew = V0 at *
     refine tkx (i := 0) (v := ?_) hS ?_ ?_
     rotate_left
     ·rintro w' ⟨s0, s1, s2⟩
      go_simp
      try with_reducible rfl
     try simp only [Act.put, zq1, zq2, zq3, zq4, zq5, zq6]
     refine tkx (i := 1) (v := ?_) hS ?_ ?_
     rotate_left
     ·rintro w' ⟨s0, s1, s2⟩
      go_simp
      try with_reducible rfl
     try simp only [Act.put, zq1, zq2, zq3, zq4, zq5, zq6]
     refine tkx (i := 2) (v := ?_) hS ?_ ?_
     rotate_left
     ·rintro w' ⟨s0, s1, s2⟩
      go_simp
      try with_reducible rfl
     try simp only [Act.put, zq1, zq2, zq3, zq4, zq5, zq6]
     refine tkx (i := 3) (v := ?_) hS ?_ ?_
     rotate_left
     ·rintro w' ⟨s0, s1, s2⟩
      go_simp
      try with_reducible rfl
     try simp only [Act.put, zq1, zq2, zq3, zq4, zq5, zq6]
     refine tkx (i := 4) (v := ?_) hS ?_ ?_
     rotate_left
     ·rintro w' ⟨s0, s1, s2⟩
      go_simp
      try with_reducible rfl
     try simp only [Act.put, zq1, zq2, zq3, zq4, zq5, zq6]
     refine tkx (i := 5) (v := ?_) hS ?_ ?_
     rotate_left
     ·rintro w' ⟨s0, s1, s2⟩
      go_simp
      try with_reducible rfl
     try simp only [Act.put, zq1, zq2, zq3, zq4, zq5, zq6]
     refine tkx (i := 6) (v := ?_) hS ?_ ?_
     rotate_left
     ·rintro w' ⟨s0, s1, s2⟩
      go_simp
      try with_reducible rfl
     try simp only [Act.put, zq1, zq2, zq3, zq4, zq5, zq6]
     refine tkx (i := 7) (v := ?_) hS ?_ ?_
     rotate_left
     ·rintro w' ⟨s0, s1, s2⟩
      go_simp
      try with_reducible rfl
     try simp only [Act.put, zq1, zq2, zq3, zq4, zq5, zq6]
     refine tkx (i := 8) (v := ?_) hS ?_ ?_
     rotate_left
     ·rintro w' ⟨s0, s1, s2⟩
      go_simp
      try with_reducible rfl
     try simp only [Act.put, zq1, zq2, zq3, zq4, zq5, zq6]
     refine tkx (i := 9) (v := ?_) hS ?_ ?_
     rotate_left
     ·rintro w' ⟨s0, s1, s2⟩
      go_simp
      try with_reducible rfl
     try simp only [Act.put, zq1, zq2, zq3, zq4, zq5, zq6]
     refine tkx (i := 10) (v := ?_) hS ?_ ?_
     rotate_left
     ·rintro w' ⟨s0, s1, s2⟩
      go_simp
      try with_reducible rfl
     try simp only [Act.put, zq1, zq2, zq3, zq4, zq5, zq6]
     refine tkx (i := 11) (v := ?_) hS ?_ ?_
     rotate_left
     ·rintro w' ⟨s0, s1, s2⟩
      go_simp
      try with_reducible rfl
     try simp only [Act.put, zq1, zq2, zq3, zq4, zq5, zq6]
     refine anyX_g (i := 12) (by kernel_rfl) (by decide) rfl (by rfl) ?_
     intro K hK
     try simp only [zq1, zq2, zq3]
     go_simp
     obtain ⟨V1, eV⟩ : ∃ W', V0.alloc (.cells #[.int .i64 (q : Int)] 3) = W' := ⟨_, rfl⟩
     have hb : Below V0.heap.size V0 V1 := by rw [<- eV]; exact (Below.refl _ _).alloc (Nat.le_refl _) _
     have xb : Blk V1 V0.heap.size 3 #[.int .i64 (q : Int)] := by rw [<- eV]; exact Blk.new _ _ _
     have hO1 := hO0.below_top hb
     have hB1 := hB0.trans (hb.mono hB0.size)
     have hF1 := hF0.trans (Fr.of_below hb)
     rw [eV]
     clear eV
     obtain ⟨pv, hp⟩ : ∃ p, V0.heap.size = p := ⟨_, rfl⟩
     rw [hp] at xb ⊢
     clear hp hb
     have hS1 := HKS.out _ hF1
     refine hK _ _ hS1 ?_
     clear hK
     try simp only [Act.put, zq1, zq2, zq3, zq4, zq5, zq6]
     refine anyX_g (i := 13) (by kernel_rfl) (by decide) rfl (by rfl) ?_
     intro K hK
     try simp only [zq1, zq2, zq3]
     refine wp_pushK rfl (.tmp 34) (.tmp 42) 22 3 rfl 1 8 _ Try.underlying22 info_int rfl (by omega) (by omega) B _ _ _ (by rfl) hO1 pv (by rfl) #[.int .i64 (q : Int)] rfl xb (by simp [Value.oneCell']) htn9 (Nat.le_trans hBw (Nat.le_trans HF4.out.size hB1.size)) ?_
     intro g9 cap9 V2 q1 q2 q3
     have hF2 := hF1.trans (Fr.of_grown (X := fun k => (Value.slice TA tn tc).ownBlock = some k) q2 (fun k hk => hk))
     have hS2 := HKS.out _ hF2
     have hE := HPT4.out.touched hB1 q1 q2 q3
     have hx2 := hF2.blk HPT4.out.box HPT4.out.ok.bt
     have HE := Lib.hid hE
     clear q1 q2 q3 hE
     refine hK _ _ hS2 ?_
     clear hK
     try simp only [Act.put, zq1, zq2, zq3, zq4, zq5, zq6]
     refine anyX_g (i := 14) (by kernel_rfl) (by decide) rfl (by rfl) ?_
     intro K hK
     try simp only [zq1, zq2, zq3]
     go_simp
     refine hK _ _ hS2 ?_
     clear hK
     try simp only [Act.put, zq1, zq2, zq3, zq4, zq5, zq6]
     refine anyX_g (i := 15) (by kernel_rfl) (by decide) rfl (by rfl) ?_
     intro K hK
     try simp only [zq1, zq2, zq3]
     go_simp
     refine hK _ _ hS2 ?_
     clear hK
     try simp only [Act.put, zq1, zq2, zq3, zq4, zq5, zq6]
     have k4 : V2.cell? ⟨L.b, 4, none⟩ = some (.slice TA tn tc) := (by have := hx2.cell 4; simpa using this)
     have kf : V2.frozen? ⟨L.b, 4, none⟩ = false := hx2.frozen 4
     refine anyX_last (by kernel_rfl) (by kernel_rfl) rfl rfl ?_
     try simp only [zq1, zq2, zq3]
     go_simp
     try apply_assumption
     obtain ⟨W5, hW5⟩ : ∃ W5, V2.setCell ⟨L.b, 4, none⟩ (.slice (some ⟨g9, 0, none⟩) (tn + 1) cap9) = W5 := ⟨_, rfl⟩
     rw [hW5]
     have HE5 := HE.out
     have hW5' : V2.setCell ⟨L.b, 4, none⟩ (sl g9 (tn + 1) cap9) = W5 := hW5
     change PtAt (V2.setCell ⟨L.b, 4, none⟩ (sl g9 (tn + 1) cap9)) B _ N A P f fr to mk c _ /\ _ at HE5
     rw [hW5'] at HE5
     have hqq := HQQ.out
     subst hqq
     have HPT5 : Hid (PtAt W5 B ({ L with tv := sl g9 (tn + 1) cap9, tn := tn + 1 } : Lay) N A P f fr to mk c (Tl ++ [f x])) := Lib.hid HE5.1
     have HF5 : Hid (Fr L.has w W5) := Lib.hid (HF4.out.then_ HE5.2.1 (fun k hk hx => by
       rcases hx with e | e | e | e | e | e
       ·exact .inl e
       ·exact .inr (.inl e)
       ·exact .inr (.inr (.inl e))
       ·exact .inr (.inr (.inr (.inl e)))
       ·exact .inr (.inr (.inr (.inr (.inl e))))
       ·refine .inr (.inr (.inr (.inr (.inr ?_))))
        have e' : (Value.slice TA tn tc).ownBlock = some k := e
        rcases HTV.out with r | ⟨k', r, r2⟩
        ·rw [<- r]; exact e'
        ·rw [r] at e'; injection e' with e'; omega))
     have HTV5 : Hid ((sl g9 (tn + 1) cap9).ownBlock = L.tv.ownBlock \/ ∃ k, (sl g9 (tn + 1) cap9).ownBlock = some k /\ w.heap.size <= k) := Lib.hid (by
       rcases HE5.2.2 with r | ⟨k, r, r2⟩
       ·rcases HTV.out with r3 | ⟨k', r3, r4⟩
        ·exact .inl (r.trans r3)
        ·exact .inr ⟨k', r.trans r3, r4⟩
       ·exact .inr ⟨k, r, Nat.le_trans HF4.out.size r2⟩)
     obtain ⟨Tl5, hTl5⟩ : ∃ Tl5, Tl5 = Tl ++ [f x] := ⟨_, rfl⟩
     have HT5 := Lib.hid hTl5
     rw [<- hTl5] at HPT5
     clear hTl5 HE5 HE hW5 hW5' k4 kf hx2 hF0 hF1 hF2 hB0 hB1 hS hS1 hS2 hO0 hO1 xb HPT4 HF4 HTV HKS HQQ
     have HPT6 : Hid (PtAt W5.drew B ({ L with tv := sl g9 (tn + 1) cap9, tn := tn + 1 } : Lay) N A P f fr to mk c Tl5) := Lib.hid (HPT5.out.keep ((Fr.refl (fun _ => False) W5).drew) (fun _ _ => id))
     have HF6 : Hid (Fr L.has w W5.drew) := Lib.hid HF5.out.drew
     have HNT6 : Hid (Tl5 = if mk (f x) = 0 then Tl ++ [f x] else Tl) := Lib.hid (by rw [HT5.out]; exact (if_pos hz).symm)
     clear HPT5 HF5 HT5 hz hzI
     skip
     have p0 := HPT6.out.box.cell 1
     simp only [List.getElem?_toArray, List.getElem?_cons_zero, List.getElem?_cons_succ] at p0
     have p1 := HPT6.out.places.cellAt hx
     obtain ⟨sw0, -, sw2, -⟩ := HPT6.out.spanAt hq
     have HSW := Lib.hid (swap_any HPT6.out.box HPT6.out.all HPT6.out.places HPT6.out.ok.ba HPT6.out.ok.bp HPT6.out.ok.ap (HG.out.pa x hx).1 hbN (by rw [(HG.out.pa x hx).2]; exact hx) (HG.out.ap _ hbN).1 hN6 HG.out.ap)
     have sm : IntKind.i64.wrap ((fr (f x) : Int) + (mk (f x) : Int)) = ((fr (f x) + mk (f x) : Nat) : Int) := by rw [IntWalk.i64_in _ (by omega)]; omega
     have sm2 : IntKind.i64.wrap ((mk (f x) : Int) + 1) = ((mk (f x) + 1 : Nat) : Int) := by rw [IntWalk.i64_in _ (by omega)]; omega
     have HAX := Lib.hid (HG.out.pa x hx).2
     have HM1 := Lib.hid (HG.out.mark1 hx HNOT.out)
     rw [HAX.out] at HSW
     generalize hPx : P x = px at *
     generalize hbb : fr (f x) + mk (f x) = bb at *
     generalize hm2 : mk (f x) + 1 = mk2 at *
     generalize hfr : fr (f x) = frq at *
     generalize hmk : mk (f x) = mkq at *
     generalize hqq : f x = q at *
     have HPX := Lib.hid hPx; have HBB := Lib.hid hbb; have HM2 := Lib.hid hm2; have HMKQ := Lib.hid hmk
     clear hPx hbb hm2 hfr hmk hqq
     go_wp2_with fail
     refine wp_region_still_tail 17 (by kernel_rfl) (by kernel_rfl) ?_
     simp only [List.take_succ_cons, List.take_zero, List.drop_succ_cons, List.drop_zero]
     change wpStill _ _ W5.drew _ _ _
     repeat still_step
     refine wpStill_nil ?_
     change wpList _ _ _ _ _ W5.drew
     generalize W5.drew = W6 at *
     go_wp2_with fail
     refine HSW.out.mono ?_
     rintro e w7 ⟨rfl, ha, hp, hf⟩
     have hpt7 := HPT6.out.swapped ha hp hf
     have HPT7 := Lib.hid hpt7; have HF7 := Lib.hid (HF6.out.trans (hf.mono (fun k _ h => h.elim (fun e => .inr (.inl e)) (fun e => .inr (.inr (.inl e))))))
     obtain ⟨-, -, sv2, svf⟩ := hpt7.spanAt hq7
     rw [HMKQ.out] at sv2
     have svf2 := svf (q * 3 + 2)
     clear ha hp hf hpt7 svf HSW HPT6 HF6 p0 p1 sw0 sw2
     go_wp2_with fail
     refine ⟨⟨i + 1, by go_num, by omega, Lib.hid ⟨_, _, _, Tl5, sl g9 (tn + 1) cap9, tn + 1, (HPT7.out.marked q mk2), ?_, HF7.out.set_ (p := ⟨L.gs, q * 3 + 2, none⟩) (.inl (.inr (.inr (.inr (.inr (.inl rfl)))))) _, HTV5.out⟩⟩, by simp [intOf]; omega⟩
     have hm := HM1.out
     rw [<- HNT6.out] at hm
     rw [HTK.out]
     exact hm
    ·have hzI : ¬ (mk (f x) : Int) = 0 := by omega
     go_wp2_with fail
     go_quiet (fail)
     obtain ⟨W5, hW5⟩ : ∃ W5, wr.drewN nq = W5 := ⟨_, rfl⟩
     have HPT5 : Hid (PtAt W5 B ({ L with tv := tv, tn := tn } : Lay) N A P f fr to mk c Tl) := Lib.hid (by rw [<- hW5]; exact HPT.out.keep ((Fr.refl (fun _ => False) wr).drewN nq) (fun _ _ => id))
     have HF5 : Hid (Fr L.has w W5) := Lib.hid (by rw [<- hW5]; exact HF.out.drewN nq)
     obtain ⟨Tl5, hTl5⟩ : ∃ Tl5, Tl5 = Tl := ⟨_, rfl⟩
     have HT5 := Lib.hid hTl5; have HTV5 := HTV
     rw [<- hTl5] at HPT5
     rw [hW5]
     clear hTl5 hW5 HPT HF
     have e2 := (HPT5.out.spanAt hq).2.2.1
     go_wp2_with fail
     clear e2 s0 s1 s2 b2 b3 b4 o1 cv
     have HPT6 : Hid (PtAt W5.drew B ({ L with tv := tv, tn := tn } : Lay) N A P f fr to mk c Tl5) := Lib.hid (HPT5.out.keep ((Fr.refl (fun _ => False) W5).drew) (fun _ _ => id))
     have HF6 : Hid (Fr L.has w W5.drew) := Lib.hid HF5.out.drew
     have HNT6 : Hid (Tl5 = if mk (f x) = 0 then Tl ++ [f x] else Tl) := Lib.hid (by rw [HT5.out]; exact (if_neg hz).symm)
     clear HPT5 HF5 HT5 hz hzI
     skip
     have p0 := HPT6.out.box.cell 1
     simp only [List.getElem?_toArray, List.getElem?_cons_zero, List.getElem?_cons_succ] at p0
     have p1 := HPT6.out.places.cellAt hx
     obtain ⟨sw0, -, sw2, -⟩ := HPT6.out.spanAt hq
     have HSW := Lib.hid (swap_any HPT6.out.box HPT6.out.all HPT6.out.places HPT6.out.ok.ba HPT6.out.ok.bp HPT6.out.ok.ap (HG.out.pa x hx).1 hbN (by rw [(HG.out.pa x hx).2]; exact hx) (HG.out.ap _ hbN).1 hN6 HG.out.ap)
     have sm : IntKind.i64.wrap ((fr (f x) : Int) + (mk (f x) : Int)) = ((fr (f x) + mk (f x) : Nat) : Int) := by rw [IntWalk.i64_in _ (by omega)]; omega
     have sm2 : IntKind.i64.wrap ((mk (f x) : Int) + 1) = ((mk (f x) + 1 : Nat) : Int) := by rw [IntWalk.i64_in _ (by omega)]; omega
     have HAX := Lib.hid (HG.out.pa x hx).2
     have HM1 := Lib.hid (HG.out.mark1 hx HNOT.out)
     rw [HAX.out] at HSW
     generalize hPx : P x = px at *
     generalize hbb : fr (f x) + mk (f x) = bb at *
     generalize hm2 : mk (f x) + 1 = mk2 at *
     generalize hfr : fr (f x) = frq at *
     generalize hmk : mk (f x) = mkq at *
     generalize hqq : f x = q at *
     have HPX := Lib.hid hPx; have HBB := Lib.hid hbb; have HM2 := Lib.hid hm2; have HMKQ := Lib.hid hmk
     clear hPx hbb hm2 hfr hmk hqq
     go_wp2_with fail
     refine wp_region_still_tail 17 (by kernel_rfl) (by kernel_rfl) ?_
     simp only [List.take_succ_cons, List.take_zero, List.drop_succ_cons, List.drop_zero]
     change wpStill _ _ W5.drew _ _ _
     repeat still_step
     refine wpStill_nil ?_
     change wpList _ _ _ _ _ W5.drew
     generalize W5.drew = W6 at *
     go_wp2_with fail
     refine HSW.out.mono ?_
     rintro e w7 ⟨rfl, ha, hp, hf⟩
     have hpt7 := HPT6.out.swapped ha hp hf
     have HPT7 := Lib.hid hpt7; have HF7 := Lib.hid (HF6.out.trans (hf.mono (fun k _ h => h.elim (fun e => .inr (.inl e)) (fun e => .inr (.inr (.inl e))))))
     obtain ⟨-, -, sv2, svf⟩ := hpt7.spanAt hq7
     rw [HMKQ.out] at sv2
     have svf2 := svf (q * 3 + 2)
     clear ha hp hf hpt7 svf HSW HPT6 HF6 p0 p1 sw0 sw2
     go_wp2_with fail
     refine ⟨⟨i + 1, by go_num, by omega, Lib.hid ⟨_, _, _, Tl5, tv, tn, (HPT7.out.marked q mk2), ?_, HF7.out.set_ (p := ⟨L.gs, q * 3 + 2, none⟩) (.inl (.inr (.inr (.inr (.inr (.inl rfl)))))) _, HTV5.out⟩⟩, by simp [intOf]; omega⟩
     have hm := HM1.out
     rw [<- HNT6.out] at hm
     rw [HTK.out]
     exact hm
   ·obtain rfl : i = n := by omega
    go_wp2_with fail
    go_end0
    have := HIN.out
    rw [List.take_of_length_le (by rw [HNL.out]; exact Nat.le_refl _)] at this
    exact ⟨rfl, this⟩
end Go.Proofs.Ytdcokkgdahbinaa
