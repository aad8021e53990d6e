/- The memory of parts; parts.add, parts.count. Contracts of slices.Repeat at one number, noneOf, newOrder; order.number. -/
import Derived.Test.YtdcokkgdahbinaaVMiniA
import Derived.Test.YtdcokkgdahbinaaVConcatI
import Derived.Test.YtdcokkgdahbinaaVShelfM
import Derived.Laws.CopyRow
import Derived.Laws.CopyOwn
import Derived.IntWalk
import Derived.Deep.LoopGhost
set_option linter.unusedVariables false
set_option linter.unusedSimpArgs false
set_option maxRecDepth 100000
set_option maxHeartbeats 8000000
namespace Go.Proofs.Ytdcokkgdahbinaa
open Go Go.RowKit Go.Proofs
theorem info_span : (Try.prog.info? 113).map (fun i => (i.zero, i.size, i.bytes)) = some (some (.agg #[.int .i64 0, .int .i64 0, .int .i64 0]), 3, 24) := by kernel_rfl
def encS (s : Nat × Nat × Nat) : List Value := [.int .i64 (s.1 : Int), .int .i64 (s.2.1 : Int), .int .i64 (s.2.2 : Int)]
theorem encS_len (s : Nat × Nat × Nat) : (encS s).length = 3 := rfl
def rowS (c : Nat) (fr to mk : Nat -> Nat) : List (Nat × Nat × Nat) := (List.range c).map fun q => (fr q, to q, mk q)
theorem rowS_len (c : Nat) (fr to mk : Nat -> Nat) : (rowS c fr to mk).length = c := by simp [rowS]
theorem rowS_at {c : Nat} (fr to mk : Nat -> Nat) {q : Nat} (h : q < c) : (rowS c fr to mk)[q]? = some (fr q, to q, mk q) := by simp [rowS, h]
theorem rowS_push (c : Nat) (fr to mk : Nat -> Nat) (a b m : Nat) : rowS c fr to mk ++ [(a, b, m)] = rowS (c + 1) (updN fr c a) (updN to c b) (updN mk c m) := by
 unfold rowS
 rw [List.range_succ, List.map_append]
 congr 1
 ·refine List.map_congr_left fun q hq => ?_
  have : q ≠ c := by have := List.mem_range.1 hq; omega
  rw [updN_ne _ _ this, updN_ne _ _ this, updN_ne _ _ this]
 ·simp [updN]
structure Lay where
 b : Nat
 ga : Nat
 ca : Nat
 gp : Nat
 cp : Nat
 go : Nat
 co : Nat
 gs : Nat
 cs : Nat
 tn : Nat
 tv : Value
def Lay.has (L : Lay) (k : Nat) : Prop := k = L.b \/ k = L.ga \/ k = L.gp \/ k = L.go \/ k = L.gs \/ L.tv.ownBlock = some k
structure Lay.Ok (L : Lay) : Prop where
 ba : L.b ≠ L.ga
 bp : L.b ≠ L.gp
 bo : L.b ≠ L.go
 bs : L.b ≠ L.gs
 bt : L.tv.ownBlock ≠ some L.b
 ap : L.ga ≠ L.gp
 ao : L.ga ≠ L.go
 as_ : L.ga ≠ L.gs
 at_ : L.tv.ownBlock ≠ some L.ga
 po : L.gp ≠ L.go
 ps : L.gp ≠ L.gs
 pt : L.tv.ownBlock ≠ some L.gp
 os : L.go ≠ L.gs
 ot : L.tv.ownBlock ≠ some L.go
 st : L.tv.ownBlock ≠ some L.gs
theorem Lay.Ok.gs_ {L : Lay} (h : L.Ok) {g cp : Nat} (hg : g = L.gs \/ ∀ k, L.has k -> k ≠ g) : ({ L with gs := g, cs := cp } : Lay).Ok := by
 rcases hg with rfl | hg
 ·exact ⟨h.ba, h.bp, h.bo, h.bs, h.bt, h.ap, h.ao, h.as_, h.at_, h.po, h.ps, h.pt, h.os, h.ot, h.st⟩
 ·exact ⟨h.ba, h.bp, h.bo, hg _ (.inl rfl), h.bt, h.ap, h.ao, hg _ (.inr (.inl rfl)), h.at_, h.po, hg _ (.inr (.inr (.inl rfl))), h.pt, hg _ (.inr (.inr (.inr (.inl rfl)))), h.ot, fun e => hg g (.inr (.inr (.inr (.inr (.inr e))))) rfl⟩
structure PtAt (w : World) (B : Nat) (L : Lay) (N : Nat) (A P f fr to mk : Nat -> Nat) (c : Nat) (Tl : List Nat) : Prop where
 box : Blk w L.b 87 #[sl L.ga N L.ca, sl L.gp N L.cp, sl L.go N L.co, sl L.gs c L.cs, L.tv]
 all : Own w B (sl L.ga N L.ca) N (rowN N A)
 places : Own w B (sl L.gp N L.cp) N (rowN N P)
 of : Own w B (sl L.go N L.co) N (rowN N f)
 spans : OwnE encS 113 3 w B (sl L.gs c L.cs) c (rowS c fr to mk)
 touch : Own w B L.tv L.tn (Tl.map Int.ofNat)
 ok : L.Ok
 bB : B <= L.b
section
variable {w w' : World} {B : Nat} {L : Lay} {N c : Nat} {A P f fr to mk : Nat -> Nat} {Tl : List Nat}
theorem PtAt.keep {X : Nat -> Prop} (h : PtAt w B L N A P f fr to mk c Tl) (hf : Fr X w w') (hX : ∀ k, L.has k -> ¬ X k) : PtAt w' B L N A P f fr to mk c Tl where
 box := hf.blk h.box (hX _ (.inl rfl))
 all := hf.own h.all (fun k hk => hX k (.inr (.inl (by simpa [Value.ownBlock] using hk.symm))))
 places := hf.own h.places (fun k hk => hX k (.inr (.inr (.inl (by simpa [Value.ownBlock] using hk.symm)))))
 of := hf.own h.of (fun k hk => hX k (.inr (.inr (.inr (.inl (by simpa [Value.ownBlock] using hk.symm))))))
 spans := hf.rows h.spans (fun k hk => hX k (.inr (.inr (.inr (.inr (.inl (by simpa [Value.ownBlock] using hk.symm)))))))
 touch := hf.own h.touch (fun k hk => hX k (.inr (.inr (.inr (.inr (.inr hk))))))
 ok := h.ok
 bB := h.bB
theorem PtAt.bel (h : PtAt w B L N A P f fr to mk c Tl) (hb : Below w.heap.size w w') : PtAt w' B L N A P f fr to mk c Tl := h.keep (Fr.of_below (X := fun _ => False) hb) (fun _ _ => id)
theorem PtAt.low (h : PtAt w B L N A P f fr to mk c Tl) : ∀ k, L.has k -> B <= k /\ k < w.heap.size := by
 intro k hk
 rcases hk with rfl | rfl | rfl | rfl | rfl | hk
 ·exact ⟨h.bB, h.box.lt⟩
 ·exact h.all.lt _ rfl
 ·exact h.places.lt _ rfl
 ·exact h.of.lt _ rfl
 ·exact h.spans.lt _ rfl
 ·exact h.touch.lt _ hk
theorem PtAt.tn (h : PtAt w B L N A P f fr to mk c Tl) : L.tn = Tl.length := by have := h.touch.len; simpa using this.symm
end
theorem rows_set {w : World} {B g n cp : Nat} {t : TypeId} {l : List (Nat × Nat × Nat)} (h : OwnE encS t 3 w B (sl g n cp) n l) {p : Addr} (hp : g ≠ p.block) (x : Value) : OwnE encS t 3 (w.setCell p x) B (sl g n cp) n l :=
 h.same fun g' hg => by
  have : g = g' := by simpa [Value.ownBlock] using hg
  subst this
  exact Below.heap_setCell w p x g hp
theorem own_set {w : World} {B n : Nat} {v : Value} {l : List Int} (h : Own w B v n l) {p : Addr} (hp : v.ownBlock ≠ some p.block) (x : Value) : Own (w.setCell p x) B v n l := by
 obtain ⟨h1, h2⟩ := h
 refine ⟨h1, ?_⟩
 rcases h2 with h2 | ⟨g', cap, cur, rfl, hg, hh, r⟩
 ·exact .inl h2
 ·exact .inr ⟨g', cap, cur, rfl, hg, (Below.heap_setCell w p x g' (fun e => hp (by simp [Value.ownBlock, e]))).trans hh, r⟩
def addF (f P : Nat -> Nat) (c x i : Nat) : Nat -> Nat := fun z => if x <= P z /\ P z < x + i then c else f z
theorem addF_zero (f P : Nat -> Nat) (c x : Nat) : addF f P c x 0 = f := by funext z; unfold addF; rw [if_neg (by omega)]
theorem addF_succ {A P f : Nat -> Nat} {N c x i : Nat} (hpa : ∀ x, x < N -> P x < N /\ A (P x) = x) (hap : ∀ i, i < N -> A i < N /\ P (A i) = i) (hi : x + i < N) : rowN N (updN (addF f P c x i) (A (x + i)) c) = rowN N (addF f P c x (i + 1)) := by
 refine rowN_congr fun z hz => ?_
 by_cases e : z = A (x + i)
 ·rw [e, updN_at]
  unfold addF
  rw [(hap _ hi).2, if_pos ⟨by omega, by omega⟩]
 ·rw [updN_ne _ _ e]
  have : P z ≠ x + i := fun q => e (by rw [<- q, (hpa z hz).2])
  unfold addF
  by_cases q : x <= P z /\ P z < x + i
  ·rw [if_pos q, if_pos ⟨q.1, by omega⟩]
  ·rw [if_neg q, if_neg (fun r => q ⟨r.1, by omega⟩)]
theorem pcount_any {w : World} {B : Nat} {L : Lay} {N c : Nat} {A P f fr to mk : Nat -> Nat} {Tl : List Nat} (h : PtAt w B L N A P f fr to mk c Tl) :
  Calls Try.prog 53 #[.pointer (some ⟨L.b, 0, none⟩)] w fun e w' => e = .returned (.int .i64 (c : Int)) /\ w = w' := by
  have b3 := h.box.cell 3
  simp only [List.getElem?_toArray, List.getElem?_cons_zero, List.getElem?_cons_succ] at b3
  clear h
  go_enter Try.func53, Try.ntmps53
  go_wp2_with fail
  go_ret
  exact ⟨rfl, rfl⟩
theorem padd_any {w : World} {B : Nat} {L : Lay} {N c : Nat} {A P f fr to mk : Nat -> Nat} {Tl : List Nat} (h : PtAt w B L N A P f fr to mk c Tl)
  (hpa : ∀ x, x < N -> P x < N /\ A (P x) = x) (hap : ∀ i, i < N -> A i < N /\ P (A i) = i) (x y : Nat) (hxy : x < y) (hy : y <= N) (hN : N <= 1000000) (hc : c <= N) (hBw : B <= w.heap.size) :
  Calls Try.prog 67 #[.pointer (some ⟨L.b, 0, none⟩), .int .i64 (x : Int), .int .i64 (y : Int)] w fun e w' => e = .returned (.tuple #[]) /\
   ∃ gs' cs', PtAt w' B { L with gs := gs', cs := cs' } N A P (fun z => if x <= P z /\ P z < y then c else f z) (updN fr c x) (updN to c y) (updN mk c 0) (c + 1) Tl /\ Fr L.has w w' /\ (gs' = L.gs \/ w.heap.size <= gs') := by
  have b0 := h.box.cell 0
  have b2 := h.box.cell 2
  have b3 := h.box.cell 3
  simp only [List.getElem?_toArray, List.getElem?_cons_zero, List.getElem?_cons_succ] at b0 b2 b3
  obtain ⟨cA1, cA2, -, gA⟩ := h.all.capN
  obtain ⟨cO1, cO2, -, gO⟩ := h.of.capN
  unfold maxLen at cA2 cO2
  have x0 : (0 : Int) <= (x : Int) := Int.natCast_nonneg _
  have x1 : (x : Int) <= (y : Int) := by omega
  have x2 : ¬ (L.ca = x) := by omega
  have x3 : (y : Int) <= (L.ca : Int) := by omega
  have xs : IntKind.i64.wrap ((y : Int) - (x : Int)) = ((y - x : Nat) : Int) := by rw [IntWalk.i64_in _ (by omega)]; omega
  have HH := Lib.hid h; have HPA := Lib.hid hpa; have HAP := Lib.hid hap; have HB := Lib.hid h.ok
  clear h hpa hap
  go_enter Try.func67, Try.ntmps67
  go_wp2_with fail
  obtain ⟨d, hd⟩ : ∃ d, y - x = d := ⟨_, rfl⟩
  rw [hd] at xs ⊢
  have HD := Lib.hid hd; clear hd
  have HXY := Lib.hid hxy; have HY := Lib.hid hy
  clear hxy hy x1 x3 xs
  go_loopw [7, 16] (fun vn vi wr => ∃ k : Nat, vi = .int .i64 (k : Int) /\ k <= d /\ Hid (Blk wr L.b 87 #[sl L.ga N L.ca, sl L.gp N L.cp, sl L.go N L.co, sl L.gs c L.cs, L.tv]) /\ Hid (Own wr B (sl L.go N L.co) N (rowN N (addF f P c x k))) /\ Hid (Fr (fun q => q = L.go) w wr)) (fun _ i _ => d - (intOf i).toNat)
  case atStart => exact ⟨0, rfl, Nat.zero_le _, Lib.hid HH.out.box, Lib.hid (by rw [addF_zero]; exact HH.out.of), Lib.hid (Fr.refl _ _)⟩
  case round =>
   obtain ⟨k, rfl, hk, HBX, HOF, HFR⟩ := hrel
   have k0 : (0 : Int) <= (k : Int) := Int.natCast_nonneg _
   by_cases hlt : k < d
   ·have k1 : (k : Int) < (d : Int) := by omega
    have tk : decide (k < d) = true := by simpa using hlt
    have hxk : x + k < N := by have := HD.out; have := HXY.out; have := HY.out; omega
    have a1 := (HFR.out.own HH.out.all (fun q hq hx => HB.out.ao (by
     have : L.ga = q := by simpa [Value.ownBlock] using hq
     rw [this, hx]))).cellAt hxk
    obtain ⟨n1, n2⟩ := HAP.out _ hxk
    have f1 := HOF.out.frozen (A (x + k))
    have f2 := HOF.out.cellAt n1
    have HST := Lib.hid (HOF.out.storeN (A (x + k)) c)
    have HSUC := Lib.hid (addF_succ (f := f) (c := c) HPA.out HAP.out hxk)
    rw [HSUC.out] at HST
    have b0 : wr.cell? ⟨L.b, 2, none⟩ = some (sl L.go N L.co) := by have := HBX.out.cell 2; simpa using this
    have b3 : wr.cell? ⟨L.b, 3, none⟩ = some (sl L.gs c L.cs) := by have := HBX.out.cell 3; simpa using this
    clear n2 HSUC
    generalize A (x + k) = z at *
    have tz : decide (z < N) = true := by simpa using n1
    have z0 : (0 : Int) <= (z : Int) := Int.natCast_nonneg _
    have z1 : (z : Int) < (N : Int) := by omega
    have HB2 : Hid (Blk (wr.setCell ⟨L.go, z, none⟩ (.int .i64 (c : Int))).drew L.b 87 #[sl L.ga N L.ca, sl L.gp N L.cp, sl L.go N L.co, sl L.gs c L.cs, L.tv]) := Lib.hid (Blk.drew (HBX.out.far (p := ⟨L.go, z, none⟩) HB.out.bo _))
    have HF2 : Hid (Fr (fun q => q = L.go) w (wr.setCell ⟨L.go, z, none⟩ (.int .i64 (c : Int))).drew) := Lib.hid (HFR.out.set_ (p := ⟨L.go, z, none⟩) (.inl rfl) _).drew
    have HST2 : Hid (Own (wr.setCell ⟨L.go, z, none⟩ (.int .i64 (c : Int))).drew B (sl L.go N L.co) N (rowN N (addF f P c x (k + 1)))) := Lib.hid (Own.drew HST.out)
    clear HST HBX HFR HOF b2
    go_wp2_with fail
    go_region
    go_wp2_with fail
    exact ⟨⟨k + 1, by go_num, by omega, HB2, HST2, HF2⟩, by simp [intOf]; omega⟩
   ·obtain rfl : k = d := by omega
    have b3 : wr.cell? ⟨L.b, 3, none⟩ = some (sl L.gs c L.cs) := by have := HBX.out.cell 3; simpa using this
    have HSP : Hid (OwnE encS 113 3 wr B (sl L.gs c L.cs) c (rowS c fr to mk)) := Lib.hid (HFR.out.rows HH.out.spans (fun q hq hx => HB.out.os (by
     have : L.gs = q := by simpa [Value.ownBlock] using hq
     rw [this, hx])))
    have hc2 : c <= 1000000000 := by omega
    have hbs : B <= wr.heap.size := Nat.le_trans hBw HFR.out.size
    go_wp2_with (at_builtin; refine wpList_pushE rfl (.tmp 36) (.tmp 40) 85 rfl 24 _ Try.underlying85 info_span rfl (by omega) (by omega) B wr (sl L.gs c L.cs) c (rowS c fr to mk) (x, y, 0) _ rfl rfl (by simp [encS, Value.oneCell']) (by rfl) HSP.out wr.heap.size (by rfl) rfl hc2 hbs ?_; intro g9 cap9 w9 hp9; have HP := Lib.hid hp9; clear hp9; have HBX9 := Lib.hid (HBX.out.grown HP.out.grow (fun e => HB.out.bs (by simpa [Value.ownBlock] using e))); have c9 : w9.cell? ⟨L.b, 3, none⟩ = some (sl L.gs c L.cs) := (by have := HBX9.out.cell 3; simpa using this); have fz9 := HBX9.out.frozen 3)
    go_end0
    have hF1 : Fr (fun q => q = L.go \/ q = L.gs) w w9 := (HFR.out.mono (fun q _ h => Or.inl h)).trans (Fr.of_grown HP.out.grow (fun q hq => Or.inr (by simpa [Value.ownBlock] using hq.symm)))
    have hlow := HH.out.low
    have hg9 : g9 = L.gs \/ w.heap.size <= g9 := by
     rcases HP.out.at_ with e | e
     ·exact .inl (by simpa [Value.ownBlock] using e.symm)
     ·exact .inr (Nat.le_trans HFR.out.size e)
    refine ⟨rfl, g9, cap9, ?_, ?_, ?_⟩
    ·have hok : ({ L with gs := g9, cs := cap9 } : Lay).Ok := HB.out.gs_ (by
      rcases hg9 with e | e
      ·exact .inl e
      ·exact .inr (fun k hk q => by have := (hlow k hk).2; omega))
     have hob : ∀ {g n cp : Nat} {l : List Int}, Own w B (sl g n cp) n l -> g ≠ L.go -> g ≠ L.gs -> g ≠ L.b -> Own (w9.setCell ⟨L.b, 3, none⟩ (sl g9 (c + 1) cap9)) B (sl g n cp) n l := fun {g n cp l} ho h1 h2 h3 =>
      own_set (hF1.own ho (fun k hk hx => by
       have : g = k := by simpa [Value.ownBlock] using hk
       subst this
       rcases hx with e | e
       ·exact h1 e
       ·exact h2 e)) (fun e => h3 (by simpa [Value.ownBlock] using e)) _
     have hOF : Own w9 B (sl L.go N L.co) N (rowN N (addF f P c x (y - x))) := by
      have h1 := HOF.out.kept HP.out.grow (.inr (fun e => HB.out.os (by simpa [Value.ownBlock] using e)))
      rw [HD.out]; exact h1
     refine ⟨?_, hob HH.out.all HB.out.ao HB.out.as_ HB.out.ba.symm, hob HH.out.places HB.out.po HB.out.ps HB.out.bp.symm, ?_, ?_, ?_, hok, HH.out.bB⟩
     ·have := HBX9.out.set_ 3 (sl g9 (c + 1) cap9)
      simpa using this
     ·have h2 := own_set hOF (p := ⟨L.b, 3, none⟩) (fun e => HB.out.bo (by simpa [Value.ownBlock] using e.symm)) (sl g9 (c + 1) cap9)
      have e : addF f P c x (y - x) = fun z => if x <= P z /\ P z < y then c else f z := by
       funext z
       unfold addF
       rw [Nat.add_sub_cancel' (Nat.le_of_lt HXY.out)]
      rw [e] at h2
      exact h2
     ·have h2 := HP.out.own
      rw [rowS_push] at h2
      exact rows_set h2 (fun e => hok.bs e.symm) _
     ·exact own_set (hF1.own HH.out.touch (fun k hk hx => by
       rcases hx with e | e
       ·subst e; exact HB.out.ot hk
       ·subst e; exact HB.out.st hk)) HB.out.bt _
    ·exact (hF1.mono (fun k _ h => by
      rcases h with e | e
      ·exact .inr (.inr (.inr (.inl e)))
      ·exact .inr (.inr (.inr (.inr (.inl e)))))).set_ (.inl (.inl rfl)) _
    ·exact hg9
end Go.Proofs.Ytdcokkgdahbinaa
namespace Go.Proofs.Ytdcokkgdahbinaa
open Go Go.RowKit Go.Proofs
def repA (n : Nat) (v : Value) : Array Value := (List.replicate n v).toArray
theorem info_int1 : (Try.prog.info? 3).map (·.size) = some 1 := by kernel_rfl
theorem wp_copy_self {dst : Option Tmp} {ty : TypeId} {pos : String} {after : Array Edge} {a : Act} {w : World} {K : Act -> World -> Prop} {Q : Exit -> Act -> World -> Prop} (d s : Operand) (g N k : Nat) (x : Value) (hx : x.oneCell' = true)
  (hd : a.eval d = .slice (some ⟨g, k, none⟩) (N - k) (N - k)) (hs : ∃ c, a.eval s = .slice (some ⟨g, 0, none⟩) k c) (hk : k <= N) (z : List Value) (hz : z.length = N - k)
  (hg : Blk w g 3 (List.replicate k x ++ z).toArray)
  (h : ∀ w', Blk w' g 3 (List.replicate (k + min k (N - k)) x ++ z.drop (min k (N - k))).toArray -> Below g w w' -> K (a.put dst (.int .i64 (min k (N - k) : Nat))) w') :
  Oper.wp Try.prog { dst, op := .call { callee := .builtin .copy, args := #[d, s], argTypes := #[22, 22] }, type := ty, pos, after, guard := none } a w K Q := by
  obtain ⟨c, hs⟩ := hs
  have hrun := run_copy_row (P := Try.prog) w 22 22 ty 3 g k (N - k) (N - k) ⟨g, 0, none⟩ k c (List.replicate k x ++ z).toArray 3 (List.replicate (min k (N - k)) x) Try.underlying22 info_int1 hg
   (by rw [List.length_replicate]) (fun j v hj => by
    obtain ⟨hj1, rfl⟩ := List.getElem?_eq_some_iff.1 hj
    rw [List.length_replicate] at hj1
    rw [Addr.add_lit, Nat.zero_add, Blk.cell hg, List.getElem_replicate]
    simp only [List.getElem?_toArray]
    rw [List.getElem?_append_left (by rw [List.length_replicate]; omega), List.getElem?_replicate, if_pos (by omega)]) (by simp; omega) (fun v hv => by rw [List.eq_of_mem_replicate hv]; exact hx)
  unfold Oper.wp
  simp only [execOp, resolve, invoke, builtin, Sem.run_bind, Sem.run_pure, Result.andThen_ok, List.map_toArray, List.map_cons, List.map_nil, hd, hs, hrun]
  have e : (List.replicate k x ++ z).toArray.toList.take k ++ List.replicate (min k (N - k)) x ++ (List.replicate k x ++ z).toArray.toList.drop (k + (List.replicate (min k (N - k)) x).length) = List.replicate (k + min k (N - k)) x ++ z.drop (min k (N - k)) := by
   simp only [List.length_replicate]
   rw [List.take_append_of_le_length (by simp), List.take_of_length_le (by simp), List.drop_append, List.length_replicate, List.drop_of_length_le (by simp), List.nil_append, Nat.add_sub_cancel_left, List.replicate_append_replicate]
  rw [e, List.length_replicate]
  refine h _ (setRow_heap w g _ _ 3 _ hg) (below_setRow (Below.refl _ _) (Nat.le_refl _) _)
theorem repeat_any (x : Int) (N : Nat) (hN : N <= 1000) (b : Nat) (w : World) (hx : w.cell? ⟨b, 0, none⟩ = some (.int .i64 x)) :
  Calls Try.prog 65 #[.slice (some ⟨b, 0, none⟩) 1 1, .int .i64 N] w fun e w' => e = .returned (.slice (some ⟨w.heap.size, 0, none⟩) N N) /\ Blk w' w.heap.size 3 (List.replicate N (Value.int .i64 x)).toArray /\ Below w.heap.size w w' := by
  have hmul : ∀ W : World, Calls Try.prog 68 #[.int .u64 1, .int .u64 N] W fun e w' => e = .returned (.tuple #[.int .u64 0, .int .u64 (N : Int)]) /\ W = w' := fun W => by
   have h1 := Try.bits_Mul 1 N (by omega) (by omega) W
   rw [show 1 * N / 18446744073709551616 = 0 by omega, show 1 * N % 18446744073709551616 = N by omega] at h1
   exact h1.mono fun e w' ⟨h2, h3⟩ => ⟨h2, h3.symm⟩
  have HM := Lib.hid hmul; clear hmul
  have hlt := World.block_lt_of_cell? w _ hx
  have n0 : (0 : Int) <= (N : Int) := Int.natCast_nonneg _
  have n1 : (N : Int) <= 1000 := by omega
  have n2 : ¬ (N : Int) < 0 := by omega
  have hmk : ∀ W : World, (Instr.makeSlice 22 (.int .i64 (N : Int)) (.int .i64 (N : Int))).run Try.prog W = .ok (.slice (some ⟨W.heap.size, 0, none⟩) N N) (W.alloc (.cells (repA N (.int .i64 0)) 3)) := fun W => by
   obtain ⟨i0, hi, hz0, hz1, hz2⟩ := info_parts info_int
   have h := run_make (P := Try.prog) W 22 3 i0 _ Try.underlying22 hi hz0 .i64 .i64 N N (by omega) (Int.le_refl _) (by rw [hz2]; omega) (by omega)
   rw [h]
   simp only [Int.toNat_natCast, hz1, Nat.mul_one]
   congr 4
   unfold repA
   apply Array.ext
   ·simp [size_madeCells]
   ·intro i h1 h2
    simp [madeCells, Value.cells, Nat.mod_one]
  have HX := Lib.hid hx; clear hx
  go_enter Try.func65, Try.ntmps65
  obtain ⟨W1, hW1⟩ : ∃ W1, w.alloc (.cells (repA N (.int .i64 0)) 3) = W1 := ⟨_, rfl⟩
  have hb1 : Below w.heap.size w W1 := by rw [<- hW1]; exact (Below.refl _ _).alloc (Nat.le_refl _) _
  have hg1 : W1.heap[w.heap.size]? = some (.cells (List.replicate N (Value.int .i64 0)).toArray 3 (0, 0)) := by rw [<- hW1]; exact Blk.new _ _ _
  obtain ⟨g, hg⟩ : ∃ g, w.heap.size = g := ⟨_, rfl⟩
  have hxc : W1.cell? ⟨b, 0, none⟩ = some (.int .i64 x) := by rw [hb1.cell (p := ⟨b, 0, none⟩) hlt]; exact HX.out
  have hmk2 := hmk w
  rw [hW1, hg] at hmk2
  rw [hg] at hg1
  have HB1 := Lib.hid hb1; have HG1 := Lib.hid hg1; have HXC := Lib.hid hxc; have HGE := Lib.hid hg
  clear hW1 hb1 hg1 hxc hmk
  have hsrc : ∀ j v, (List.replicate (min 1 N) (Value.int .i64 x))[j]? = some v -> W1.cell? ((⟨b, 0, none⟩ : Addr).add j) = some v := fun j v hj => by
   obtain ⟨hj1, rfl⟩ := List.getElem?_eq_some_iff.1 hj
   rw [List.length_replicate] at hj1
   obtain rfl : j = 0 := by omega
   rw [List.getElem_replicate]
   exact HXC.out
  obtain ⟨m, hm⟩ : ∃ m, min 1 N = m := ⟨_, rfl⟩
  have hmN : m <= N := by omega
  have hmz : N = 0 \/ 0 < m := by omega
  have hcp := run_copy_row (P := Try.prog) W1 22 22 3 3 g 0 N N ⟨b, 0, none⟩ 1 1 (List.replicate N (Value.int .i64 0)).toArray 3 (List.replicate (min 1 N) (Value.int .i64 x)) Try.underlying22 info_int1 HG1.out (by rw [List.length_replicate]) hsrc (by simp; omega) (fun v hv => by rw [List.eq_of_mem_replicate hv]; rfl)
  rw [List.length_replicate, hm] at hcp
  simp only [List.take_zero, List.nil_append, Nat.zero_add, List.drop_replicate] at hcp
  obtain ⟨W2, hW2⟩ : ∃ W2, W1.setRow g (List.replicate m (Value.int .i64 x) ++ List.replicate (N - m) (Value.int .i64 0)).toArray = W2 := ⟨_, rfl⟩
  rw [hW2] at hcp
  have hg2 : Blk W2 g 3 (List.replicate m (Value.int .i64 x) ++ List.replicate (N - m) (Value.int .i64 0)).toArray := by rw [<- hW2]; exact setRow_heap W1 g _ _ 3 _ HG1.out
  have hb2 : Below w.heap.size w W2 := by rw [<- hW2]; exact below_setRow HB1.out (by rw [HGE.out]; exact Nat.le_refl _) _
  have hcp' : (Builtin.copy_ #[22, 22] 3 #[.slice (some ⟨g, 0, none⟩) N N, .slice (some ⟨b, 0, none⟩) 1 1]).run Try.prog W1 = .ok (.int .i64 (m : Int)) W2 := hcp
  have HG2 := Lib.hid hg2; have HB2 := Lib.hid hb2; have HMZ := Lib.hid hmz
  clear hcp hW2 hg2 hb2 hsrc hmz hm
  go_wp2_with fail
  refine (HM.out _).mono ?_
  rintro e w1 ⟨rfl, rfl⟩
  go_wp2_with fail
  go_loopg [8] (N - m) (fun gk vn wr => ∃ k : Nat, vn = .int .i64 k /\ gk = N - k /\ k <= N /\ Hid (N = 0 \/ 0 < k) /\ Hid (Blk wr g 3 (List.replicate k (Value.int .i64 x) ++ List.replicate (N - k) (Value.int .i64 0)).toArray) /\ Hid (Below w.heap.size w wr))
  case atStart => exact ⟨m, rfl, by omega, hmN, HMZ, HG2, HB2⟩
  case round =>
   clear hcp' hmk2 hmN HMZ HG2 HB2 HG1 HB1 HXC
   obtain ⟨k, rfl, hgk, hk, HZ, HG, HB⟩ := hrel
   have HGK := Lib.hid hgk; clear hgk
   have k0 : (0 : Int) <= (k : Int) := Int.natCast_nonneg _
   by_cases hlt2 : k < N
   ·have k1 : (k : Int) < (N : Int) := by omega
    have hne : ¬ k = N := by omega
    have hne2 : ¬ N = k := by omega
    have hkp : 0 < k := by rcases HZ.out with h | h <;> omega
    go_wp2_with fail
    refine region_x 9 (fun _ => True) (by kernel_rfl) ?_
    have hS : True := trivial
    refine tkx (i := 0) (v := ?_) hS ?_ ?_
    rotate_left
    ·rintro w' _
     go_simp
     try with_reducible rfl
    try simp only [Act.put, zq1, zq2, zq3, zq4, zq5, zq6]
    refine tkx (i := 1) (v := ?_) hS ?_ ?_
    rotate_left
    ·rintro w' _
     go_simp
     try with_reducible rfl
    try simp only [Act.put, zq1, zq2, zq3, zq4, zq5, zq6]
    refine tkx (i := 2) (v := ?_) hS ?_ ?_
    rotate_left
    ·rintro w' _
     go_simp
     try with_reducible rfl
    try simp only [Act.put, zq1, zq2, zq3, zq4, zq5, zq6]
    refine tkx (i := 4) (v := ?_) hS ?_ ?_
    rotate_left
    ·rintro w' _
     go_simp
     try with_reducible rfl
    try simp only [Act.put, zq1, zq2, zq3, zq4, zq5, zq6]
    refine tkx (i := 5) (v := ?_) hS ?_ ?_
    rotate_left
    ·rintro w' _
     go_simp
     try with_reducible rfl
    try simp only [Act.put, zq1, zq2, zq3, zq4, zq5, zq6]
    refine tkx (i := 3) (v := .slice (some ⟨g, k, none⟩) (N - k) (N - k)) hS ?_ ?_
    ·rintro w' _
     go_simp
     try with_reducible rfl
    try simp only [Act.put, zq1, zq2, zq3, zq4, zq5, zq6]
    refine tkx (i := 6) (v := .slice (some ⟨g, 0, none⟩) k N) hS ?_ ?_
    ·rintro w' _
     go_simp
     try with_reducible rfl
    try simp only [Act.put, zq1, zq2, zq3, zq4, zq5, zq6]
    obtain ⟨j, hj⟩ : ∃ j, min k (N - k) = j := ⟨_, rfl⟩
    refine anyX_g (i := 7) (by kernel_rfl) (by decide) rfl (by rfl) ?_
    intro K hK
    try simp only [zq1, zq2, zq3]
    refine wp_copy_self (.tmp 41) (.tmp 44) g N k (.int .i64 x) rfl (by rfl) ⟨N, by rfl⟩ hk (List.replicate (N - k) (.int .i64 0)) (by simp) HG.out ?_
    intro w' hg' hb'
    rw [hj] at hg' ⊢
    refine hK _ _ trivial ?_
    clear hK
    try simp only [Act.put, zq1, zq2, zq3, zq4, zq5, zq6]
    have e1 : IntKind.i64.wrap ((k : Int) + (j : Int)) = ((k + j : Nat) : Int) := by rw [IntWalk.i64_in _ (by omega)]; omega
    refine tkx (i := 8) (v := .int .i64 (IntKind.i64.wrap ((k : Int) + (j : Int)))) hS ?_ ?_
    ·rintro w' _
     go_simp
     try with_reducible rfl
    try simp only [Act.put, zq1, zq2, zq3, zq4, zq5, zq6]
    rw [e1]
    rw [List.drop_replicate, show N - k - j = N - (k + j) by omega] at hg'
    have HG' := Lib.hid hg'; have HB' := Lib.hid (HB.out.drew.trans (hb'.mono (Nat.le_of_eq HGE.out)))
    have hjk : 0 < j /\ k + j <= N := by omega
    clear e1 hg' hb' hj hS hne hne2
    refine anyX_last (by kernel_rfl) (by kernel_rfl) rfl rfl ?_
    try simp only [zq1, zq2, zq3]
    go_simp
    try apply_assumption
    go_wp2_with fail
    go_roundg (N - (k + j))
    case measure => have := HGK.out; omega
    case rel => exact ⟨k + j, rfl, rfl, hjk.2, Lib.hid (.inr (by omega)), HG', HB'⟩
   ·obtain rfl : k = N := by omega
    go_wp2_with fail
    go_ret
    refine ⟨congrArg (fun g' : Nat => Ending.returned (.slice (some ⟨g', 0, none⟩) k k)) HGE.out.symm, ?_, HB.out⟩
    have h := HG.out
    rw [Nat.sub_self, List.replicate_zero, List.append_nil] at h
    rw [HGE.out]
    exact h
theorem noneOf_any (N : Nat) (hN : N <= 1000) (w : World) :
  Calls Try.prog 51 #[.int .i64 (N : Int)] w fun e w' => ∃ g, e = .returned (sl g N N) /\ w.heap.size <= g /\ Own w' w.heap.size (sl g N N) N (List.replicate N (-1)) /\ Below w.heap.size w w' := by
  have HR := Lib.hid (fun (W : World) (b : Nat) (h : W.cell? ⟨b, 0, none⟩ = some (.int .i64 (-1))) => repeat_any (-1) N hN b W h)
  go_enter Try.func51, Try.ntmps51
  go_wp2_with fail
  refine (HR.out _ _ (new1 _ _ _)).mono ?_
  rintro e w1 ⟨rfl, hg, hb⟩
  have hz : (w.alloc (.cells #[.int .i64 (-1)] 3)).heap.size = w.heap.size + 1 := by simp
  rw [hz] at hg hb ⊢
  have HG := Lib.hid hg; have HB := Lib.hid ((Below.refl w.heap.size w).alloc (Nat.le_refl _) (.cells #[.int .i64 (-1)] 3) |>.trans (hb.mono (Nat.le_succ _)))
  clear hg hb
  go_wp2_with fail
  go_ret
  refine ⟨_, rfl, Nat.le_succ _, ?_, HB.out⟩
  refine ⟨by simp, .inr ⟨w.heap.size + 1, N, _, rfl, Nat.le_succ _, HG.out, Nat.le_refl _, by unfold maxLen; omega, by simp, ?_⟩⟩
  simp
end Go.Proofs.Ytdcokkgdahbinaa
