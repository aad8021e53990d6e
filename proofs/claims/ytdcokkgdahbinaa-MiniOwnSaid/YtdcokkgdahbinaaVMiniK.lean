/- net.alike. -/
import Derived.Test.YtdcokkgdahbinaaVMiniJ
set_option linter.unusedVariables false
set_option linter.unusedSimpArgs false
set_option maxRecDepth 100000
set_option maxHeartbeats 8000000
namespace Go.Proofs.Ytdcokkgdahbinaa
open Go Go.RowKit Go.Proofs
theorem region_xr {P : Program} {ops : Array Oper} {Q : Exit -> Act -> World -> Prop} {π : Type} {id : Nat} {a : Act} {w : World} (m : Nat) (S : World -> Prop) (mkL mkE : π -> Act -> Act) (F Pre : π -> World -> Prop) (fuel : Nat) (L : Array Bool) (hm : P.follows .mixedOrders = true)
  (hleaf : ∀ p W, Pre p W -> anyX P .any ops (Ends_ mkE F a Q) S m fuel L (mkL p a) W)
  (h : (∀ p W, Pre p W -> anyX P .any ops (Ends_ mkE F a Q) S m fuel L (mkL p a) W) -> anyX P .any ops (Ends_ mkE F a Q) S m ops.size (Array.replicate ops.size false) a w.drew) (hR : ∀ p w', F p w' -> Q .normal (mkE p a) w') : (Code.region id ops true).wp P Q a w :=
  region_xp m S mkE F hm (h hleaf) hR
theorem WayL.form {w : World} {B n k : Nat} {T : List (List Nat)} {v : Value} {gl : List (Nat × Nat)} (h : WayL w B n T v k gl) : ∃ A c, v = .slice A k c := by
 obtain ⟨a, c, e, _⟩ := (h.row.reads (encW_len n) (by omega)).form
 exact ⟨a, c, e⟩
theorem WayL.keepT {w w' : World} {X : Nat -> Prop} {B n k p : Nat} {T : List (List Nat)} {v : Value} {gl : List (Nat × Nat)} {cs : Array Value} (h : WayL w B n T v k gl) (hf : Fr X w w') (hX : ∀ q, B <= q -> q < w.heap.size -> X q -> q = p) (hp : Blk w p 87 cs) : WayL w' B n T v k gl :=
 ⟨hf.rows h.row (fun j hj hx => by
   have e := hX j (h.row.lt j hj).1 (h.row.lt j hj).2 hx
   subst e
   exact blk_ne hp h.row (by decide) hj), h.len,
   fun i hi => hf.own (h.last i hi) (fun j hj hx => by
    have e := hX j ((h.last i hi).lt j hj).1 ((h.last i hi).lt j hj).2 hx
    subst e
    exact blk_ne hp (h.last i hi) (by decide) hj),
   fun i hi => hf.own (h.other i hi) (fun j hj hx => by
    have e := hX j ((h.other i hi).lt j hj).1 ((h.other i hi).lt j hj).2 hx
    subst e
    exact blk_ne hp (h.other i hi) (by decide) hj)⟩
structure PA where
 p : Nat
 ga : Nat
 ca : Nat
 gp : Nat
 cp : Nat
 go : Nat
 gs : Nat
 Bw : Nat
 wA : Option Addr
 wc : Nat
 gl : List (Nat × Nat)
structure AkAt (w1 wr : World) (B Bw H p n : Nat) (X : Nat -> Prop) (L : Lay) (A P f fr to mk : Nat -> Nat) (c : Nat) (Tl : List Nat) (M : Nat -> Prop) : Prop where
 pt : PtAt wr B L n A P f fr to mk c Tl
 good : GoodN n A P f fr to mk c M Tl
 b : L.b = p
 fr_ : Fr X w1 wr
 bel : Below B w1 wr
 lo : ∀ k, L.has k -> k < w1.heap.size -> X k
 way : ∀ k, L.has k -> k < H -> k < Bw \/ k = p
 bB : B <= w1.heap.size
 hH : H <= w1.heap.size
section
variable {w1 wr w' : World} {B Bw H p n c : Nat} {X : Nat -> Prop} {L : Lay} {A P f fr to mk : Nat -> Nat} {Tl : List Nat} {M : Nat -> Prop}
theorem AkAt.below (h : AkAt w1 wr B Bw H p n X L A P f fr to mk c Tl M) (hb : Below wr.heap.size wr w') : AkAt w1 w' B Bw H p n X L A P f fr to mk c Tl M :=
 ⟨h.pt.bel hb, h.good, h.b, h.fr_.trans (Fr.of_below hb), h.bel.trans (hb.mono (Nat.le_trans h.bB h.bel.size)), h.lo, h.way, h.bB, h.hH⟩
theorem AkAt.base (h : AkAt w1 wr B Bw H p n X L A P f fr to mk c Tl M) : AkAt wr wr B Bw H p n L.has L A P f fr to mk c Tl M :=
 ⟨h.pt, h.good, h.b, Fr.refl _ _, Below.refl _ _, fun _ hk _ => hk, h.way, Nat.le_trans h.bB h.bel.size, Nat.le_trans h.hH h.fr_.size⟩
theorem AkAt.trans {L' : Lay} {A' P' f' fr' to' mk' : Nat -> Nat} {c' : Nat} {Tl' : List Nat} {M' : Nat -> Prop} (h : AkAt w1 wr B Bw H p n X L A P f fr to mk c Tl M) (h' : AkAt wr w' B Bw H p n L.has L' A' P' f' fr' to' mk' c' Tl' M') : AkAt w1 w' B Bw H p n X L' A' P' f' fr' to' mk' c' Tl' M' :=
 ⟨h'.pt, h'.good, h'.b, h.fr_.then_ h'.fr_ (fun k hk hx => h.lo k hx hk), h.bel.trans h'.bel, fun k hk hlt => h.lo k (h'.lo k hk (Nat.lt_of_lt_of_le hlt h.fr_.size)) hlt, h'.way, h.bB, h.hH⟩
theorem AkAt.mark (h : AkAt w1 wr B Bw H p n X L A P f fr to mk c Tl M) {ms : List Nat} (hm : MkInv wr B L n f fr to c M w' ms) : ∃ L' A' P' mk' Tl', AkAt w1 w' B Bw H p n X L' A' P' f fr to mk' c Tl' (fun x => M x \/ x ∈ ms) := by
 obtain ⟨A', P', mk', Tl', tv, tn, h1, h2, h3, h4⟩ := hm
 have hlow := h.pt.low
 have hsub : ∀ k, ({ L with tv := tv, tn := tn } : Lay).has k -> k < wr.heap.size -> L.has k := fun k hk hlt => by
  rcases hk with e | e | e | e | e | e
  ·exact .inl e
  ·exact .inr (.inl e)
  ·exact .inr (.inr (.inl e))
  ·exact .inr (.inr (.inr (.inl e)))
  ·exact .inr (.inr (.inr (.inr (.inl e))))
  ·have e' : tv.ownBlock = some k := e
   rcases h4 with r | ⟨k', r, r2⟩
   ·exact .inr (.inr (.inr (.inr (.inr (by rw [<- r]; exact e')))))
   ·rw [r] at e'
    have e2 : k' = k := by simpa using e'
    omega
 have hsz := h.fr_.size
 have hH := h.hH
 exact ⟨_, A', P', mk', Tl', h1, h2, h.b, h.fr_.then_ h3 (fun k hk hx => h.lo k hx hk), h.bel.trans (h3.below (Nat.le_trans h.bB h.bel.size) (fun k hk hx => by have := (hlow k hx).1; omega)), fun k hk hlt => h.lo k (hsub k hk (by omega)) hlt, fun k hk hlt => h.way k (hsub k hk (by omega)) hlt, h.bB, h.hH⟩
theorem AkAt.split (h : AkAt w1 wr B Bw H p n X L A P f fr to mk c Tl M) {L' : Lay} {f' fr' to' mk' : Nat -> Nat} {c' : Nat} (h1 : L'.b = L.b) (h2 : PtAt w' B L' n A P f' fr' to' mk' c' []) (h3 : GoodN n A P f' fr' to' mk' c' (fun _ => False) []) (h4 : Fr L.has wr w') (h5 : ∀ k, k < wr.heap.size -> L'.has k -> L.has k) :
  AkAt w1 w' B Bw H p n X L' A P f' fr' to' mk' c' [] (fun _ => False) := by
  have hlow := h.pt.low
  have hsz := h.fr_.size
  have hH := h.hH
  exact ⟨h2, h3, h1.trans h.b, h.fr_.then_ h4 (fun k hk hx => h.lo k hx hk), h.bel.trans (h4.below (Nat.le_trans h.bB h.bel.size) (fun k hk hx => by have := (hlow k hx).1; omega)), fun k hk hlt => h.lo k (h5 k (by omega) hk) hlt, fun k hk hlt => h.way k (h5 k (by omega) hk) hlt, h.bB, h.hH⟩
theorem AkAt.congrM {M' : Nat -> Prop} (h : AkAt w1 wr B Bw H p n X L A P f fr to mk c Tl M) (hM : ∀ x, x < n -> (M x ↔ M' x)) : AkAt w1 wr B Bw H p n X L A P f fr to mk c Tl M' :=
 ⟨h.pt, h.good.congrM hM, h.b, h.fr_, h.bel, h.lo, h.way, h.bB, h.hH⟩
theorem WayL.at_ {w : World} {B n k wc : Nat} {T : List (List Nat)} {wA : Option Addr} {gl : List (Nat × Nat)} (h : WayL w B n T (.slice wA k wc) k gl) {a : Nat} (ha : a < k) :
  ∃ wg g1 g2, wA = some ⟨wg, 0, none⟩ /\ k <= wc /\ wc <= 9223372036854775807 /\ Own w B (sl g1 n n) n (lastL n (fun s => trN T s a) n) /\ Own w B (sl g2 n n) n (otherL n (fun s => trN T s a) n) /\ w.cell? ⟨wg, a * 2, none⟩ = some (sl g1 n n) /\ w.cell? ⟨wg, a * 2 + 1, none⟩ = some (sl g2 n n) /\ gl[a]? = some (g1, g2) := by
  have hal : a < gl.length := by rw [h.len]; exact ha
  rcases h.row.form (encW_len n) (by omega) with ⟨_, e, _⟩ | ⟨g, cap, e, _, _, q1, q2, hc⟩
  ·omega
  ·simp only [Value.slice.injEq, true_and] at e
   obtain ⟨rfl, rfl⟩ := e
   have h0 := hc a (gl[a]) (List.getElem?_eq_getElem hal) 0 _ rfl
   have h1 := hc a (gl[a]) (List.getElem?_eq_getElem hal) 1 _ rfl
   rw [Nat.zero_add] at h0 h1
   unfold maxLen at q2
   exact ⟨g, _, _, rfl, q1, q2, h.last a hal, h.other a hal, h0, h1, List.getElem?_eq_getElem hal⟩
structure WayU (w : World) (Bw H n : Nat) (T : List (List Nat)) (v : Value) (k : Nat) (gl : List (Nat × Nat)) : Prop where
 l : WayL w Bw n T v k gl
 hi : ∀ j, v.ownBlock = some j -> j < H
 his : ∀ i (h : i < gl.length), (gl[i]).1 < H /\ (gl[i]).2 < H
theorem WayU.keep {w w' : World} {Y : Nat -> Prop} {k : Nat} {T : List (List Nat)} {v : Value} {gl : List (Nat × Nat)} {cs : Array Value} (h : WayU w Bw H n T v k gl) (hf : Fr Y w w') (hY : ∀ q, Y q -> q < H -> q < Bw \/ q = p) (hp : Blk w p 87 cs) : WayU w' Bw H n T v k gl := by
 have h1 := h.hi; have h2 := h.his
 refine ⟨⟨hf.rows h.l.row (fun j hj hx => ?_), h.l.len, fun i hi => hf.own (h.l.last i hi) (fun j hj hx => ?_), fun i hi => hf.own (h.l.other i hi) (fun j hj hx => ?_)⟩, h1, h2⟩
 ·rcases hY j hx (h1 j hj) with e | e
  ·have := (h.l.row.lt j hj).1; omega
  ·subst e; exact blk_ne hp h.l.row (by decide) hj
 ·have e0 : (gl[i]).1 = j := by simpa [Value.ownBlock] using hj
  rcases hY j hx (by rw [<- e0]; exact (h2 i hi).1) with e | e
  ·have := ((h.l.last i hi).lt j hj).1; omega
  ·subst e; exact blk_ne hp (h.l.last i hi) (by decide) hj
 ·have e0 : (gl[i]).2 = j := by simpa [Value.ownBlock] using hj
  rcases hY j hx (by rw [<- e0]; exact (h2 i hi).2) with e | e
  ·have := ((h.l.other i hi).lt j hj).1; omega
  ·subst e; exact blk_ne hp (h.l.other i hi) (by decide) hj
theorem AkAt.ways (h : AkAt w1 wr B Bw H p n X L A P f fr to mk c Tl M) {k : Nat} {T : List (List Nat)} {v : Value} {gl : List (Nat × Nat)} {cs : Array Value} (hw : WayU w1 Bw H n T v k gl) (hX : ∀ q, X q -> q < H -> q < Bw \/ q = p) (hp : Blk w1 p 87 cs) : WayU wr Bw H n T v k gl := hw.keep h.fr_ hX hp
theorem memL_nodup (h : GoodN n A P f fr to mk c M Tl) {q : Nat} (hq : q < c) : (memL A (fr q) (to q)).Nodup := by
 obtain ⟨s1, s2, s3⟩ := h.span q hq
 refine List.pairwise_iff_getElem.2 fun i j hi hj hij e => ?_
 have hi' : i < to q - fr q := by simpa [memL] using hi
 have hj' : j < to q - fr q := by simpa [memL] using hj
 simp only [memL, List.getElem_map, List.getElem_range] at e
 have e1 := (h.ap (fr q + i) (by omega)).2
 have e2 := (h.ap (fr q + j) (by omega)).2
 rw [e] at e1
 omega
theorem SplitN.congrM {n c c' : Nat} {f f' : Nat -> Nat} {M M' : Nat -> Prop} (h : SplitN n f c M f' c') (hM : ∀ x, x < n -> (M x ↔ M' x)) : SplitN n f c M' f' c' :=
 ⟨h.le, h.parted, fun x y hx hy => by rw [h.same x y hx hy, hM x hx, hM y hy], h.old⟩
end
theorem s12 {W : World} {p nb : Nat} {x : Value} {v0 v1 v2 v3 v4 : Value} (h : W.cell? ⟨nb, 0, none⟩ = some x) (hp : p ≠ nb) :
  (((((W.setCell ⟨p, 0, none⟩ v0).setCell ⟨p, 1, none⟩ v1).setCell ⟨p, 2, none⟩ v2).setCell ⟨p, 3, none⟩ v3).setCell ⟨p, 4, none⟩ v4).cell? ⟨nb, 0, none⟩ = some x := by
  have hf : Fr (fun q => q = p) W (((((W.setCell ⟨p, 0, none⟩ v0).setCell ⟨p, 1, none⟩ v1).setCell ⟨p, 2, none⟩ v2).setCell ⟨p, 3, none⟩ v3).setCell ⟨p, 4, none⟩ v4) :=
   (((((Fr.refl (fun q => q = p) W).set_ (p := ⟨p, 0, none⟩) (.inl rfl) _).set_ (p := ⟨p, 1, none⟩) (.inl rfl) _).set_ (p := ⟨p, 2, none⟩) (.inl rfl) _).set_ (p := ⟨p, 3, none⟩) (.inl rfl) _).set_ (p := ⟨p, 4, none⟩) (.inl rfl) _
  exact hf.cell h (fun e => hp e.symm)
theorem alike_any {α : Type} {g : Nat -> α} {w : World} {NA GA : Option Addr} {nc gc n k m : Nat} {T Gs : List (List Nat)} (h : NextR w (.slice NA n nc) T) (hl : T.length = n) (hT : RectN T k) (hn : n <= 1000) (hk : k <= 1000)
  (hg : NextR w (.slice GA m gc) Gs) (hgl : Gs.length = m) (hm : m <= 1000) (hgn : ∀ i, i < m -> (Gs.getD i []).Nodup /\ ∀ x ∈ Gs.getD i [], x < n) (hgo : GroupsOf n g Gs) :
  Calls Try.prog 50 #[.agg #[.slice NA n nc], .slice GA m gc] w fun e w' => ∃ ga ca gp cp go co gs cs TA tn tc c f, e = .returned (.agg #[sl ga n ca, sl gp n cp, sl go n co, sl gs c cs, .slice TA tn tc]) /\ Own w' w.heap.size (sl go n co) n (rowN n f) /\
   (∀ x y, x < n -> y < n -> (f x = f y ↔ AlikeN T k g x y)) /\ Parted n f c /\ Below w.heap.size w w' := by
  have hpos : 0 < n := by have := hT.pos; omega
  obtain ⟨W0, hW0⟩ : ∃ W0, (w.alloc (.cells #[.slice NA n nc] 57)).alloc (.cells #[.slice none 0 0, .slice none 0 0, .slice none 0 0, .slice none 0 0, .slice none 0 0] 87) = W0 := ⟨_, rfl⟩
  have hb0 : Below w.heap.size w W0 := by rw [<- hW0]; exact ((Below.refl _ _).alloc (Nat.le_refl _) _).alloc (by simp) _
  have hx0 : Blk W0 w.heap.size 57 #[.slice NA n nc] := by rw [<- hW0]; exact (Blk.new _ _ _).alloc _
  have hx1 : Blk W0 (w.heap.size + 1) 87 #[.slice none 0 0, .slice none 0 0, .slice none 0 0, .slice none 0 0, .slice none 0 0] := by
   rw [<- hW0]
   have := Blk.new (w.alloc (.cells #[.slice NA n nc] 57)) 87 #[.slice none 0 0, .slice none 0 0, .slice none 0 0, .slice none 0 0, .slice none 0 0]
   rwa [World.size_alloc] at this
  have hz0 : W0.heap.size = w.heap.size + 2 := by rw [<- hW0]; simp
  obtain ⟨nb, hnb⟩ : ∃ nb, nb = w.heap.size := ⟨_, rfl⟩
  rw [<- hnb] at hx0 hx1
  have HNR := Lib.hid (h.below hb0); have HGR := Lib.hid (hg.below hb0); have HT := Lib.hid hT; have HX0 := Lib.hid hx0; have HX1 := Lib.hid hx1; have HB0 := Lib.hid hb0; have HW0 := Lib.hid hW0; have HZ0 := Lib.hid hz0; have HNB := Lib.hid hnb
  have HGN := Lib.hid hgn; have HGO := Lib.hid hgo
  have HKS : Hid (∀ W : World, Below W0.heap.size W0 W -> (fun w' : World => w'.cell? ⟨nb, 0, none⟩ = some (.slice NA n nc)) W) := Lib.hid (fun W hW => by
   have h0 := (Blk.below hx0 hW hx0.lt).cell 0
   simpa using h0)
  have hnb2 : nb < W0.heap.size := hx0.lt
  have h0N := h
  have h0G := hg
  have HB0w : Below w.heap.size w W0 := hb0
  clear h hg hT hx0 hx1 hb0 hW0 hz0 hgn hgo
  go_enter Try.func50, Try.ntmps50
  go_wp2_with fail
  rw [HW0.out]
  rw [<- hnb]
  clear hnb
  refine region_xr (π := PA) 7 (fun w' : World => w'.cell? ⟨nb, 0, none⟩ = some (.slice NA n nc)) (fun (p : PA) (a : Act) => ((((((a.put (some 16) (.agg #[.slice NA n nc])).put (some 17) (.int .i64 (n : Int))).put (some 18) (.agg #[sl p.ga n p.ca, sl p.gp n p.cp, sl p.go n n, sl p.gs 1 1, .slice none 0 0])).put (some 19) (.agg #[.slice NA n nc])).put (some 20) (.slice p.wA k p.wc)).put (some 5) (.pointer (some ⟨p.p, 0, none⟩)))) (fun (p : PA) (a : Act) => (((((((a.put (some 16) (.agg #[.slice NA n nc])).put (some 17) (.int .i64 (n : Int))).put (some 18) (.agg #[sl p.ga n p.ca, sl p.gp n p.cp, sl p.go n n, sl p.gs 1 1, .slice none 0 0])).put (some 19) (.agg #[.slice NA n nc])).put (some 20) (.slice p.wA k p.wc)).put (some 5) (.pointer (some ⟨p.p, 0, none⟩))).put (some 6) (.slice p.wA k p.wc))) (fun (p : PA) (W : World) => (Below W0.heap.size W0 W /\ Own W W0.heap.size (sl p.ga n p.ca) n (rowN n id) /\ Own W W0.heap.size (sl p.gp n p.cp) n (rowN n id) /\ Own W W0.heap.size (sl p.go n n) n (rowN n fun _ => 0) /\ OwnE encS 113 3 W W0.heap.size (sl p.gs 1 1) 1 (rowS 1 (fun _ => 0) (fun _ => n) (fun _ => 0)) /\ (p.ga ≠ p.gp /\ p.ga ≠ p.go /\ p.ga ≠ p.gs /\ p.gp ≠ p.go /\ p.gp ≠ p.gs /\ p.go ≠ p.gs) /\ (p.ga < p.Bw /\ p.gp < p.Bw /\ p.go < p.Bw /\ p.gs < p.Bw) /\ W0.heap.size <= p.Bw /\ WayL W p.Bw n T (.slice p.wA k p.wc) k p.gl /\ W0.heap.size <= p.p) /\ Blk W p.p 87 #[sl p.ga n p.ca, sl p.gp n p.cp, sl p.go n n, sl p.gs 1 1, .slice none 0 0]) (fun (p : PA) (W : World) => (Below W0.heap.size W0 W /\ Own W W0.heap.size (sl p.ga n p.ca) n (rowN n id) /\ Own W W0.heap.size (sl p.gp n p.cp) n (rowN n id) /\ Own W W0.heap.size (sl p.go n n) n (rowN n fun _ => 0) /\ OwnE encS 113 3 W W0.heap.size (sl p.gs 1 1) 1 (rowS 1 (fun _ => 0) (fun _ => n) (fun _ => 0)) /\ (p.ga ≠ p.gp /\ p.ga ≠ p.go /\ p.ga ≠ p.gs /\ p.gp ≠ p.go /\ p.gp ≠ p.gs /\ p.go ≠ p.gs) /\ (p.ga < p.Bw /\ p.gp < p.Bw /\ p.go < p.Bw /\ p.gs < p.Bw) /\ W0.heap.size <= p.Bw /\ WayL W p.Bw n T (.slice p.wA k p.wc) k p.gl /\ W0.heap.size <= p.p) /\ Blk W p.p 87 #[.slice none 0 0, .slice none 0 0, .slice none 0 0, .slice none 0 0, .slice none 0 0] /\ (W.cell? ⟨nb, 0, none⟩ = some (.slice NA n nc))) 2 #[true, true, true, true, true, true, false, false] (by kernel_rfl) ?_ ?_ ?_
  ·clear HKS
   rintro ⟨p, ga, ca, gp, cp, go, gs, Bw, wA, wc, gl⟩ W ⟨⟨h1, h2, h3, h4, h5, h6, h7, h8, h9, h10⟩, h11, h12⟩
   dsimp only at h1 h2 h3 h4 h5 h6 h7 h8 h9 h10 h11 ⊢
   try simp only [Act.put, zq1, zq2, zq3, zq4, zq5, zq6]
   have r0 := Blk.cell h11 0; have f0 := Blk.frozen h11 0
   have r1 := Blk.cell h11 1; have f1 := Blk.frozen h11 1
   have r2 := Blk.cell h11 2; have f2 := Blk.frozen h11 2
   have r3 := Blk.cell h11 3; have f3 := Blk.frozen h11 3
   have r4 := Blk.cell h11 4; have f4 := Blk.frozen h11 4
   simp only [List.getElem?_toArray, List.getElem?_cons_zero, List.getElem?_cons_succ] at r0 r1 r2 r3 r4
   have H1 := Lib.hid h1
   have H2 := Lib.hid h2
   have H3 := Lib.hid h3
   have H4 := Lib.hid h4
   have H5 := Lib.hid h5
   have H6 := Lib.hid h6
   have H7 := Lib.hid h7
   have H8 := Lib.hid h8
   have H9 := Lib.hid h9
   have H10 := Lib.hid h10
   have H11 := Lib.hid h11
   have H12 := Lib.hid h12
   clear h1 h2 h3 h4 h5 h6 h7 h8 h9 h10 h11 h12
   have hpn : p ≠ nb := by have := H10.out; omega
   skip
   refine anyX_g (i := 6) (by kernel_rfl) (by decide) rfl (by rfl) ?_
   intro K hK
   try simp only [zq1, zq2, zq3]
   go_simp
   refine hK _ _ (s12 H12.out hpn) ?_
   clear hK
   try simp only [Act.put, zq1, zq2, zq3, zq4, zq5, zq6]
   refine anyX_last (by kernel_rfl) (by kernel_rfl) rfl rfl ?_
   try simp only [zq1, zq2, zq3]
   go_simp
   refine .inl ⟨⟨p, ga, ca, gp, cp, go, gs, Bw, wA, wc, gl⟩, rfl, ?_, ?_⟩
   ·dsimp only
    simp only [Act.put, zq1, zq2, zq3, zq4, zq5, zq6]
   have hI : ∀ {g c m : Nat} {l : List Int}, Own W W0.heap.size (sl g m c) m l -> (sl g m c).ownBlock ≠ some p := fun {g c m l} ho => blk_ne H11.out ho (by decide)
   have kI : ∀ {g c m : Nat} {l : List Int}, Own W W0.heap.size (sl g m c) m l -> Own ((((((W).setCell ⟨p, 0, none⟩ (sl ga n ca)).setCell ⟨p, 1, none⟩ (sl gp n cp)).setCell ⟨p, 2, none⟩ (sl go n n)).setCell ⟨p, 3, none⟩ (sl gs 1 1)).setCell ⟨p, 4, none⟩ (.slice none 0 0)) W0.heap.size (sl g m c) m l := fun {g c m l} ho => (own_set (own_set (own_set (own_set (own_set ho (p := ⟨p, 0, none⟩) (hI ho) _) (p := ⟨p, 1, none⟩) (hI ho) _) (p := ⟨p, 2, none⟩) (hI ho) _) (p := ⟨p, 3, none⟩) (hI ho) _) (p := ⟨p, 4, none⟩) (hI ho) _)
   have hS : (sl gs 1 1).ownBlock ≠ some p := blk_ne H11.out H5.out (by decide)
   have hfr : Fr (fun q => q = p) W ((((((W).setCell ⟨p, 0, none⟩ (sl ga n ca)).setCell ⟨p, 1, none⟩ (sl gp n cp)).setCell ⟨p, 2, none⟩ (sl go n n)).setCell ⟨p, 3, none⟩ (sl gs 1 1)).setCell ⟨p, 4, none⟩ (.slice none 0 0)) := ((((((Fr.refl (fun q => q = p) W).set_ (p := ⟨p, 0, none⟩) (.inl rfl) _).set_ (p := ⟨p, 1, none⟩) (.inl rfl) _).set_ (p := ⟨p, 2, none⟩) (.inl rfl) _).set_ (p := ⟨p, 3, none⟩) (.inl rfl) _).set_ (p := ⟨p, 4, none⟩) (.inl rfl) _)
   refine ⟨⟨H1.out.trans (hfr.below H1.out.size (fun q hq e => by have := H10.out; omega)), kI H2.out, kI H3.out, kI H4.out, hfr.rows H5.out (fun j hj e => hS (by rw [hj, e])), H6.out, H7.out, H8.out, H9.out.keepT hfr (fun q _ _ hq => hq) H11.out, H10.out⟩, ?_⟩
   have := (((((H11.out.set_ 0 (sl ga n ca)).set_ 1 (sl gp n cp)).set_ 2 (sl go n n)).set_ 3 (sl gs 1 1)).set_ 4 (.slice none 0 0))
   simpa using this
  ·intro HLF
   have hb : Below W0.heap.size W0 W0.drew := (Below.refl _ _).drew
   have hS := HKS.out _ hb
   generalize W0.drew = V0 at *
   refine tkx (i := 0) (v := ?_) hS ?_ ?_ (hQ := by exact ends_panic _ _ (fun _ _ _ h => h))
   rotate_left
   ·rintro w' s0
    go_simp
    try with_reducible rfl
   try simp only [Act.put, zq1, zq2, zq3, zq4, zq5, zq6]
   refine tkx (i := 3) (v := ?_) hS ?_ ?_ (hQ := by exact ends_panic _ _ (fun _ _ _ h => h))
   rotate_left
   ·rintro w' s0
    go_simp
    try with_reducible rfl
   try simp only [Act.put, zq1, zq2, zq3, zq4, zq5, zq6]
   refine anyX_2 (i := 1) (j := 5) (by kernel_rfl) (by decide) (by decide) rfl rfl rfl rfl ?_ ?_
   ·intro K hK
    try simp only [zq1, zq2, zq3]
    refine wp_enterE #[.agg #[.slice NA n nc]] Try.func48 (by kernel_rfl) (by kernel_rfl) ?_ (size_any NA n nc V0) ?_
    ·go_simp
    rintro e V1 ⟨rfl, hbn⟩
    refine ⟨_, rfl, ?_⟩
    replace hb := hb.trans (hbn.mono hb.size)
    clear hbn
    have hS := HKS.out _ hb
    refine hK _ _ hS ?_
    clear hK
    try simp only [Act.put, zq1, zq2, zq3, zq4, zq5, zq6]
    refine anyX_2 (i := 2) (j := 5) (by kernel_rfl) (by decide) (by decide) rfl rfl rfl rfl ?_ ?_
    ·intro K hK
     try simp only [zq1, zq2, zq3]
     refine wp_enterE #[.int .i64 (n : Int)] Try.func60 (by kernel_rfl) (by kernel_rfl) ?_ (newParts_any n hn hpos V1) ?_
     ·go_simp
     rintro e V2 ⟨ga, ca, gp, cp, go, gs, rfl, ho1, ho2, ho3, ho4, ne1, ne2, ne3, ne4, ne5, ne6, hbn⟩
     refine ⟨_, rfl, ?_⟩
     replace ho1 := ho1.more hb.size; replace ho2 := ho2.more hb.size; replace ho3 := ho3.more hb.size; replace ho4 := OwnE.more ho4 hb.size
     replace hb := hb.trans (hbn.mono hb.size)
     clear hbn
     have hS := HKS.out _ hb
     refine hK _ _ hS ?_
     clear hK
     try simp only [Act.put, zq1, zq2, zq3, zq4, zq5, zq6]
     refine anyX_2 (i := 4) (j := 5) (by kernel_rfl) (by decide) (by decide) rfl rfl rfl rfl ?_ ?_
     ·intro K hK
      try simp only [zq1, zq2, zq3]
      refine wp_enterE #[.agg #[.slice NA n nc]] Try.func61 (by kernel_rfl) (by kernel_rfl) ?_ (ways_any (HNR.out.below hb) hl HT.out hn hk) ?_
      ·go_simp
      rintro e V3 ⟨wv, gl, rfl, hw, hbn⟩
      refine ⟨_, rfl, ?_⟩
      obtain ⟨wA, wc, rfl⟩ := hw.form
      have hlo := And.intro (ho1.lt ga rfl).2 (And.intro (ho2.lt gp rfl).2 (And.intro (ho3.lt go rfl).2 (ho4.lt gs rfl).2))
      have hlb := hb.size
      obtain ⟨Bw, hBw⟩ : ∃ b, b = V2.heap.size := ⟨_, rfl⟩
      rw [<- hBw] at hw hlo hlb
      clear hBw
      replace ho1 := ho1.below_top hbn
      replace ho2 := ho2.below_top hbn
      replace ho3 := ho3.below_top hbn
      replace ho4 := OwnE.below_top ho4 hbn
      replace hb := hb.trans (hbn.mono hb.size)
      clear hbn
      have hS := HKS.out _ hb
      refine hK _ _ hS ?_
      clear hK
      try simp only [Act.put, zq1, zq2, zq3, zq4, zq5, zq6]
      refine anyX_g (i := 5) (by kernel_rfl) (by decide) rfl (by rfl) ?_
      intro K hK
      try simp only [zq1, zq2, zq3]
      go_simp
      obtain ⟨V4, eV⟩ : ∃ W', V3.alloc (.cells #[.slice none 0 0, .slice none 0 0, .slice none 0 0, .slice none 0 0, .slice none 0 0] 87) = W' := ⟨_, rfl⟩
      have hbn : Below V3.heap.size V3 V4 := by rw [<- eV]; exact (Below.refl _ _).alloc (Nat.le_refl _) _
      have xp : Blk V4 V3.heap.size 87 #[.slice none 0 0, .slice none 0 0, .slice none 0 0, .slice none 0 0, .slice none 0 0] := by rw [<- eV]; exact Blk.new _ _ _
      have hlep5 := hb.size
      rw [eV]
      clear eV
      replace ho1 := ho1.below_top hbn
      replace ho2 := ho2.below_top hbn
      replace ho3 := ho3.below_top hbn
      replace ho4 := OwnE.below_top ho4 hbn
      replace hw := hw.bel hbn
      replace hb := hb.trans (hbn.mono hb.size)
      clear hbn
      obtain ⟨p5, hp⟩ : ∃ p, p = V3.heap.size := ⟨_, rfl⟩
      rw [<- hp] at xp hlep5 ⊢
      clear hp
      have hS := HKS.out _ hb
      refine hK _ _ hS ?_
      clear hK
      try simp only [Act.put, zq1, zq2, zq3, zq4, zq5, zq6]
      have hlf := HLF ⟨p5, ga, ca, gp, cp, go, gs, Bw, wA, wc, gl⟩ _ ⟨⟨hb, ho1, ho2, ho3, ho4, ⟨ne1, ne2, ne3, ne4, ne5, ne6⟩, hlo, hlb, hw, hlep5⟩, xp, hS⟩
      dsimp only at hlf
      simp only [Act.put, zq1, zq2, zq3, zq4, zq5, zq6] at hlf
      exact hlf
     ·intro K hK
      try simp only [zq1, zq2, zq3]
      go_simp
      obtain ⟨V3, eV⟩ : ∃ W', V2.alloc (.cells #[.slice none 0 0, .slice none 0 0, .slice none 0 0, .slice none 0 0, .slice none 0 0] 87) = W' := ⟨_, rfl⟩
      have hbn : Below V2.heap.size V2 V3 := by rw [<- eV]; exact (Below.refl _ _).alloc (Nat.le_refl _) _
      have xp : Blk V3 V2.heap.size 87 #[.slice none 0 0, .slice none 0 0, .slice none 0 0, .slice none 0 0, .slice none 0 0] := by rw [<- eV]; exact Blk.new _ _ _
      have hlep5 := hb.size
      rw [eV]
      clear eV
      replace ho1 := ho1.below_top hbn
      replace ho2 := ho2.below_top hbn
      replace ho3 := ho3.below_top hbn
      replace ho4 := OwnE.below_top ho4 hbn
      replace hb := hb.trans (hbn.mono hb.size)
      clear hbn
      obtain ⟨p5, hp⟩ : ∃ p, p = V2.heap.size := ⟨_, rfl⟩
      rw [<- hp] at xp hlep5 ⊢
      clear hp
      have hS := HKS.out _ hb
      refine hK _ _ hS ?_
      clear hK
      try simp only [Act.put, zq1, zq2, zq3, zq4, zq5, zq6]
      refine anyX_g (i := 4) (by kernel_rfl) (by decide) rfl (by rfl) ?_
      intro K hK
      try simp only [zq1, zq2, zq3]
      refine wp_enterE #[.agg #[.slice NA n nc]] Try.func61 (by kernel_rfl) (by kernel_rfl) ?_ (ways_any (HNR.out.below hb) hl HT.out hn hk) ?_
      ·go_simp
      rintro e V4 ⟨wv, gl, rfl, hw, hbn⟩
      refine ⟨_, rfl, ?_⟩
      obtain ⟨wA, wc, rfl⟩ := hw.form
      have hlo := And.intro (ho1.lt ga rfl).2 (And.intro (ho2.lt gp rfl).2 (And.intro (ho3.lt go rfl).2 (ho4.lt gs rfl).2))
      have hlb := hb.size
      obtain ⟨Bw, hBw⟩ : ∃ b, b = V3.heap.size := ⟨_, rfl⟩
      rw [<- hBw] at hw hlo hlb
      clear hBw
      replace ho1 := ho1.below_top hbn
      replace ho2 := ho2.below_top hbn
      replace ho3 := ho3.below_top hbn
      replace ho4 := OwnE.below_top ho4 hbn
      replace xp := Blk.below xp hbn xp.lt
      replace hb := hb.trans (hbn.mono hb.size)
      clear hbn
      have hS := HKS.out _ hb
      refine hK _ _ hS ?_
      clear hK
      try simp only [Act.put, zq1, zq2, zq3, zq4, zq5, zq6]
      have hlf := HLF ⟨p5, ga, ca, gp, cp, go, gs, Bw, wA, wc, gl⟩ _ ⟨⟨hb, ho1, ho2, ho3, ho4, ⟨ne1, ne2, ne3, ne4, ne5, ne6⟩, hlo, hlb, hw, hlep5⟩, xp, hS⟩
      dsimp only at hlf
      simp only [Act.put, zq1, zq2, zq3, zq4, zq5, zq6] at hlf
      exact hlf
    ·intro K hK
     try simp only [zq1, zq2, zq3]
     go_simp
     obtain ⟨V2, eV⟩ : ∃ W', V1.alloc (.cells #[.slice none 0 0, .slice none 0 0, .slice none 0 0, .slice none 0 0, .slice none 0 0] 87) = W' := ⟨_, rfl⟩
     have hbn : Below V1.heap.size V1 V2 := by rw [<- eV]; exact (Below.refl _ _).alloc (Nat.le_refl _) _
     have xp : Blk V2 V1.heap.size 87 #[.slice none 0 0, .slice none 0 0, .slice none 0 0, .slice none 0 0, .slice none 0 0] := by rw [<- eV]; exact Blk.new _ _ _
     have hlep5 := hb.size
     rw [eV]
     clear eV
     replace hb := hb.trans (hbn.mono hb.size)
     clear hbn
     obtain ⟨p5, hp⟩ : ∃ p, p = V1.heap.size := ⟨_, rfl⟩
     rw [<- hp] at xp hlep5 ⊢
     clear hp
     have hS := HKS.out _ hb
     refine hK _ _ hS ?_
     clear hK
     try simp only [Act.put, zq1, zq2, zq3, zq4, zq5, zq6]
     refine anyX_g (i := 2) (by kernel_rfl) (by decide) rfl (by rfl) ?_
     intro K hK
     try simp only [zq1, zq2, zq3]
     refine wp_enterE #[.int .i64 (n : Int)] Try.func60 (by kernel_rfl) (by kernel_rfl) ?_ (newParts_any n hn hpos V2) ?_
     ·go_simp
     rintro e V3 ⟨ga, ca, gp, cp, go, gs, rfl, ho1, ho2, ho3, ho4, ne1, ne2, ne3, ne4, ne5, ne6, hbn⟩
     refine ⟨_, rfl, ?_⟩
     replace ho1 := ho1.more hb.size; replace ho2 := ho2.more hb.size; replace ho3 := ho3.more hb.size; replace ho4 := OwnE.more ho4 hb.size
     replace xp := Blk.below xp hbn xp.lt
     replace hb := hb.trans (hbn.mono hb.size)
     clear hbn
     have hS := HKS.out _ hb
     refine hK _ _ hS ?_
     clear hK
     try simp only [Act.put, zq1, zq2, zq3, zq4, zq5, zq6]
     refine anyX_g (i := 4) (by kernel_rfl) (by decide) rfl (by rfl) ?_
     intro K hK
     try simp only [zq1, zq2, zq3]
     refine wp_enterE #[.agg #[.slice NA n nc]] Try.func61 (by kernel_rfl) (by kernel_rfl) ?_ (ways_any (HNR.out.below hb) hl HT.out hn hk) ?_
     ·go_simp
     rintro e V4 ⟨wv, gl, rfl, hw, hbn⟩
     refine ⟨_, rfl, ?_⟩
     obtain ⟨wA, wc, rfl⟩ := hw.form
     have hlo := And.intro (ho1.lt ga rfl).2 (And.intro (ho2.lt gp rfl).2 (And.intro (ho3.lt go rfl).2 (ho4.lt gs rfl).2))
     have hlb := hb.size
     obtain ⟨Bw, hBw⟩ : ∃ b, b = V3.heap.size := ⟨_, rfl⟩
     rw [<- hBw] at hw hlo hlb
     clear hBw
     replace xp := Blk.below xp hbn xp.lt
     replace ho1 := ho1.below_top hbn
     replace ho2 := ho2.below_top hbn
     replace ho3 := ho3.below_top hbn
     replace ho4 := OwnE.below_top ho4 hbn
     replace hb := hb.trans (hbn.mono hb.size)
     clear hbn
     have hS := HKS.out _ hb
     refine hK _ _ hS ?_
     clear hK
     try simp only [Act.put, zq1, zq2, zq3, zq4, zq5, zq6]
     have hlf := HLF ⟨p5, ga, ca, gp, cp, go, gs, Bw, wA, wc, gl⟩ _ ⟨⟨hb, ho1, ho2, ho3, ho4, ⟨ne1, ne2, ne3, ne4, ne5, ne6⟩, hlo, hlb, hw, hlep5⟩, xp, hS⟩
     dsimp only at hlf
     simp only [Act.put, zq1, zq2, zq3, zq4, zq5, zq6] at hlf
     exact hlf
   ·intro K hK
    try simp only [zq1, zq2, zq3]
    go_simp
    obtain ⟨V1, eV⟩ : ∃ W', V0.alloc (.cells #[.slice none 0 0, .slice none 0 0, .slice none 0 0, .slice none 0 0, .slice none 0 0] 87) = W' := ⟨_, rfl⟩
    have hbn : Below V0.heap.size V0 V1 := by rw [<- eV]; exact (Below.refl _ _).alloc (Nat.le_refl _) _
    have xp : Blk V1 V0.heap.size 87 #[.slice none 0 0, .slice none 0 0, .slice none 0 0, .slice none 0 0, .slice none 0 0] := by rw [<- eV]; exact Blk.new _ _ _
    have hlep5 := hb.size
    rw [eV]
    clear eV
    replace hb := hb.trans (hbn.mono hb.size)
    clear hbn
    obtain ⟨p5, hp⟩ : ∃ p, p = V0.heap.size := ⟨_, rfl⟩
    rw [<- hp] at xp hlep5 ⊢
    clear hp
    have hS := HKS.out _ hb
    refine hK _ _ hS ?_
    clear hK
    try simp only [Act.put, zq1, zq2, zq3, zq4, zq5, zq6]
    refine anyX_g (i := 1) (by kernel_rfl) (by decide) rfl (by rfl) ?_
    intro K hK
    try simp only [zq1, zq2, zq3]
    refine wp_enterE #[.agg #[.slice NA n nc]] Try.func48 (by kernel_rfl) (by kernel_rfl) ?_ (size_any NA n nc V1) ?_
    ·go_simp
    rintro e V2 ⟨rfl, hbn⟩
    refine ⟨_, rfl, ?_⟩
    replace xp := Blk.below xp hbn xp.lt
    replace hb := hb.trans (hbn.mono hb.size)
    clear hbn
    have hS := HKS.out _ hb
    refine hK _ _ hS ?_
    clear hK
    try simp only [Act.put, zq1, zq2, zq3, zq4, zq5, zq6]
    refine anyX_g (i := 2) (by kernel_rfl) (by decide) rfl (by rfl) ?_
    intro K hK
    try simp only [zq1, zq2, zq3]
    refine wp_enterE #[.int .i64 (n : Int)] Try.func60 (by kernel_rfl) (by kernel_rfl) ?_ (newParts_any n hn hpos V2) ?_
    ·go_simp
    rintro e V3 ⟨ga, ca, gp, cp, go, gs, rfl, ho1, ho2, ho3, ho4, ne1, ne2, ne3, ne4, ne5, ne6, hbn⟩
    refine ⟨_, rfl, ?_⟩
    replace ho1 := ho1.more hb.size; replace ho2 := ho2.more hb.size; replace ho3 := ho3.more hb.size; replace ho4 := OwnE.more ho4 hb.size
    replace xp := Blk.below xp hbn xp.lt
    replace hb := hb.trans (hbn.mono hb.size)
    clear hbn
    have hS := HKS.out _ hb
    refine hK _ _ hS ?_
    clear hK
    try simp only [Act.put, zq1, zq2, zq3, zq4, zq5, zq6]
    refine anyX_g (i := 4) (by kernel_rfl) (by decide) rfl (by rfl) ?_
    intro K hK
    try simp only [zq1, zq2, zq3]
    refine wp_enterE #[.agg #[.slice NA n nc]] Try.func61 (by kernel_rfl) (by kernel_rfl) ?_ (ways_any (HNR.out.below hb) hl HT.out hn hk) ?_
    ·go_simp
    rintro e V4 ⟨wv, gl, rfl, hw, hbn⟩
    refine ⟨_, rfl, ?_⟩
    obtain ⟨wA, wc, rfl⟩ := hw.form
    have hlo := And.intro (ho1.lt ga rfl).2 (And.intro (ho2.lt gp rfl).2 (And.intro (ho3.lt go rfl).2 (ho4.lt gs rfl).2))
    have hlb := hb.size
    obtain ⟨Bw, hBw⟩ : ∃ b, b = V3.heap.size := ⟨_, rfl⟩
    rw [<- hBw] at hw hlo hlb
    clear hBw
    replace xp := Blk.below xp hbn xp.lt
    replace ho1 := ho1.below_top hbn
    replace ho2 := ho2.below_top hbn
    replace ho3 := ho3.below_top hbn
    replace ho4 := OwnE.below_top ho4 hbn
    replace hb := hb.trans (hbn.mono hb.size)
    clear hbn
    have hS := HKS.out _ hb
    refine hK _ _ hS ?_
    clear hK
    try simp only [Act.put, zq1, zq2, zq3, zq4, zq5, zq6]
    have hlf := HLF ⟨p5, ga, ca, gp, cp, go, gs, Bw, wA, wc, gl⟩ _ ⟨⟨hb, ho1, ho2, ho3, ho4, ⟨ne1, ne2, ne3, ne4, ne5, ne6⟩, hlo, hlb, hw, hlep5⟩, xp, hS⟩
    dsimp only at hlf
    simp only [Act.put, zq1, zq2, zq3, zq4, zq5, zq6] at hlf
    exact hlf
  ·rintro ⟨p, ga, ca, gp, cp, go, gs, Bw, wA, wc, gl⟩ w1 ⟨⟨h1, h2, h3, h4, h5, h6, h7, h8, h9, h10⟩, h11⟩
   dsimp only at h1 h2 h3 h4 h5 h6 h7 h8 h9 h10 h11 ⊢
   try simp only [Act.put, zq1, zq2, zq3, zq4, zq5, zq6]
   obtain ⟨e1, e2, e3, e4, e5, e6⟩ := h6
   obtain ⟨l1, l2, l3, l4⟩ := h7
   have hzB := HZ0.out
   have hNB := HNB.out
   have hBs : w.heap.size <= w1.heap.size := by have := h1.size; omega
   obtain ⟨B, hB⟩ : ∃ B, B = W0.heap.size := ⟨_, rfl⟩
   have hBz : B <= W0.heap.size := by omega
   have hlq : ∀ {q : Nat} {s : Nat} {v : Value}, (v.ownBlock = some q) -> (B <= q /\ q < s) -> B <= q := fun _ h => h.1
   have hpt0 : PtAt w1 B ({ b := p, ga := ga, ca := ca, gp := gp, cp := cp, go := go, co := n, gs := gs, cs := 1, tn := 0, tv := .slice none 0 0 } : Lay) n id id (fun _ => 0) (fun _ => 0) (fun _ => n) (fun _ => 0) 1 [] := by
    have b1 : ∀ {g c' : Nat} {l : List Int}, Own w1 W0.heap.size (sl g n c') n l -> p ≠ g := fun {g c' l} ho e => blk_ne h11 ho (by decide) (by rw [e]; rfl)
    refine ⟨h11, h2.more hBz, h3.more hBz, h4.more hBz, OwnE.more h5 hBz, Own.nil _ _, ⟨b1 h2, b1 h3, b1 h4, fun e => blk_ne h11 h5 (by decide) (by have e' : p = gs := e; rw [e']; rfl), by simp [Value.ownBlock], e1, e2, e3, by simp [Value.ownBlock], e4, e5, by simp [Value.ownBlock], e6, by simp [Value.ownBlock], by simp [Value.ownBlock]⟩, by show B <= p; omega⟩
   have hBw1s : B <= w1.heap.size := by have := h1.size; omega
   have hak0 : AkAt w1 w1 B Bw w1.heap.size p n (fun k => k < Bw \/ k = p) ({ b := p, ga := ga, ca := ca, gp := gp, cp := cp, go := go, co := n, gs := gs, cs := 1, tn := 0, tv := .slice none 0 0 } : Lay) id id (fun _ => 0) (fun _ => 0) (fun _ => n) (fun _ => 0) 1 [] (fun _ => False) := by
    suffices hlo : ∀ k, ({ b := p, ga := ga, ca := ca, gp := gp, cp := cp, go := go, co := n, gs := gs, cs := 1, tn := 0, tv := .slice none 0 0 } : Lay).has k -> k < Bw \/ k = p from
     ⟨hpt0, GoodN.begin n hpos, rfl, Fr.refl _ _, Below.refl _ _, fun k hk _ => hlo k hk, fun k hk _ => hlo k hk, hBw1s, Nat.le_refl _⟩
    intro k hk
    rcases hk with e | e | e | e | e | e
    ·exact .inr e
    ·exact .inl (by have e' : k = ga := e; omega)
    ·exact .inl (by have e' : k = gp := e; omega)
    ·exact .inl (by have e' : k = go := e; omega)
    ·exact .inl (by have e' : k = gs := e; omega)
    ·simp [Value.ownBlock] at e
   have hBw1 : Below B W0 w1 := h1.mono hBz
   have hgr0 : GroupN T Gs 0 (fun _ => 0) 1 := GroupN.zero (by rw [hl]; exact hpos)
   have HAK0 := Lib.hid hak0; have HWY : Hid (WayU w1 Bw w1.heap.size n T (.slice wA k wc) k gl) := Lib.hid ⟨h9, fun j hj => (h9.row.lt j hj).2, fun i hi => ⟨((h9.last i hi).lt _ rfl).2, ((h9.other i hi).lt _ rfl).2⟩⟩; have HX5 := Lib.hid h11; have HBW1 := Lib.hid hBw1; have HB := Lib.hid hB; have HGR0 := Lib.hid hgr0; have HPP := Lib.hid h10; have HBS := Lib.hid h8
   have HGL := Lib.hid hgl; have HL := Lib.hid hl
   have HL9 := Lib.hid hl.symm; have HGL9 := Lib.hid hgl.symm
   have hBwB : B <= Bw := by omega
   -- what all later worlds keep
   have hkw : ∀ W, Below B w1 W -> Below w.heap.size w W := fun W hW => HB0w.trans ((show Below B W0 W from hBw1.trans hW).mono (show w.heap.size <= B by omega))
   have HKW := Lib.hid hkw; have H0N := Lib.hid h0N; have H0G := Lib.hid h0G
   clear h1 h2 h3 h4 h5 h8 h9 h10 h11 e1 e2 e3 e4 e5 e6 l1 l2 l3 l4 hpt0 hak0 hBw1 hgr0 hB hgl hl hlq hkw HKS HNR HGR h0N h0G HB0w hzB hNB
   go_wp2_with fail
   go_loopw [23] (fun vi wr => ∃ j : Nat, ∃ (L : Lay) (A P f fr to mk : Nat -> Nat) (c : Nat), vi = .int .i64 (j : Int) /\ j <= m /\ Hid (AkAt w1 wr B Bw w1.heap.size p n (fun k => k < Bw \/ k = p) L A P f fr to mk c [] (fun _ => False)) /\ Hid (GroupN T Gs j f c)) (fun i _ => m - (intOf i).toNat)
   case atStart => exact ⟨0, _, _, _, _, _, _, _, _, rfl, Nat.zero_le _, HAK0, HGR0⟩
   case round =>
    clear HAK0 HGR0
    obtain ⟨j, L, A, P, f, fr, to, mk, c, rfl, hj, HA, HG⟩ := hrel
    have j0 : (0 : Int) <= (j : Int) := Int.natCast_nonneg _
    by_cases hlt : j < m
    ·have j1 : (j : Int) < (m : Int) := by omega
     have tj : decide (j < m) = true := by simpa using hlt
     obtain ⟨gb, goff, A1, m1, c1, hA1, hm1, d1, r1, q3, q4⟩ := H0G.out.at_ (i := j) (by rw [HGL.out]; exact hlt)
     subst hA1
     obtain ⟨hgnd, hgnn⟩ := HGN.out j hlt
     have hBwr := Nat.le_trans HA.out.bB HA.out.bel.size
     have hmark := mark_any (v := .slice A1 m1 c1) (ns := Gs.getD j []) HA.out.pt HA.out.good (fun W hW => r1.below (HKW.out W (HA.out.bel.trans (hW.below hBwr (fun k hk hx => by have := (HA.out.pt.low k hx).1; omega))))) hgnd (fun x hx => ⟨hgnn x hx, id⟩) hn hBwr
     have d2 := bel_m (HKW.out wr HA.out.bel) d1
     have HMK := Lib.hid hmark
     have hLb := HA.out.b
     rw [hLb] at HMK
     clear hmark d1 r1 hgnd hgnn hm1 hLb
     go_wp2_with fail
     refine HMK.out.mono ?_
     rintro e w2 ⟨rfl, hm2⟩
     obtain ⟨L2, A2, P2, mk2, Tl2, ha2⟩ := HA.out.mark hm2
     have hsp := split_any ha2.pt ha2.good hn (Nat.le_trans ha2.bB ha2.bel.size)
     rw [ha2.b] at hsp
     have HA2 := Lib.hid ha2; have HSP := Lib.hid hsp
     clear hm2 ha2 hsp HMK d2
     go_wp2_with fail
     refine HSP.out.mono ?_
     rintro e w3 ⟨rfl, L3, f3, fr3, to3, mk3, c3, hL3, hp3, hg3, hs3, hf3, hk3⟩
     have HA3 := Lib.hid (HA2.out.split (hL3.trans HA2.out.b.symm) hp3 hg3 hf3 hk3)
     have HG3 := Lib.hid (HG.out.split (HL9.out ▸ hs3.congrM (fun x hx => ⟨fun r => r.resolve_left id, .inr⟩)))
     clear hL3 hp3 hg3 hs3 hf3 hk3 HSP
     go_wp2_with fail
     exact ⟨⟨j + 1, L3, A2, P2, f3, fr3, to3, mk3, c3, by go_num, by omega, HA3, HG3⟩, by simp [intOf]; omega⟩
    ·obtain rfl : j = m := by omega
     have hgA := HGL9.out ▸ HG.out
     have hinv0 : InvN T k g 0 f c := hgA.inv HT.out (HL9.out ▸ HGO.out)
     have HI0 := Lib.hid hinv0
     clear hgA hinv0
     obtain ⟨wz, hwz⟩ : ∃ wz, wz = wr := ⟨_, rfl⟩
     go_wp2_with fail
     subst hwz
     go_loopw [9] (fun v9 wr => ∃ pi : Nat, ∃ (L : Lay) (A P f fr to mk : Nat -> Nat) (c : Nat), v9 = .int .i64 (pi : Int) /\ Hid (pi <= c) /\ Hid (AkAt w1 wr B Bw w1.heap.size p n (fun k => k < Bw \/ k = p) L A P f fr to mk c [] (fun _ => False)) /\ Hid (InvN T k g pi f c)) (fun v _ => n - (intOf v).toNat)
     case atStart => exact ⟨0, _, _, _, _, _, _, _, _, rfl, Lib.hid (Nat.zero_le _), HA, HI0⟩
     case round =>
      clear HI0 HA HG
      obtain ⟨pi, L0, A0, P0, f0, fr0, to0, mk0, c0, rfl, hpi, HA, HI⟩ := hrel
      have i0 : (0 : Int) <= (pi : Int) := Int.natCast_nonneg _
      have hcnt := pcount_any HA.out.pt
      rw [HA.out.b] at hcnt
      have hcn := HA.out.good.count_le
      have HCN := Lib.hid hcn
      have HCT := Lib.hid hcnt
      clear hcnt
      by_cases hlt : pi < c0
      ·have i1 : (pi : Int) < (c0 : Int) := by omega
       have ti : decide (pi < c0) = true := by simpa using hlt
       obtain ⟨g1, g2, g3⟩ := HA.out.good.span pi hlt
       have hmem := members_any HA.out.pt hlt g1 g2 (by omega : n <= 1000000) hcn
       rw [HA.out.b] at hmem
       have hmi := fun x => HA.out.good.mem_iff hlt x
       have hmn := memL_nodup HA.out.good hlt
       have hml := memL_len A0 (fr0 pi) (to0 pi)
       obtain ⟨ms, hms⟩ : ∃ ms, memL A0 (fr0 pi) (to0 pi) = ms := ⟨_, rfl⟩
       obtain ⟨mN, hmN⟩ : ∃ mN, to0 pi - fr0 pi = mN := ⟨_, rfl⟩
       rw [hms] at hmi hmn hml hmem
       rw [hmN] at hml hmem
       have hmp : 0 < mN := by omega
       have hmn2 : mN <= 1000 := by omega
       have HME := Lib.hid hmem; have HMI := Lib.hid hmi; have HMN := Lib.hid hmn; have HML := Lib.hid hml
       clear hmem hmi hmn hml hms hmN g1 g2 g3 hcn
       go_wp2_with fail
       refine HCT.out.mono ?_
       rintro e w2 ⟨rfl, rfl⟩
       go_wp2_with fail
       refine HME.out.mono ?_
       rintro e w5 ⟨u, rfl, hou, hb5⟩
       obtain ⟨ub, uc, hu, hub, -⟩ : ∃ ub uc, u = sl ub mN uc /\ wr.heap.size <= ub /\ True := by
        rcases hou.form with ⟨_, e, _⟩ | ⟨g', cap', e, h1, _⟩
        ·omega
        ·exact ⟨g', cap', e, h1, trivial⟩
       subst hu
       have hLnb : ¬ L0.has ub := fun hx => by have := (HA.out.pt.low ub hx).2; omega
       have hA5 := HA.out.below hb5
       have hM0 := HI.out.mid HT.out hlt
       have HOU := Lib.hid (hou.more (Nat.zero_le _)); have HA5 := Lib.hid hA5; have HNB5 := Lib.hid hLnb; have HM0 := Lib.hid hM0
       have HW5 := Lib.hid (HWY.out.keep hA5.fr_ (fun q h _ => h) HX5.out)
       have HX55 := Lib.hid (show ∃ cs, Blk w5 p 87 cs from ⟨_, by have := hA5.pt.box; rw [hA5.b] at this; exact this⟩)
       have HAB := Lib.hid hA5.base
       clear hou hb5 hA5 hM0 hLnb HCT HME hub
       obtain ⟨wf, hwf⟩ : ∃ wf, wf = wr := ⟨_, rfl⟩
       go_wp2_with fail
       subst hwf
       go_loopw [40] (fun va wr => ∃ a : Nat, ∃ (L : Lay) (A P f fr to mk : Nat -> Nat) (c : Nat), va = .int .i64 (a : Int) /\ a <= k /\ Hid (AkAt w5 wr B Bw w1.heap.size p n L0.has L A P f fr to mk c [] (fun _ => False)) /\ Hid (MidN T k g pi (fun x => f0 x = pi) a f c)) (fun va _ => k - (intOf va).toNat)
       case atStart => exact ⟨0, _, _, _, _, _, _, _, _, rfl, Nat.zero_le _, HAB, HM0⟩
       case round =>
        clear HAB HM0
        obtain ⟨a, L, A, P, f, fr, to, mk, c, rfl, ha, HAL, HM⟩ := hrel
        have a0 : (0 : Int) <= (a : Int) := Int.natCast_nonneg _
        by_cases hla : a < k
        ·have a1 : (a : Int) < (k : Int) := by omega
         have ta : decide (a < k) = true := by simpa using hla
         obtain ⟨cs5, hcs5⟩ := HX55.out
         have hwr := HAL.out.ways HW5.out HA5.out.way hcs5
         obtain ⟨wg, g1, g2, hwA, hwc1, hwc2, -, -, k0, k1, hga⟩ := hwr.l.at_ hla
         obtain ⟨W6, hW6⟩ : ∃ W6, wr.alloc (.cells #[sl g1 n n, sl g2 n n] 108) = W6 := ⟨_, rfl⟩
         have hb6 : Below wr.heap.size wr W6 := by rw [<- hW6]; exact (Below.refl _ _).alloc (Nat.le_refl _) _
         obtain ⟨b12, hb12⟩ : ∃ b, b = wr.heap.size := ⟨_, rfl⟩
         have hx12 : Blk W6 b12 108 #[sl g1 n n, sl g2 n n] := by rw [<- hW6, hb12]; exact Blk.new _ _ _
         have hA6 := HAL.out.below hb6
         have hn12 : ¬ L.has b12 := fun hx => by have := (HAL.out.pt.low b12 hx).2; omega
         have hnub : ¬ L.has ub := fun hx => HNB5.out (HAL.out.lo ub hx (HOU.out.lt ub rfl).2)
         have hou6 := (HAL.out.fr_.own HOU.out (fun k hk hx => HNB5.out (by
          have : ub = k := by simpa [Value.ownBlock] using hk
          rw [this]; exact hx))).below_top hb6
         have hxp := HAL.out.pt.box
         rw [HAL.out.b] at hxp
         have hw6 := hwr.keep (Fr.of_below (X := fun _ => False) hb6) (fun _ h _ => h.elim) hxp
         have HA6 := Lib.hid hA6; have HB6 := Lib.hid hA6.base; have HX12 := Lib.hid hx12; have HN12 := Lib.hid hn12; have HNU := Lib.hid hnub; have HOU6 := Lib.hid hou6; have HW6 := Lib.hid hw6; have HW6E := Lib.hid hW6; have HGA := Lib.hid hga; have HWA := Lib.hid hwA
         have HXP6 := Lib.hid (show ∃ cs, Blk W6 p 87 cs from ⟨_, by have := hA6.pt.box; rw [hA6.b] at this; exact this⟩)
         clear hwr hb6 hx12 hA6 hn12 hnub hou6 hw6 hW6 hcs5 hga hxp
         have HST0 : Hid (AkAt W6 W6 B Bw w1.heap.size p n L.has L A P f fr to mk c [] (fun x => x < n /\ trN T x a ∈ ms.take 0)) := Lib.hid (HB6.out.congrM (fun x _ => by simp))
         subst hwA
         obtain ⟨wf, hwf⟩ : ∃ wf, wf = wr := ⟨_, rfl⟩
         go_wp2_with fail
         rw [HW6E.out]
         clear k0 k1
         rw [<- hb12]
         subst hwf
         clear hb12
         go_loopw [46] (fun vs wr => ∃ i : Nat, ∃ (L' : Lay) (A P mk : Nat -> Nat) (Tl : List Nat), vs = .int .i64 (i : Int) /\ i <= mN /\ Hid (AkAt W6 wr B Bw w1.heap.size p n L.has L' A P f fr to mk c Tl (fun x => x < n /\ trN T x a ∈ ms.take i))) (fun vs _ => mN - (intOf vs).toNat)
         case atStart => exact ⟨0, _, _, _, _, _, rfl, Nat.zero_le _, HST0⟩
         case round =>
          clear HST0
          obtain ⟨i, L7, A7, P7, mk7, Tl7, rfl, hi, HS⟩ := hrel
          have i0 : (0 : Int) <= (i : Int) := Int.natCast_nonneg _
          by_cases hli : i < mN
          ·have i1 : (i : Int) < (mN : Int) := by omega
           have ti : decide (i < mN) = true := by simpa using hli
           have til : i < ms.length := by rw [HML.out]; exact hli
           obtain ⟨t, hte⟩ : ∃ t, ms[i]'til = t := ⟨_, rfl⟩
           have htm : t ∈ ms := by rw [<- hte]; exact List.getElem_mem _
           have htn : t < n := ((HMI.out t).1 htm).1
           have hou7 := HS.out.fr_.own HOU6.out (fun k hk hx => HNU.out (by
            have : ub = k := by simpa [Value.ownBlock] using hk
            rw [this]; exact hx))
           have cu := cell_of_own hou7 hli
           have ce : (intsN ms).getD i 0 = (t : Int) := by simp [intsN, List.getD, List.getElem?_eq_getElem til, hte]
           rw [ce] at cu
           have hx7 := HS.out.fr_.blk HX12.out HN12.out
           have k0 := hx7.cell 0
           simp only [List.getElem?_toArray, List.getElem?_cons_zero] at k0
           obtain ⟨cs6, hcs6⟩ := HXP6.out
           have hw7 := HS.out.ways HW6.out HA6.out.way hcs6
           obtain ⟨wg', g1', g2', -, -, -, hwl, -, -, -, hgb⟩ := hw7.l.at_ hla
           have hg12 : (g1', g2') = (g1, g2) := by have := HGA.out; rw [hgb] at this; injection this
           simp only [Prod.mk.injEq] at hg12
           obtain ⟨rfl, rfl⟩ := hg12
           have cl := cell_of_own hwl htn
           rw [lastL_get _ _ htn] at cl
           have t0 : (0 : Int) <= (t : Int) := Int.natCast_nonneg _
           have t1 : (t : Int) < (n : Int) := by omega
           have t2 : decide (t < n) = true := by simpa using htn
           have HW7 := Lib.hid hw7; have HX7 := Lib.hid hx7; have HTE := Lib.hid hte
           have hxp := HS.out.pt.box
           rw [HS.out.b] at hxp
           have HXP7 := Lib.hid hxp
           have hn77 : ¬ L7.has b12 := fun hx => HN12.out (HS.out.lo b12 hx HX12.out.lt)
           have HN77 := Lib.hid hn77
           have HB7 : Hid (AkAt wr wr B Bw w1.heap.size p n L7.has L7 A7 P7 f fr to mk7 c Tl7 (fun x => (x < n /\ trN T x a ∈ ms.take i) \/ (n <= x /\ x < n /\ trN T x a = t))) := Lib.hid (HS.out.base.congrM (fun x _ => ⟨.inl, fun r => r.elim id (fun q => by omega)⟩))
           obtain ⟨d, hd⟩ : ∃ d : Nat -> Nat, (fun s => trN T s a) = d := ⟨_, rfl⟩
           have hdx : ∀ x, trN T x a = d x := fun x => by rw [<- hd]
           rw [hd] at cl
           have HD := Lib.hid hd; have HDX := Lib.hid hdx
           clear hou7 hx7 hw7 hwl ce hte htm hxp hgb hcs6 hn77 hd hdx
           obtain ⟨wh, hwh⟩ : ∃ wh, wh = wr := ⟨_, rfl⟩
           go_wp2_with fail
           subst hwh
           clear k0 cl cu
           go_loopw [15] (fun vf wr => ∃ j : Nat, ∃ (L' : Lay) (A P mk : Nat -> Nat) (Tl : List Nat), vf = .int .i64 (lastD d j t) /\ j <= n /\ Hid (AkAt wh wr B Bw w1.heap.size p n L7.has L' A P f fr to mk c Tl (fun x => (x < n /\ trN T x a ∈ ms.take i) \/ (j <= x /\ x < n /\ trN T x a = t)))) (fun vf _ => (intOf vf + 1).toNat)
           case atStart => exact ⟨n, _, _, _, _, _, rfl, Nat.le_refl _, HB7⟩
           case round =>
            clear HB7
            obtain ⟨j, L8, A8, P8, mk8, Tl8, rfl, hj, HC⟩ := hrel
            rcases lastD_cases d t j with ⟨c1, c2⟩ | ⟨x, c1, c2, c3, c4⟩
            ·rw [c1]
             have HC2 := Lib.hid c2
             clear c1 c2
             go_wp2_with fail
             refine ⟨⟨i + 1, L8, A8, P8, mk8, Tl8, by go_num, by omega, Lib.hid (HS.out.trans (HC.out.congrM ?_))⟩, by simp [intOf]; omega⟩
             intro y hy
             have htk : ms.take (i + 1) = ms.take i ++ [t] := by rw [List.take_succ_eq_append_getElem til, HTE.out]
             rw [htk, List.mem_append, List.mem_singleton]
             constructor
             ·rintro (q | q)
              ·exact ⟨q.1, .inl q.2⟩
              ·exact ⟨q.2.1, .inr q.2.2⟩
             ·rintro ⟨q1, q | q⟩
              ·exact .inl ⟨q1, q⟩
              ·refine .inr ⟨?_, q1, q⟩
               rcases Nat.lt_or_ge y j with r | r
               ·exact absurd (by rw [<- HDX.out]; exact q) (HC2.out y r)
               ·exact r
            ·rw [c2]
             have hxn : x < n := by omega
             have HC3 := Lib.hid c3; have HC4 := Lib.hid c4; have HC1 := Lib.hid c1
             have hxI : ¬ (x : Int) = -1 := by omega
             clear c2 c3 c4
             obtain ⟨W8, hW8⟩ : ∃ W8, wr.alloc (.cells #[.int .i64 (x : Int)] 3) = W8 := ⟨_, rfl⟩
             have hb8 : Below wr.heap.size wr W8 := by rw [<- hW8]; exact (Below.refl _ _).alloc (Nat.le_refl _) _
             have hx8 : W8.cell? ⟨wr.heap.size, 0, none⟩ = some (.int .i64 (x : Int)) := by rw [<- hW8]; exact new1 _ _ _
             have hA8 := HC.out.below hb8
             have hnl8 : ¬ L8.has wr.heap.size := fun hx => by have := (HC.out.pt.low _ hx).2; omega
             have hnot : ¬ ((x < n /\ trN T x a ∈ ms.take i) \/ (j <= x /\ x < n /\ trN T x a = t)) := by
              rintro (⟨_, q⟩ | ⟨q, _⟩)
              ·rw [HDX.out, HC3.out] at q
               obtain ⟨i', hi', ei⟩ := List.getElem_of_mem q
               have hi2 : i' < i := by have := hi'; simp at this; omega
               rw [List.getElem_take] at ei
               exact (List.pairwise_iff_getElem.1 HMN.out i' i (by omega) til hi2) (by rw [ei, HTE.out])
              ·have := HC1.out; omega
             have hmk := mark_any (v := sl wr.heap.size 1 1) (ns := [x]) hA8.pt hA8.good (fun W hW => readsI_new (hW.cell hx8 hnl8)) (by simp) (fun y hy => by
              have : y = x := by simpa using hy
              subst this; exact ⟨hxn, hnot⟩) hn (Nat.le_trans hA8.bB hA8.bel.size)
             rw [hA8.b] at hmk
             have hx7 := HC.out.fr_.blk HX7.out HN77.out
             have HMK := Lib.hid hmk; have HA8 := Lib.hid hA8; have HW8 := Lib.hid hW8
             clear hW8 hb8 hx8 hA8 hnl8 hnot hmk hx7
             go_wp2_with fail
             rw [HW8.out]
             refine HMK.out.mono ?_
             rintro e w9 ⟨rfl, hm9⟩
             obtain ⟨L9, A9, P9, mk9, Tl9, ha9⟩ := HA8.out.mark hm9
             have hx9 := ha9.fr_.blk HX7.out HN77.out
             have k1 := hx9.cell 1
             simp only [List.getElem?_toArray, List.getElem?_cons_zero, List.getElem?_cons_succ] at k1
             have hw9 := ha9.ways HW7.out HS.out.way HXP7.out
             obtain ⟨wg', g1q, g2q, -, -, -, -, hwo, -, -, hgb⟩ := hw9.l.at_ hla
             have hg12 := HGA.out
             rw [hgb] at hg12
             injection hg12 with hg12
             simp only [Prod.mk.injEq] at hg12
             obtain ⟨rfl, rfl⟩ := hg12
             have co := cell_of_own hwo hxn
             rw [otherL_get _ hxn, HD.out, HDX.out, HC3.out] at co
             have x0 : (0 : Int) <= (x : Int) := Int.natCast_nonneg _
             have x1 : (x : Int) < (n : Int) := by omega
             have x2 : decide (x < n) = true := by simpa using hxn
             have HA9 := Lib.hid ha9
             clear hm9 ha9 hx9 hw9 hwo hgb HMK
             obtain ⟨ld, hld⟩ : ∃ ld, lastD d x t = ld := ⟨_, rfl⟩
             rw [hld] at co
             have HLD := Lib.hid hld
             clear hld
             go_wp2_with fail
             refine ⟨⟨x, L9, A9, P9, mk9, Tl9, by rw [HLD.out], by omega, Lib.hid (HA9.out.congrM (fun y hy => ?_))⟩, ?_⟩
             ·rw [List.mem_singleton]
              constructor
              ·rintro ((q | q) | q)
               ·exact .inl q
               ·exact .inr ⟨by have := HC1.out; omega, q.2⟩
               ·subst q
                exact .inr ⟨Nat.le_refl _, hxn, by rw [HDX.out]; exact HC3.out⟩
              ·rintro (q | ⟨q1, q2, q3⟩)
               ·exact .inl (.inl q)
               ·rcases Nat.lt_or_ge y j with r | r
                ·rcases Nat.eq_or_lt_of_le q1 with r2 | r2
                 ·exact .inr r2.symm
                 ·exact absurd (by rw [<- HDX.out]; exact q3) (HC4.out y r2 r)
                ·exact .inl (.inr ⟨r, q2, q3⟩)
             ·rw [<- HLD.out]
              rcases lastD_cases d t x with ⟨q, _⟩ | ⟨y, q1, q, _⟩
              ·rw [q]; simp [intOf]
              ·rw [q]; simp [intOf]; omega
          ·have HIM : Hid (i = mN) := Lib.hid (by omega)
           have hsp := split_any HS.out.pt HS.out.good hn (Nat.le_trans HS.out.bB HS.out.bel.size)
           rw [HS.out.b] at hsp
           have HSP := Lib.hid hsp
           clear hsp
           go_wp2_with fail
           refine HSP.out.mono ?_
           rintro e w9 ⟨rfl, L9, f9, fr9, to9, mk9, c9, hL9, hp9, hg9, hs9, hf9, hk9⟩
           have ha9 := HS.out.split (hL9.trans HS.out.b.symm) hp9 hg9 hf9 hk9
           have hs92 : SplitN n f c (fun x => (fun u => f0 u = pi) (trN T x a)) f9 c9 := hs9.congrM (fun x hx => by
            have hlt9 : trN T x a < n := by have := HT.out.lt x a (by rw [<- HL9.out]; exact hx) hla; rw [<- HL9.out] at this; exact this
            have e1 : ms.take i = ms := List.take_of_length_le (by rw [HML.out, HIM.out]; exact Nat.le_refl _)
            rw [e1, HMI.out]
            exact ⟨fun q => q.2.2, fun q => ⟨hx, hlt9, q⟩⟩)
           have hm9 := HM.out.split HT.out hla (HL9.out ▸ hs92)
           have HA9 := Lib.hid (HA6.out.trans ha9); have HM9 := Lib.hid hm9
           clear hL9 hp9 hg9 hs9 hf9 hk9 ha9 hs92 hm9 HSP
           go_wp2_with fail
           exact ⟨⟨a + 1, L9, A7, P7, f9, fr9, to9, mk9, c9, by go_num, by omega, HA9, HM9⟩, by simp [intOf]; omega⟩
        ·have HAK : Hid (a = k) := Lib.hid (by omega)
         have hinv := (HAK.out ▸ HM.out : MidN T k g pi (fun x => f0 x = pi) k f c).inv
         have hpc := HM.out.pc
         have hc1 := HAL.out.good.count_le
         have HIN := Lib.hid hinv; have HAF := Lib.hid (HA5.out.trans HAL.out)
         clear hinv
         go_wp2_with fail
         exact ⟨⟨pi + 1, L, A, P, f, fr, to, mk, c, by go_num, Lib.hid (by omega), HAF, HIN⟩, by simp [intOf]; omega⟩
      ·have HEQ : Hid (pi = c0) := Lib.hid (by have := hpi.out; omega)
       have hx := HA.out.pt.box
       rw [HA.out.b] at hx
       have d0 := Blk.cell hx 0; have d1 := Blk.cell hx 1; have d2 := Blk.cell hx 2; have d3 := Blk.cell hx 3; have d4 := Blk.cell hx 4
       simp only [List.getElem?_toArray, List.getElem?_cons_zero, List.getElem?_cons_succ] at d0 d1 d2 d3 d4
       obtain ⟨TA, tc, htv, -, -, -⟩ := HA.out.pt.touch.readsI.form
       rw [htv] at d4
       clear htv hx
       go_wp2_with fail
       refine HCT.out.mono ?_
       rintro e w2 ⟨rfl, rfl⟩
       have hxr := Blk.below HX1.out (HBW1.out.trans HA.out.bel) (by have := HB.out; have := HZ0.out; have := HNB.out; omega)
       have r0 := Blk.cell hxr 0; have r1 := Blk.cell hxr 1; have r2 := Blk.cell hxr 2; have r3 := Blk.cell hxr 3; have r4 := Blk.cell hxr 4
       have fr0 := Blk.frozen hxr 0; have fr1 := Blk.frozen hxr 1; have fr2 := Blk.frozen hxr 2; have fr3 := Blk.frozen hxr 3; have fr4 := Blk.frozen hxr 4
       simp only [List.getElem?_toArray, List.getElem?_cons_zero, List.getElem?_cons_succ] at r0 r1 r2 r3 r4
       go_wp2_with fail
       refine bodyPost_ret (v := .agg #[sl L0.ga n L0.ca, sl L0.gp n L0.cp, sl L0.go n L0.co, sl L0.gs c0 L0.cs, .slice TA L0.tn tc]) (by simp [results, Try.results50, go_sem, r0, r1, r2, r3, r4]) rfl ?_
       have hBL := HKW.out wr HA.out.bel
       have hlow := HA.out.pt.low L0.go (.inr (.inr (.inr (.inl rfl))))
       have hBe := HB.out; have hZe := HZ0.out; have hNe := HNB.out
       have hq : (sl L0.go n L0.co).ownBlock ≠ some (nb + 1) := fun e => by
        have : L0.go = nb + 1 := by simpa [Value.ownBlock] using e
        omega
       have hnb1 : w.heap.size <= nb + 1 := by omega
       have hinv := HI.out
       rw [HEQ.out] at hinv
       refine ⟨L0.ga, L0.ca, L0.gp, L0.cp, L0.go, L0.co, L0.gs, L0.cs, TA, L0.tn, tc, c0, f0, rfl, ?_, fun x y hx hy => hinv.all HT.out (HL9.out ▸ hx) (HL9.out ▸ hy), HA.out.good.parted, ?_⟩
       ·exact own_set (own_set (own_set (own_set (own_set (HA.out.pt.of.more (by omega)) (p := ⟨nb + 1, 0, none⟩) hq _) (p := ⟨nb + 1, 1, none⟩) hq _) (p := ⟨nb + 1, 2, none⟩) hq _) (p := ⟨nb + 1, 3, none⟩) hq _) (p := ⟨nb + 1, 4, none⟩) hq _
       ·exact ((((hBL.setCell (p := ⟨nb + 1, 0, none⟩) hnb1 _).setCell (p := ⟨nb + 1, 1, none⟩) hnb1 _).setCell (p := ⟨nb + 1, 2, none⟩) hnb1 _).setCell (p := ⟨nb + 1, 3, none⟩) hnb1 _).setCell (p := ⟨nb + 1, 4, none⟩) hnb1 _
end Go.Proofs.Ytdcokkgdahbinaa
