/- The law text's Fwd. The law's tables: plain. While the law's table is made: its box, its two rows. How large the law's tables are. -/
import Derived.Test.YtacgakkcpmhgmaaVMiniMa
import Derived.Test.YtacgakkcpmhgmaaVTableB
import Derived.Test.YtacgakkcpmhgmaaVTableYi
set_option linter.unusedVariables false
set_option linter.unusedSimpArgs false
set_option maxRecDepth 100000
set_option maxHeartbeats 8000000
namespace Go.Proofs.Ytacgakkcpmhgmaa
open Go Go.RowKit Go.Proofs
def lawE (y : Nat) : List V3 := [(((y % 2 : Nat) : Int), 5, 1152921504606846976), (((y / 2 : Nat) : Int), 0, (y : Int))]
def lawEs (O : List Nat) : List (List V3) := O.map lawE
theorem lawEs_len (O : List Nat) : (lawEs O).length = O.length := by simp [lawEs]
theorem lawEs_at {O : List Nat} {i : Nat} (h : i < O.length) : (lawEs O).getD i [] = lawE (O.getD i 0) := by simp [lawEs, List.getD, List.getElem?_eq_getElem h]
def xssE (E : List (List V3)) (j : Nat) : List (Nat × List Value) := (List.range j).map fun i => ((E.getD i []).length, (E.getD i []).flatMap encV)
theorem xssE_succ (E : List (List V3)) (j : Nat) : xssE E (j + 1) = xssE E j ++ [((E.getD j []).length, (E.getD j []).flatMap encV)] := by unfold xssE; rw [List.range_succ, List.map_append]; rfl
theorem xssE_at (E : List (List V3)) {j i : Nat} (h : i < j) : (xssE E j).getD i (0, []) = ((E.getD i []).length, (E.getD i []).flatMap encV) := by simp [xssE, List.getD, h]
theorem own_box (w : World) (t : TypeId) (s n : Nat) (cs : Array Value) (hn : n <= 1000) (hc : cs.size = n * s) : (w.alloc (.cells cs t)).ownsRow w.heap.size t s (sl w.heap.size n n) n cs.toList :=
 ⟨by simpa using hc, .inr ⟨w.heap.size, n, cs, rfl, Nat.le_refl _, heap_alloc_new w _, Nat.le_refl _, by unfold maxLen; omega, by simpa using hc, by rw [<- hc]; exact List.take_of_length_le (by simp)⟩⟩
theorem hu_more {w : World} {B B' : Nat} {t : TypeId} {s n : Nat} {u : Value} {xs : List Value} (h : w.ownsRow B t s u n xs) (hB : B' <= B) : w.ownsRow B' t s u n xs := ownsRow_any h hB
theorem half_is (z : Nat) (h : z <= 2) : IntKind.i64.wrap ((z : Int).tdiv 2) = ((z / 2 : Nat) : Int) := by
 rw [show ((z : Int).tdiv 2) = ((z / 2 : Nat) : Int) from rfl, IntWalk.i64_in _ (by omega)]
theorem OwnLL.keepT3 {w w' : World} {B : Nat} {X : Nat -> Prop} {e e' t : TypeId} {k p sz : Nat} {v : Value} {xss : List (Nat × List Value)} {cs : Array Value} (h : OwnLL w B e e' sz v k xss) (hf : Fr X w w') (hX : ∀ q, X q -> q = p) (hp : Blk w p t cs) (h1 : t ≠ e) (h2 : t ≠ e') : OwnLL w' B e e' sz v k xss := by
 obtain ⟨h3, vals, h4, h5⟩ := h
 exact ⟨h3, vals, rowFr h4 hf (fun q hq hx => by have e := hX q hx; subst e; exact blk_ne hp h4 h1 hq), fun i hi => ⟨rowFr (h5 i hi).1 hf (fun q hq hx => by have e := hX q hx; subst e; exact blk_ne hp (h5 i hi).1 h2 hq), (h5 i hi).2⟩⟩
def FwdAt (w8 W : World) (B b8 : Nat) (NA : Option Addr) (k nc : Nat) (E : List (List V3)) (i : Nat) : Prop :=
 ∃ YA yc, Blk W b8 30 #[.slice NA k nc, .slice YA i yc] /\ OwnLL W B 36 51 3 (.slice YA i yc) i (xssE E i) /\ Fr (fun q => q = b8) w8 W
theorem fwdEnd {w8 wr V : World} {B b8 i g2 c2 k nc : Nat} {NA : Option Addr} {E : List (List V3)} {y : Value} {x : Nat × List Value}
  (hx : Blk V b8 30 #[.slice NA k nc, y]) (he : x = ((E.getD i []).length, (E.getD i []).flatMap encV)) (ho : OwnLL V B 36 51 3 (sl g2 (i + 1) c2) (i + 1) (xssE E i ++ [x]))
  (hb : Below B wr V) (hB : B <= wr.heap.size) (hb8 : b8 < B) (hf : Fr (fun q => q = b8) w8 wr) (hw8 : w8.heap.size = B) :
  FwdAt w8 (V.setCell ⟨b8, 1, none⟩ (sl g2 (i + 1) c2)) B b8 NA k nc E (i + 1) := by
  have hfr : Fr (fun q => q = b8) V (V.setCell ⟨b8, 1, none⟩ (sl g2 (i + 1) c2)) := (Fr.refl (fun q => q = b8) V).set_ (p := ⟨b8, 1, none⟩) (.inl rfl) _
  rw [he, <- xssE_succ] at ho
  refine ⟨_, _, ?_, ho.fr' hfr (fun q hq e => by omega), ?_⟩
  ·have := hx.set_ 1 (sl g2 (i + 1) c2)
   simpa using this
  ·have h1 : Fr (fun q => B <= q) wr V := ⟨hb.os, hb.tape, hb.output, hb.size, fun q hq hx => hb.block q (by omega)⟩
   exact (hf.then_ h1 (fun q hq e => by omega)).trans hfr
theorem lawFwd_any {w : World} {NSA : Option Addr} {nl nsc k n : Nat} {ns : List Int} (hv : ReadsI w (.slice NSA nl nsc) nl ns) (size letters : Int) (hk : (k : Int) = 1 + size % 9) (hn : (n : Int) = 1 + letters % 3) :
  Calls Try.prog 43 #[.int .i64 size, .int .i64 letters, .slice NSA nl nsc] w fun e w' => ∃ vn vo, e = .returned (.agg #[vn, vo]) /\ OwnLL w' w.heap.size 22 3 1 vn k (xssT (lawT ns k n) k) /\ OwnLL w' w.heap.size 36 51 3 vo k (xssE (lawEs (lawO ns k n)) k) /\ Below w.heap.size w w' := by
  obtain ⟨W0, hW0⟩ : ∃ W, w.alloc (.cells #[.slice none 0 0, .slice none 0 0] 30) = W := ⟨_, rfl⟩
  have hb0 : Below w.heap.size w W0 := by rw [<- hW0]; exact (Below.refl _ _).alloc (Nat.le_refl _) _
  have hx0 : Blk W0 w.heap.size 30 #[.slice none 0 0, .slice none 0 0] := by rw [<- hW0]; exact Blk.new _ _ _
  obtain ⟨b6, hb6⟩ : ∃ b, b = w.heap.size := ⟨_, rfl⟩
  rw [<- hb6] at hx0
  have hla := lawBack_any (hv.below hb0) size letters hk hn
  have hk9 : 0 < k /\ k <= 9 := by omega
  obtain ⟨k0, k9⟩ := hk9
  have hTl := lawT_len ns k n
  have hOl := lawO_len ns k n
  have hO2 := lawO_lt ns k n
  generalize lawT ns k n = T at *
  generalize lawO ns k n = O at *
  have HLA := Lib.hid hla; have HW0 := Lib.hid hW0; have HB0 := Lib.hid hb0; have HX0 := Lib.hid hx0; have HB6 := Lib.hid hb6; have HTL := Lib.hid hTl; have HOL := Lib.hid hOl; have HO2 := Lib.hid hO2
  clear hla hW0 hb0 hx0 hb6 hTl hOl hO2 hv hk hn
  go_enter Try.func43, Try.ntmps43
  go_wp2_with fail
  rw [HW0.out, <- HB6.out]
  refine HLA.out.mono ?_
  rintro e w2 ⟨vn, vo, rfl, hn, ho, hb⟩
  have hN : NextR w2 vn T := hn.nextR HTL.out (fun i hi => xssT_at T hi)
  have hO := ho.readsI
  obtain ⟨NA, nc, e, hnc, hnc2⟩ := hN.form
  rw [HTL.out] at e hnc
  subst e
  obtain ⟨OA, oc, rfl, hoc, hoc2, -⟩ := hO.form
  obtain ⟨W8, hW8⟩ : ∃ W, (w2.alloc (.cells #[.slice NA k nc, .slice OA k oc] 27)).alloc (.cells #[.slice NA k nc, .slice none 0 0] 30) = W := ⟨_, rfl⟩
  have hb8 : Below w2.heap.size w2 W8 := by rw [<- hW8]; exact ((Below.refl _ _).alloc (Nat.le_refl _) _).alloc (by simp) _
  have hx7 : Blk W8 w2.heap.size 27 #[.slice NA k nc, .slice OA k oc] := by rw [<- hW8]; exact (Blk.new _ _ _).alloc _
  have hx8 : Blk W8 (w2.heap.size + 1) 30 #[.slice NA k nc, .slice none 0 0] := by
   rw [<- hW8]
   have := Blk.new (w2.alloc (.cells #[.slice NA k nc, .slice OA k oc] 27)) 30 #[.slice NA k nc, .slice none 0 0]
   rw [World.size_alloc] at this
   exact this
  obtain ⟨b7, hb7⟩ : ∃ b, b = w2.heap.size := ⟨_, rfl⟩
  obtain ⟨b8, hb8e⟩ : ∃ b, b = w2.heap.size + 1 := ⟨_, rfl⟩
  rw [<- hb7] at hx7
  rw [<- hb8e] at hx8
  obtain ⟨B, hB⟩ : ∃ B, W8.heap.size = B := ⟨_, rfl⟩
  have hbB : b8 < B := by rw [<- hB]; exact hx8.lt
  have h7B : b7 < B := by omega
  have hbb := hb.trans (hb8.mono hb.size)
  have hb68 : b6 < W0.heap.size := HX0.out.lt
  have hz2 : W0.heap.size <= w2.heap.size := hb.size
  have h0B : w.heap.size <= B := by have := HB6.out; omega
  have hst : FwdAt W8 W8 B b8 NA k nc (lawEs O) 0 := ⟨none, 0, hx8, OwnLL.nil _ _ _ _ _, Fr.refl _ _⟩
  have hno := hn.below hb8
  have HST := Lib.hid hst; have HNO := Lib.hid hno; have RO := Lib.hid hO; have HBL8 := Lib.hid hb8; have HW8 := Lib.hid hW8; have HB7 := Lib.hid hb7; have HB8E := Lib.hid hb8e; have HW9 := Lib.hid hB; have HB8 := Lib.hid hbB; have HX7 := Lib.hid hx7; have HXB8 := Lib.hid hx8; have HX6 := Lib.hid (Blk.below HX0.out hbb HX0.out.lt); have HBB := Lib.hid (HB0.out.trans (hbb.mono HB0.out.size)); have H68 := Lib.hid hb68; have H7B := Lib.hid h7B
  have hsz0 : w.heap.size <= W0.heap.size := HB0.out.size
  have h68 : b6 < b8 := by omega
  have hw8 : w.heap.size <= b8 := by have := HB6.out; omega
  have H0W := Lib.hid hsz0; have H6 := Lib.hid h68; have HWB := Lib.hid hw8; have H0B := Lib.hid h0B
  clear hst hno hn ho hb hN hO hW8 hb8 hx7 hx8 hb7 hb8e hB hbB hbb hb68 hz2 HLA h7B hsz0 h68 hw8 h0B
  go_wp2_with fail
  rw [HW8.out, <- HB8E.out, <- HB7.out]
  go_loopw [9] (fun vi wr => ∃ i : Nat, vi = .int .i64 (i : Int) /\ i <= k /\ Hid (FwdAt W8 wr B b8 NA k nc (lawEs O) i)) (fun vi _ => k - (intOf vi).toNat)
  case atStart => exact ⟨0, rfl, Nat.zero_le _, HST⟩
  case round =>
   clear HST
   obtain ⟨i, rfl, hi, HJ⟩ := hrel
   obtain ⟨YA, yc, hxb, hoo, hfr⟩ := HJ.out
   have i0 : (0 : Int) <= (i : Int) := Int.natCast_nonneg _
   have hx7 := hfr.blk HX7.out (by have := HB7.out; have := HB8E.out; omega)
   have c71 := hx7.cell 1
   simp only [List.getElem?_toArray, List.getElem?_cons_zero, List.getElem?_cons_succ] at c71
   by_cases hlt : i < k
   ·have i1 : (i : Int) < (k : Int) := by omega
    have t1 : decide (i < k) = true := by simpa using hlt
    obtain ⟨go, oo, eo, hgo, co⟩ := RO.out.at i hlt
    subst eo
    have co1 := hfr.cell (bel_m HBL8.out co) (fun e => by have := HB8E.out; omega)
    have hwB : B <= wr.heap.size := by rw [<- HW9.out]; exact hfr.size
    obtain ⟨y, hy⟩ : ∃ y : Int, (intsN O).getD i 0 = y := ⟨_, rfl⟩
    rw [hy] at co1
    have hy2 : y = ((O.getD i 0 : Nat) : Int) := by rw [<- hy]; exact intsN_at i
    have hyo := HO2.out i
    have y0 : 0 <= y := by omega
    have y2 : y <= 2 := by omega
    have hgB : go < B := by have := HB8E.out; have := HB8.out; omega
    have HKS : Hid (∀ W : World, Below B wr W -> (fun W : World => W.cell? ⟨b8, 1, none⟩ = some (.slice YA i yc) /\ W.cell? ⟨b7, 1, none⟩ = some (.slice (some ⟨go, oo, none⟩) k oc) /\ W.cell? ⟨go, oo + i, none⟩ = some (.int .i64 y)) W) := Lib.hid (fun W hW => by
     have z0 := (Blk.below hxb hW HB8.out).cell 1
     have z1 := (Blk.below hx7 hW H7B.out).cell 1
     refine ⟨by simpa using z0, by simpa using z1, ?_⟩
     rw [hW.cell (p := ⟨go, oo + i, none⟩) hgB]
     exact co1)
    have HEI : Hid ((2, (#[.int .i64 (y.tmod 2), .int .i64 5, .int .i64 1152921504606846976, .int .i64 (IntKind.i64.wrap (y.tdiv 2)), .int .i64 0, .int .i64 y] : Array Value).toList) = (((lawEs O).getD i []).length, ((lawEs O).getD i []).flatMap encV)) := Lib.hid (by
     rw [lawEs_at (by rw [HOL.out]; exact hlt), hy2, half_is _ hyo]
     rfl)
    have HO0 := Lib.hid hoo; have HBW := Lib.hid hwB; have HX8 := Lib.hid hxb; have HF8 := Lib.hid hfr
    have hi9 : i <= 1000000 := by omega
    clear hoo hwB hxb hfr hx7 c71 co co1 hy hy2 hyo HJ hgB hgo
    have c71 := (HKS.out wr (Below.refl _ _)).2.1
    go_wp2_with fail
    clear c71
    refine region_y 25 (fun W : World => W.cell? ⟨b8, 1, none⟩ = some (.slice YA i yc) /\ W.cell? ⟨b7, 1, none⟩ = some (.slice (some ⟨go, oo, none⟩) k oc) /\ W.cell? ⟨go, oo + i, none⟩ = some (.int .i64 y)) (by kernel_rfl) ?_
    have hb : Below B wr wr.drew := (Below.refl _ _).drew
    have hS := HKS.out _ hb
    have hb00 : Below wr.heap.size wr wr.drew := (Below.refl _ _).drew
    have hO := HO0.out.below hb00
    have hBV : B <= wr.drew.heap.size := Nat.le_trans HBW.out hb.size
    clear hb00
    generalize wr.drew = V0 at *
    refine tky (i := 0) (v := ?_) hS ?_ ?_
    rotate_left
    ·rintro w' ⟨s0', s1', s2'⟩
     go_simp
     try with_reducible rfl
    try simp only [Act.put, zq1, zq2, zq3, zq4, zq5, zq6]
    refine tky (i := 1) (v := ?_) hS ?_ ?_
    rotate_left
    ·rintro w' ⟨s0', s1', s2'⟩
     go_simp
     try with_reducible rfl
    try simp only [Act.put, zq1, zq2, zq3, zq4, zq5, zq6]
    refine tky (i := 2) (v := ?_) hS ?_ ?_
    rotate_left
    ·rintro w' ⟨s0', s1', s2'⟩
     go_simp
     try with_reducible rfl
    try simp only [Act.put, zq1, zq2, zq3, zq4, zq5, zq6]
    refine tky (i := 3) (v := ?_) hS ?_ ?_
    rotate_left
    ·rintro w' ⟨s0', s1', s2'⟩
     go_simp
     try with_reducible rfl
    try simp only [Act.put, zq1, zq2, zq3, zq4, zq5, zq6]
    refine tky (i := 4) (v := ?_) hS ?_ ?_
    rotate_left
    ·rintro w' ⟨s0', s1', s2'⟩
     go_simp
     try with_reducible rfl
    try simp only [Act.put, zq1, zq2, zq3, zq4, zq5, zq6]
    refine tky (i := 5) (v := ?_) hS ?_ ?_
    rotate_left
    ·rintro w' ⟨s0', s1', s2'⟩
     go_simp
     try with_reducible rfl
    try simp only [Act.put, zq1, zq2, zq3, zq4, zq5, zq6]
    refine tky (i := 6) (v := ?_) hS ?_ ?_
    rotate_left
    ·rintro w' ⟨s0', s1', s2'⟩
     go_simp
     try with_reducible rfl
    try simp only [Act.put, zq1, zq2, zq3, zq4, zq5, zq6]
    refine tky (i := 7) (v := ?_) hS ?_ ?_
    rotate_left
    ·rintro w' ⟨s0', s1', s2'⟩
     go_simp
     try with_reducible rfl
    try simp only [Act.put, zq1, zq2, zq3, zq4, zq5, zq6]
    refine tky (i := 8) (v := ?_) hS ?_ ?_
    rotate_left
    ·rintro w' ⟨s0', s1', s2'⟩
     go_simp
     try with_reducible rfl
    try simp only [Act.put, zq1, zq2, zq3, zq4, zq5, zq6]
    refine tky (i := 9) (v := ?_) hS ?_ ?_
    rotate_left
    ·rintro w' ⟨s0', s1', s2'⟩
     go_simp
     try with_reducible rfl
    try simp only [Act.put, zq1, zq2, zq3, zq4, zq5, zq6]
    refine tky (i := 10) (v := ?_) hS ?_ ?_
    rotate_left
    ·rintro w' ⟨s0', s1', s2'⟩
     go_simp
     try with_reducible rfl
    try simp only [Act.put, zq1, zq2, zq3, zq4, zq5, zq6]
    refine tky (i := 11) (v := ?_) hS ?_ ?_
    rotate_left
    ·rintro w' ⟨s0', s1', s2'⟩
     go_simp
     try with_reducible rfl
    try simp only [Act.put, zq1, zq2, zq3, zq4, zq5, zq6]
    refine tky (i := 12) (v := ?_) hS ?_ ?_
    rotate_left
    ·rintro w' ⟨s0', s1', s2'⟩
     go_simp
     try with_reducible rfl
    try simp only [Act.put, zq1, zq2, zq3, zq4, zq5, zq6]
    refine tky (i := 13) (v := ?_) hS ?_ ?_
    rotate_left
    ·rintro w' ⟨s0', s1', s2'⟩
     go_simp
     try with_reducible rfl
    try simp only [Act.put, zq1, zq2, zq3, zq4, zq5, zq6]
    refine tky (i := 14) (v := ?_) hS ?_ ?_
    rotate_left
    ·rintro w' ⟨s0', s1', s2'⟩
     go_simp
     try with_reducible rfl
    try simp only [Act.put, zq1, zq2, zq3, zq4, zq5, zq6]
    refine tky (i := 15) (v := ?_) hS ?_ ?_
    rotate_left
    ·rintro w' ⟨s0', s1', s2'⟩
     go_simp
     try with_reducible rfl
    try simp only [Act.put, zq1, zq2, zq3, zq4, zq5, zq6]
    refine tky (i := 16) (v := ?_) hS ?_ ?_
    rotate_left
    ·rintro w' ⟨s0', s1', s2'⟩
     go_simp
     try with_reducible rfl
    try simp only [Act.put, zq1, zq2, zq3, zq4, zq5, zq6]
    refine tky (i := 17) (v := ?_) hS ?_ ?_
    rotate_left
    ·rintro w' ⟨s0', s1', s2'⟩
     go_simp
     try with_reducible rfl
    try simp only [Act.put, zq1, zq2, zq3, zq4, zq5, zq6]
    refine tky (i := 18) (v := ?_) hS ?_ ?_
    rotate_left
    ·rintro w' ⟨s0', s1', s2'⟩
     go_simp
     try with_reducible rfl
    try simp only [Act.put, zq1, zq2, zq3, zq4, zq5, zq6]
    refine tky (i := 19) (v := ?_) hS ?_ ?_
    rotate_left
    ·rintro w' ⟨s0', s1', s2'⟩
     go_simp
     try with_reducible rfl
    try simp only [Act.put, zq1, zq2, zq3, zq4, zq5, zq6]
    refine tky (i := 20) (v := ?_) hS ?_ ?_
    rotate_left
    ·rintro w' ⟨s0', s1', s2'⟩
     go_simp
     try with_reducible rfl
    try simp only [Act.put, zq1, zq2, zq3, zq4, zq5, zq6]
    refine anyY_g (i := 21) (by kernel_rfl) rfl rfl ?_
    intro K hK
    try simp only [zq1, zq2, zq3]
    go_simp
    obtain ⟨V1, eV⟩ : ∃ W', V0.alloc (.cells #[.int .i64 (y.tmod 2), .int .i64 5, .int .i64 1152921504606846976, .int .i64 (IntKind.i64.wrap (y.tdiv 2)), .int .i64 0, .int .i64 y] 51) = W' := ⟨_, rfl⟩
    have hbn : Below V0.heap.size V0 V1 := by rw [<- eV]; exact (Below.refl _ _).alloc (Nat.le_refl _) _
    have hu : V1.ownsRow V0.heap.size 51 3 (sl V0.heap.size 2 2) 2 (#[.int .i64 (y.tmod 2), .int .i64 5, .int .i64 1152921504606846976, .int .i64 (IntKind.i64.wrap (y.tdiv 2)), .int .i64 0, .int .i64 y] : Array Value).toList := by rw [<- eV]; exact own_box _ _ 3 2 _ (by decide) rfl
    rw [eV]
    clear eV
    have hap : Apart (.slice YA i yc) (sl V0.heap.size 2 2) := apart_new hO hu
    obtain ⟨p1, hp1⟩ : ∃ p, p = V0.heap.size := ⟨_, rfl⟩
    replace hu := hu_more hu hBV
    replace hO := hO.below hbn
    replace hb := hb.trans (hbn.mono hBV)
    have hBV1 : B <= V1.heap.size := Nat.le_trans hBV hbn.size
    clear hbn
    replace hS := HKS.out _ hb
    rw [<- hp1] at hu hap ⊢
    clear hp1
    refine hK _ _ hS ?_
    clear hK
    try simp only [Act.put, zq1, zq2, zq3, zq4, zq5, zq6]
    refine anyY_g (i := 22) (by kernel_rfl) rfl rfl ?_
    intro K hK
    try simp only [zq1, zq2, zq3]
    go_simp
    obtain ⟨V2, eV⟩ : ∃ W', V1.alloc (.cells #[sl p1 2 2] 36) = W' := ⟨_, rfl⟩
    have hbn : Below V1.heap.size V1 V2 := by rw [<- eV]; exact (Below.refl _ _).alloc (Nat.le_refl _) _
    have xb : Blk V2 V1.heap.size 36 #[sl p1 2 2] := by rw [<- eV]; exact Blk.new _ _ _
    rw [eV]
    clear eV
    replace hO := hO.below hbn
    replace hu := ownsRow_bel hu hbn
    replace hb := hb.trans (hbn.mono hBV1)
    have hBV2 : B <= V2.heap.size := Nat.le_trans hBV1 hbn.size
    clear hbn
    replace hS := HKS.out _ hb
    obtain ⟨p2, hp2⟩ : ∃ p, p = V1.heap.size := ⟨_, rfl⟩
    rw [<- hp2] at xb ⊢
    clear hp2
    refine hK _ _ hS ?_
    clear hK
    try simp only [Act.put, zq1, zq2, zq3, zq4, zq5, zq6]
    refine anyY_g (i := 23) (by kernel_rfl) rfl rfl ?_
    intro K hK
    try simp only [zq1, zq2, zq3]
    obtain ⟨vals, hvals, hpush⟩ := hO.pushV
    have hvals1 := hvals
    unfold OwnE at hvals1
    rw [flat1] at hvals1
    refine wp_pushK rfl (.tmp 25) (.tmp 46) 28 36 rfl 1 24 _ Try.underlying28 info_vrow rfl (by omega) (by omega) B (.slice YA i yc) i vals (by rfl) hvals1 p2 (by rfl) #[sl p1 2 2] rfl xb (by simp [Value.oneCell']) hi9 hBV2 ?_
    intro g7 cap7 V3 q1 q2 q3
    have hP : PushedE (fun u : Value => [u]) 36 1 B V2 V3 (.slice YA i yc) g7 cap7 i vals (sl p1 2 2) := pushedE_of hvals1 q1 q2 q3
    replace hO := hpush _ _ _ _ _ _ hP hu hap
    replace hb := below_grown hb q2 hBV2 (fun z hz => (hvals1.lt z hz).1)
    have hBV3 : B <= V3.heap.size := Nat.le_trans hBV2 q2.size
    clear hvals hvals1 hpush hP q1 q2 q3 hu hap xb
    replace hS := HKS.out _ hb
    refine hK _ _ hS ?_
    clear hK
    try simp only [Act.put, zq1, zq2, zq3, zq4, zq5, zq6]
    refine tky (i := 24) (v := ?_) hS ?_ ?_
    rotate_left
    ·rintro w' ⟨s0', s1', s2'⟩
     go_simp
     try with_reducible rfl
    try simp only [Act.put, zq1, zq2, zq3, zq4, zq5, zq6]
    have hx8 := Blk.below HX8.out hb HB8.out
    have k1 := Blk.cell hx8 1; have f1 := Blk.frozen hx8 1
    simp only [List.getElem?_toArray, List.getElem?_cons_zero, List.getElem?_cons_succ] at k1
    have HXB := Lib.hid hx8; have HO6 := Lib.hid hO; have HB6 := Lib.hid hb
    clear hx8 hO hb hS
    refine anyY_last (i := 25) (by kernel_rfl) (by kernel_rfl) (by kernel_rfl) rfl rfl ?_
    try simp only [zq1, zq2, zq3]
    go_simp
    try apply_assumption
    clear k1 f1
    go_wp2_with fail
    exact ⟨⟨i + 1, by go_num, by omega, Lib.hid (fwdEnd HXB.out HEI.out HO6.out HB6.out HBW.out HB8.out HF8.out HW9.out)⟩, by simp [intOf]; omega⟩
   ·obtain rfl : k = i := by omega
    have hx6 := hfr.blk HX6.out (by have := H6.out; omega)
    have k0 := Blk.cell hxb 0; have k1 := Blk.cell hxb 1
    have r0 := Blk.cell hx6 0; have r1 := Blk.cell hx6 1; have f0 := Blk.frozen hx6 0; have f1 := Blk.frozen hx6 1
    simp only [List.getElem?_toArray, List.getElem?_cons_zero, List.getElem?_cons_succ] at k0 k1 r0 r1
    have HO0 := Lib.hid hoo
    have hnn := HNO.out.keepT hfr (fun q hq => hq) HXB8.out (by decide) (by decide)
    have HNN := Lib.hid hnn
    have HBW := Lib.hid (HBB.out.trans (hfr.below (by rw [HW9.out]; exact H0B.out) (fun q hq e => by have := HWB.out; omega)))
    have HX6' := Lib.hid hx6
    clear hoo hxb hfr hx6 hnn HJ hx7
    go_wp2_with fail
    refine bodyPost_ret (v := .agg #[.slice NA k nc, .slice YA k yc]) (by simp [results, Try.results43, go_sem, r0, r1]) rfl ?_
    have hfr2 : Fr (fun q => q = b6) wr ((wr.setCell ⟨b6, 0, none⟩ (.slice NA k nc)).setCell ⟨b6, 1, none⟩ (.slice YA k yc)) := ((Fr.refl (fun q => q = b6) wr).set_ (p := ⟨b6, 0, none⟩) (.inl rfl) _).set_ (p := ⟨b6, 1, none⟩) (.inl rfl) _
    exact ⟨_, _, rfl, (HNN.out.keepT hfr2 (fun q hq => hq) HX6'.out (by decide) (by decide)).more' H0W.out, (HO0.out.keepT3 hfr2 (fun q hq => hq) HX6'.out (by decide) (by decide)).more' H0B.out, HBW.out.trans (hfr2.below HBW.out.size (fun q hq e => by have := HB6.out; omega))⟩
end Go.Proofs.Ytacgakkcpmhgmaa
namespace Go.Proofs.Ytacgakkcpmhgmaa
open Go Go.RowKit Go.Proofs
def outsL (k : Nat) (O : List Nat) : List Int := (List.range k).map fun i => if i = 0 then 1 else ((O.getD i 0 % 2 : Nat) : Int)
def lawTab (ns ms cs : List Int) (k n : Nat) : Tab := ⟨(makeCL n cs).c, (makeCL n cs).l, (lawT ns k n).map intsN, outsL k (lawO ns k n), (lawT ms k n).map intsN, lawEs (lawO ms k n)⟩
theorem outsL_len (k : Nat) (O : List Nat) : (outsL k O).length = k := by simp [outsL]
theorem outsL_in {k : Nat} {O : List Nat} : ∀ o ∈ outsL k O, 0 <= o /\ o <= 1 := by
 intro o ho
 obtain ⟨i, _, rfl⟩ := List.mem_map.1 ho
 split <;> omega
theorem maxL_ge {l : List Int} {x : Int} (h : x ∈ l) : x <= maxL l := by
 unfold maxL
 have : ∀ (l : List Int) (a : Int), a <= l.foldl max a /\ ∀ x ∈ l, x <= l.foldl max a := by
  intro l
  induction l with
  | nil => exact fun a => ⟨Int.le_refl _, fun x hx => by simp at hx⟩
  | cons y l ih =>
    intro a
    have := ih (max a y)
    refine ⟨?_, fun x hx => ?_⟩
    ·rw [List.foldl_cons]; omega
    ·rw [List.foldl_cons]
     simp only [List.mem_cons] at hx
     rcases hx with rfl | hx
     ·omega
     ·exact this.2 x hx
 exact (this l 0).2 x h
theorem outsL_max {k : Nat} (hk : 0 < k) (O : List Nat) : maxL (outsL k O) = 1 := by
 have h1 := (maxL_le (l := outsL k O) (m := 1) (by decide) (fun o ho => (outsL_in o ho).2)).2
 have h2 : (1 : Int) <= maxL (outsL k O) := maxL_ge (List.mem_map.2 ⟨0, List.mem_range.2 hk, rfl⟩)
 omega
theorem lead_law {ns : List Int} {k n : Nat} (hk : 0 < k) (hk9 : k <= 100000) : LeadI ((lawT ns k n).map intsN) n := by
 have hr := law_rect ns (k := k) (n := n) hk
 have hl := lawT_len ns k n
 refine ⟨by rw [List.length_map, hl]; exact hk, by rw [List.length_map, hl]; exact hk9, fun r hr' => ?_⟩
 obtain ⟨q, hq, rfl⟩ := List.mem_map.1 hr'
 obtain ⟨i, hi, rfl⟩ := List.getElem_of_mem hq
 have e : (lawT ns k n).getD i [] = (lawT ns k n)[i] := by rw [List.getD_eq_getElem?_getD, List.getElem?_eq_getElem hi]; rfl
 have hn := hr.len i hi
 rw [e] at hn
 refine ⟨by simp only [intsN, List.length_map]; exact hn, fun x hx => ?_⟩
 obtain ⟨y, hy, rfl⟩ := List.mem_map.1 hx
 obtain ⟨a, ha, rfl⟩ := List.getElem_of_mem hy
 have h1 := hr.lt i a hi (by rw [<- hn]; exact ha)
 unfold trN at h1
 rw [e, List.getD_eq_getElem?_getD, List.getElem?_eq_getElem ha] at h1
 rw [List.length_map]
 simp only [Option.getD_some] at h1
 exact ⟨Int.natCast_nonneg _, Int.ofNat_lt.2 h1⟩
theorem lawTab_right {ns ms cs : List Int} {k n : Nat} (hk : 0 < k) (hk9 : k <= 1000) (hn : 0 < n) (hn9 : n <= 1000) : RightT (lawTab ns ms cs k n) := by
 obtain ⟨ha, hc⟩ := makeCL_alpha hn hn9 cs
 refine (rightT_parts _).2 ⟨ha, ?_, ?_⟩
 ·show BackR _ _ (cntL (makeCL n cs).l)
  rw [hc]
  exact ⟨lead_law hk (by omega), by show (outsL k _).length = ((lawT ns k n).map intsN).length; rw [outsL_len, List.length_map, lawT_len], fun o ho => by have := outsL_in o ho; omega⟩
 ·show FwdR _ _ (cntL (makeCL n cs).l) (maxL (outsL k _) + 1)
  rw [hc, outsL_max hk]
  refine ⟨lead_law hk (by omega), by show (lawEs _).length = ((lawT ms k n).map intsN).length; rw [lawEs_len, lawO_len, List.length_map, lawT_len], fun r hr => ?_⟩
  obtain ⟨y, hy, rfl⟩ := List.mem_map.1 hr
  obtain ⟨i, hi, rfl⟩ := List.getElem_of_mem hy
  have h2 := lawO_lt ms k n i
  rw [List.getD_eq_getElem?_getD, List.getElem?_eq_getElem hi] at h2
  simp only [Option.getD_some] at h2
  refine ⟨rfl, fun v hv => ?_⟩
  simp only [lawE, List.mem_cons, List.not_mem_nil, or_false] at hv
  unfold CostV
  rcases hv with rfl | rfl <;> dsimp only
  ·exact ⟨⟨by omega, by omega⟩, ⟨by omega, by omega⟩, ⟨by omega, by omega⟩⟩
  ·exact ⟨⟨by omega, by omega⟩, ⟨by omega, by omega⟩, ⟨by omega, by omega⟩⟩
end Go.Proofs.Ytacgakkcpmhgmaa
namespace Go.Proofs.Ytacgakkcpmhgmaa
open Go Go.RowKit Go.Proofs
def MakeAt (W00 W : World) (b : Nat) (v2 v3 v4 v5 : Value) (m : Nat) (c l : List Int) : Prop :=
 ∃ gc ca gl la, Blk W b 32 #[sl gc m ca, sl gl m la, v2, v3, v4, v5] /\ Own W (b + 1) (sl gc m ca) m c /\ Own W (b + 1) (sl gl m la) m l /\ gc ≠ gl /\ Below b W00 W /\ b < W.heap.size
theorem makeEnd {W00 V0 V4 : World} {b m g1 cap1 g2 cap2 gc ca gl la : Nat} {v2 v3 v4 v5 : Value} {c l : List Int} {x z : Int}
  (hx : Blk V4 b 32 #[sl gc m ca, sl gl m la, v2, v3, v4, v5])
  (h : TwoRows (b + 1) 3 3 V0 (sl gc m ca) (sl gl m la) V4 (.slice (some ⟨g1, 0, none⟩) (m + 1) cap1) (m + 1) (c.map (Value.int .i64) ++ [Value.int .i64 x]) (.slice (some ⟨g2, 0, none⟩) (m + 1) cap2) (m + 1) (l.map (Value.int .i64) ++ [Value.int .i64 z]))
  (hb : Below b W00 V0) (hV : b < V0.heap.size) (h1 : b + 1 <= gc) (h2 : b + 1 <= gl) :
  MakeAt W00 ((V4.setCell ⟨b, 0, none⟩ (.slice (some ⟨g1, 0, none⟩) (m + 1) cap1)).setCell ⟨b, 1, none⟩ (.slice (some ⟨g2, 0, none⟩) (m + 1) cap2)) b v2 v3 v4 v5 (m + 1) (c ++ [x]) (l ++ [z]) := by
  have o1 : Own V4 (b + 1) (.slice (some ⟨g1, 0, none⟩) (m + 1) cap1) (m + 1) (c ++ [x]) := by unfold Own; rw [List.map_append]; exact h.own1
  have o2 : Own V4 (b + 1) (.slice (some ⟨g2, 0, none⟩) (m + 1) cap2) (m + 1) (l ++ [z]) := by unfold Own; rw [List.map_append]; exact h.own2
  have n1 : (Value.slice (some ⟨g1, 0, none⟩) (m + 1) cap1).ownBlock ≠ some b := fun q => by have := (o1.lt _ q).1; omega
  have n2 : (Value.slice (some ⟨g2, 0, none⟩) (m + 1) cap2).ownBlock ≠ some b := fun q => by have := (o2.lt _ q).1; omega
  refine ⟨g1, cap1, g2, cap2, ?_, own_set (own_set o1 (p := ⟨b, 0, none⟩) n1 _) (p := ⟨b, 1, none⟩) n1 _, own_set (own_set o2 (p := ⟨b, 0, none⟩) n2 _) (p := ⟨b, 1, none⟩) n2 _, ?_, ?_, ?_⟩
  ·have := (hx.set_ 0 (.slice (some ⟨g1, 0, none⟩) (m + 1) cap1)).set_ 1 (.slice (some ⟨g2, 0, none⟩) (m + 1) cap2)
   simpa using this
  ·have := h.ap
   unfold Apart at this
   simpa [Value.ownBlock] using this
  ·have hf : Below b V0 V4 := h.fr.below (Nat.le_of_lt hV) (fun k hk e => by
    rcases e with e | e
    ·simp only [Value.ownBlock, Option.some.injEq] at e; omega
    ·simp only [Value.ownBlock, Option.some.injEq] at e; omega)
   exact ((hb.trans hf).setCell (p := ⟨b, 0, none⟩) (Nat.le_refl _) _).setCell (p := ⟨b, 1, none⟩) (Nat.le_refl _) _
  ·have := h.fr.size
   have e : ∀ (W : World) (p : Addr) (v : Value), (W.setCell p v).heap.size = W.heap.size := fun W p v => by simp [World.setCell]
   rw [e, e]
   exact Nat.lt_of_lt_of_le hV this
def outsI (k : Nat) (O : List Nat) (i : Nat) : List Int := (List.range k).map fun j => if j < i then ((O.getD j 0 % 2 : Nat) : Int) else ((O.getD j 0 : Nat) : Int)
theorem outsI_len (k : Nat) (O : List Nat) (i : Nat) : (outsI k O i).length = k := by simp [outsI]
theorem outsI_at {k : Nat} {O : List Nat} {i j : Nat} (h : j < k) : (outsI k O i).getD j 0 = if j < i then ((O.getD j 0 % 2 : Nat) : Int) else ((O.getD j 0 : Nat) : Int) := by
 simp [outsI, List.getD_eq_getElem?_getD, h]
theorem outsI_zero {k : Nat} {O : List Nat} (h : O.length = k) : outsI k O 0 = intsN O := by
 apply List.ext_getElem
 ·simp [outsI, intsN, h]
 ·intro i h1 h2
  have h3 : i < O.length := by simpa [intsN] using h2
  simp [outsI, intsN, List.getD_eq_getElem?_getD, List.getElem?_eq_getElem h3]
theorem outsI_set {k : Nat} {O : List Nat} {i : Nat} (h : i < k) : (outsI k O i).set i ((O.getD i 0 % 2 : Nat) : Int) = outsI k O (i + 1) := by
 apply List.ext_getElem
 ·simp [outsI]
 ·intro j h1 h2
  simp only [outsI, List.getElem_set, List.getElem_map, List.getElem_range]
  by_cases e : i = j
  ·subst e; rw [if_pos rfl, if_pos (by omega)]
  ·rw [if_neg e]
   by_cases q : j < i
   ·rw [if_pos q, if_pos (by omega)]
   ·rw [if_neg q, if_neg (by omega)]
theorem outsI_all {k : Nat} {O : List Nat} : (outsI k O k).set 0 1 = outsL k O := by
 apply List.ext_getElem
 ·simp [outsI, outsL]
 ·intro j h1 h2
  have hj : j < k := by simpa [outsL] using h2
  simp only [outsI, outsL, List.getElem_set, List.getElem_map, List.getElem_range]
  by_cases e : 0 = j
  ·subst e; rw [if_pos rfl, if_pos rfl]
  ·rw [if_neg e, if_pos hj, if_neg (fun h : j = 0 => e h.symm)]
theorem fillCL_succ : ∀ (j : Nat) (s : CL), fillCL (j + 1) s = (fillCL j s).push 3 (fillCL j s).next
 | 0, s => rfl
 | j + 1, s => by
   show fillCL (j + 1) (s.push 3 s.next) = _
   rw [fillCL_succ j]
   rfl
theorem OwnLL.frB {w w' : World} {B sz k : Nat} {e e' : TypeId} {v : Value} {xss : List (Nat × List Value)} {X : Nat -> Prop} (h : OwnLL w B e e' sz v k xss) (hf : Fr X w w') (hX : ∀ q, B <= q -> ¬ X q) : OwnLL w' B e e' sz v k xss := by
 obtain ⟨h1, vals, h2, h3⟩ := h
 exact ⟨h1, vals, rowFr h2 hf (fun q hq => hX q (h2.lt q hq).1), fun i hi => ⟨rowFr (h3 i hi).1 hf (fun q hq => hX q ((h3 i hi).1.lt q hq).1), (h3 i hi).2⟩⟩
structure OutS (w : World) (B0 B1 b b0 : Nat) (v0 v1 v2 v3 v4 v5 : Value) (m k n : Nat) (c l : List Int) (T : List (List Nat)) (vals : List Value) (O : List Int) (xf xe : List (Nat × List Value)) (W : World) : Prop where
 x : Blk W b 32 #[v0, v1, v2, v3, v4, v5]
 c : Own W (b + 1) v0 m c
 l : Own W (b + 1) v1 m l
 vn : W.ownsRow B0 22 1 v2 k vals
 rw_ : ∀ q, q < k -> Own W B0 (vals.getD q undef) n (intsN (T.getD q [])) /\ Apart v3 (vals.getD q undef)
 vo : Own W B0 v3 k O
 fn : OwnLL W B1 22 3 1 v4 k xf
 fe : OwnLL W B1 36 51 3 v5 k xe
 x0 : Blk W b0 32 #[.slice none 0 0, .slice none 0 0, .slice none 0 0, .slice none 0 0, .slice none 0 0, .slice none 0 0]
 low : Below w.heap.size w W
section
variable {w W : World} {B0 B1 b b0 go oc m k n : Nat} {v0 v1 v2 v4 v5 : Value} {c l : List Int} {T : List (List Nat)} {vals : List Value} {O : List Int} {xf xe : List (Nat × List Value)}
theorem OutS.store (h : OutS w B0 B1 b b0 v0 v1 v2 (sl go k oc) v4 v5 m k n c l T vals O xf xe W) (h1 : go < B1) (h2 : B1 <= b) (h3 : b0 < B0) (hw : w.heap.size <= B0) (i : Nat) (y : Int) :
  OutS w B0 B1 b b0 v0 v1 v2 (sl go k oc) v4 v5 m k n c l T vals (O.set i y) xf xe (W.setCell ⟨go, i, none⟩ (.int .i64 y)) := by
  have hgo : B0 <= go := (h.vo.lt go rfl).1
  have hf : Fr (fun q => q = go) W (W.setCell ⟨go, i, none⟩ (.int .i64 y)) := (Fr.refl (fun q => q = go) W).set_ (p := ⟨go, i, none⟩) (.inl rfl) _
  refine ⟨h.x.far (p := ⟨go, i, none⟩) (by show b ≠ go; omega) _, own_set h.c (p := ⟨go, i, none⟩) (fun e => by have := (h.c.lt _ e).1; have : b + 1 <= go := this; omega) _, own_set h.l (p := ⟨go, i, none⟩) (fun e => by have := (h.l.lt _ e).1; have : b + 1 <= go := this; omega) _,
   rowFr h.vn hf (fun q hq e => ?_), fun q hq => ⟨own_set (h.rw_ q hq).1 (p := ⟨go, i, none⟩) (fun e => ?_) _, (h.rw_ q hq).2⟩, (h.vo.stored i y).1, h.fn.frB hf (fun q hq e => by omega), h.fe.frB hf (fun q hq e => by omega), h.x0.far (p := ⟨go, i, none⟩) (by show b0 ≠ go; omega) _, h.low.setCell (p := ⟨go, i, none⟩) (by show w.heap.size <= go; omega) _⟩
  ·subst e
   exact rows_ne h.vn h.vo (by decide) q hq rfl
  ·rcases (h.rw_ q hq).2 with r | r | r
   ·cases r
   ·rw [r] at e; cases e
   ·exact r e.symm
theorem OutS.tab (h : OutS w B0 B1 b b0 v0 v1 v2 (sl go k oc) v4 v5 m k n c l T vals O xf xe W) {W' : World} (hf : Fr (fun q => q <= b0) W W') (h3 : b0 < B0) (h4 : B0 <= B1) (h5 : B1 <= b) (hm : c.length = m /\ l.length = m) (hO : O.length = k) (hT : T.length = k) (hTn : ∀ q, q < k -> (T.getD q []).length = n)
  {T2 : List (List Nat)} (hT2 : T2.length = k) (hxf : ∀ i, i < k -> xf.getD i (0, []) = ((T2.getD i []).length, (intsN (T2.getD i [])).map (Value.int .i64))) {E : List (List V3)} (hE : E.length = k) (hxe : ∀ i, i < k -> xe.getD i (0, []) = ((E.getD i []).length, (E.getD i []).flatMap encV)) :
  TabR W' v0 v1 v2 (sl go k oc) v4 v5 ⟨c, l, T.map intsN, O, T2.map intsN, E⟩ := by
  have kp : ∀ {B n : Nat} {v : Value} {l : List Int}, b0 < B -> Own W B v n l -> Own W' B v n l := fun hB ho => hf.own ho (fun k hk e => by have := (ho.lt k hk).1; omega)
  have hll : OwnLL W' B0 22 3 1 v2 k (xssT T k) := by
   refine ⟨by simp [xssT], vals, rowFr h.vn hf (fun q hq e => by have := (h.vn.lt q hq).1; omega), fun q hq => ?_⟩
   have e : (xssT T k).getD q (0, []) = (n, (intsN (T.getD q [])).map (Value.int .i64)) := by rw [xssT_at T hq, hTn q hq]
   rw [e]
   refine ⟨kp h3 (h.rw_ q hq).1, ?_⟩
   cases hv : v2.ownBlock with
   | none => exact .inl hv
   | some z => exact .inr (.inr (fun q' => by rw [hv] at q'; exact rows_ne h.vn (h.rw_ q hq).1 (by decide) z hv q'.symm))
  refine ⟨?_, ?_, ?_, ?_, ?_, ?_⟩
  ·show ReadsI W' v0 c.length c
   rw [hm.1]; exact (kp (by omega) h.c).readsI
  ·show ReadsI W' v1 l.length l
   rw [hm.2]; exact (kp (by omega) h.l).readsI
  ·exact (hll.nextR hT (fun i hi => xssT_at T hi)).rowsI
  ·show ReadsI W' (sl go k oc) O.length O
   rw [hO]; exact (kp h3 h.vo).readsI
  ·exact ((h.fn.frB hf (fun q hq e => by omega)).nextR hT2 hxf).rowsI
  ·exact (h.fe.frB hf (fun q hq e => by omega)).emitR hE hxe
end
end Go.Proofs.Ytacgakkcpmhgmaa
namespace Go.Proofs.Ytacgakkcpmhgmaa
open Go Go.RowKit Go.Proofs
theorem flat_le {α : Type} {en : α -> List Int} {q : Nat} : ∀ (l : List α), (∀ a ∈ l, (en a).length <= q) -> (l.flatMap en).length <= l.length * q
 | [], _ => by simp
 | a :: l, h => by
   have h1 := h a (by simp)
   have h2 := flat_le l (fun b hb => h b (by simp [hb]))
   rw [List.flatMap_cons, List.length_append, List.length_cons, Nat.succ_mul]
   omega
theorem right_len {t : Tab} (h : RightT t) (hb : t.bn.length <= 9) (hf : t.fn.length <= 9) (hc : cntL t.letters <= 3) (ho : maxL t.bo <= 1) (hq : t.cuts.length <= 2000) : (enT t).length <= 10000 := by
 rw [enT_parts, enN_len, enN_len, enN_len]
 have e1 : (enRows t.bn).length = (t.bn.flatMap enN).length + 1 := rfl
 have e2 : (enRows t.fn).length = (t.fn.flatMap enN).length + 1 := rfl
 have e3 : (enEmits t.fe).length = (t.fe.flatMap enVecs).length + 1 := rfl
 have g1 := flat_le (en := enN) (q := 4) t.bn (fun a ha => by rw [enN_len, (h.back.2.2 a ha).1]; omega)
 have g2 := flat_le (en := enN) (q := 4) t.fn (fun a ha => by rw [enN_len, (h.fwd.2.2 a ha).1]; omega)
 have g3 := flat_le (en := enVecs) (q := 7) t.fe (fun a ha => by rw [enVecs_len]; have := (h.emits.2 a ha).1; omega)
 have l1 := h.lets
 have l2 := h.outs.1
 have l3 := h.emits.1
 have m1 : t.bn.length * 4 <= 36 := by omega
 have m2 : t.fn.length * 4 <= 36 := by omega
 have m3 : t.fe.length * 7 <= 63 := by omega
 omega
theorem lawTab_len {ns ms cs : List Int} {k n : Nat} (hk : 0 < k) (hk9 : k <= 9) (hn : 0 < n) (hn3 : n <= 3) : (enT (lawTab ns ms cs k n)).length <= 10000 := by
 have hr := lawTab_right (ns := ns) (ms := ms) (cs := cs) hk (by omega) hn (by omega)
 refine right_len hr ?_ ?_ ?_ ?_ ?_
 ·show ((lawT ns k n).map intsN).length <= 9
  rw [List.length_map, lawT_len]; exact hk9
 ·show ((lawT ms k n).map intsN).length <= 9
  rw [List.length_map, lawT_len]; exact hk9
 ·show cntL (makeCL n cs).l <= 3
  rw [(makeCL_alpha hn (by omega) cs).2]; exact hn3
 ·show maxL (outsL k (lawO ns k n)) <= 1
  rw [outsL_max hk]; exact Int.le_refl _
 ·show (makeCL n cs).c.length <= 2000
  have h0 := someCL_ok hn (cs.take 6)
  have hl := (someCL_len n (cs.take 6)).1
  rw [List.length_take] at hl
  obtain ⟨h, h1, h2⟩ := fillCL_ok (n - (someCL n (cs.take 6)).next) _ h0 (by have := h0.le; omega)
  unfold makeCL
  rw [h2]
  omega
theorem RightT.lens {t : Tab} (h : RightT t) (hl : (enT t).length <= 10000) : t.cuts.length <= 10000 /\ t.letters.length <= 10000 /\ t.bn.length <= 10000 /\ t.bo.length <= 10000 /\ t.fn.length <= 10000 /\ t.fe.length <= 10000 := by
 rw [enT_parts, enN_len, enN_len, enN_len] at hl
 have e1 : (enRows t.bn).length = (t.bn.flatMap enN).length + 1 := rfl
 have e2 : (enRows t.fn).length = (t.fn.flatMap enN).length + 1 := rfl
 have e3 : (enEmits t.fe).length = (t.fe.flatMap enVecs).length + 1 := rfl
 have g1 := flat_ge (en := enN) codecN.pos t.bn
 have g2 := flat_ge (en := enN) codecN.pos t.fn
 have g3 := flat_ge (en := enVecs) codecVecs.pos t.fe
 refine ⟨by omega, by omega, by omega, by omega, by omega, by omega⟩
end Go.Proofs.Ytacgakkcpmhgmaa
