/- mini.Back, of a machine. -/
import Derived.Test.YtdcokkgdahbinaaVMiniU
set_option linter.unusedVariables false
set_option linter.unusedSimpArgs false
set_option maxRecDepth 100000
set_option maxHeartbeats 8000000
namespace Go.Proofs.Ytdcokkgdahbinaa
open Go Go.RowKit Go.Proofs
section
variable {w w' : World} {B : Nat}
theorem rowFr {X : Nat -> Prop} {e : TypeId} {u : Value} {n sz : Nat} {xs : List Value} (h : w.ownsRow B e sz u n xs) (hf : Fr X w w') (hX : ∀ q, u.ownBlock = some q -> ¬ X q) : w'.ownsRow B e sz u n xs := by
 have hlt := h.lt
 obtain ⟨h1, h2⟩ := h
 refine ⟨h1, ?_⟩
 rcases h2 with h2 | ⟨g, cap, cur, rfl, hg, hh, r⟩
 ·exact .inl h2
 ·exact .inr ⟨g, cap, cur, rfl, hg, by rw [hf.block g (hlt g rfl).2 (hX g rfl)]; exact hh, r⟩
theorem OwnLL.keepT {X : Nat -> Prop} {e e' t : TypeId} {k p : Nat} {v : Value} {xss : List (Nat × List Value)} {cs : Array Value} (h : OwnLL w B e e' 1 v k xss) (hf : Fr X w w') (hX : ∀ q, X q -> q = p) (hp : Blk w p t cs) (h1 : t ≠ e) (h2 : t ≠ e') : OwnLL w' B e e' 1 v k xss := by
 obtain ⟨h3, vals, h4, h5⟩ := h
 exact ⟨h3, vals, rowFr h4 hf (fun q hq hx => by have e := hX q hx; subst e; exact blk_ne hp h4 h1 hq), fun i hi => ⟨rowFr (h5 i hi).1 hf (fun q hq hx => by have e := hX q hx; subst e; exact blk_ne hp (h5 i hi).1 h2 hq), (h5 i hi).2⟩⟩
end
structure PB where
 p5 : Nat
 GA : Option Addr
 gc : Nat
 Xn : Option Addr
 xnn : Nat
 xnc : Nat
 FA : Option Addr
 fc : Nat
 gn : Nat
 f : Nat -> Nat
theorem back_any {w : World} {NA OA : Option Addr} {nc oc n k : Nat} {T : List (List Nat)} {outs : List Nat} (h : NextR w (.slice NA n nc) T) (hl : T.length = n) (hT : RectN T k) (ho : ReadsI w (.slice OA n oc) n (intsN outs)) (hn : n <= 1000) (hk : k <= 1000) (hob : ∀ x, outs.getD x 0 <= 9223372036854775807) :
  Calls Try.prog 16 #[.agg #[.slice NA n nc, .slice OA n oc]] w fun e w' => ∃ vn vo gn f, e = .returned (.tuple #[.agg #[vn, vo], sl gn n n]) /\ (∀ x y, x < n -> y < n -> (f x = f y ↔ AlikeN T k (fun x => ((outs.getD x 0 : Nat) : Int)) x y)) /\
   OwnLL w' w.heap.size 22 3 1 vn (repN T (EF f)).length (xssN (rowsN T (EF f) (repN T (EF f)))) /\ Own w' w.heap.size vo (repN T (EF f)).length ((repN T (EF f)).map fun x => ((outs.getD x 0 : Nat) : Int)) /\ Own w' w.heap.size (sl gn n n) n (rowZ n (nameN T (EF f))) /\ Below w.heap.size w w' := by
  have hpos : 0 < n := by have := hT.pos; omega
  obtain ⟨g, hg⟩ : ∃ g : Nat -> Int, (fun x => ((outs.getD x 0 : Nat) : Int)) = g := ⟨_, rfl⟩
  have hgx : ∀ x, g x = ((outs.getD x 0 : Nat) : Int) := fun x => by rw [<- hg]
  have hwf : ∀ x, x < n -> keyOf Try.prog 3 (.int .i64 (g x)) = some (.int .i64 (g x)) := fun x _ => Go.Maps.keyOf_int_mk Try.underlying3 (WalkArith.wf_i64 (by rw [hgx]; have := hob x; omega))
  rw [hg]
  clear hg
  obtain ⟨-, OA', c', e, hoc, hoc2, -, -⟩ := id ho
  simp only [Value.slice.injEq, true_and] at e
  obtain ⟨rfl, rfl⟩ := e
  unfold maxLen at hoc2
  obtain ⟨W0, hW0⟩ : ∃ W0, ((w.alloc (.cells #[.slice NA n nc, .slice OA n oc] 26)).alloc (.cells #[.slice none 0 0, .slice none 0 0] 26)).alloc (.cells #[.slice NA n nc, .slice OA n oc] 59) = W0 := ⟨_, rfl⟩
  have hb0 : Below w.heap.size w W0 := by rw [<- hW0]; exact (((Below.refl _ _).alloc (Nat.le_refl _) _).alloc (by simp) _).alloc (by simp; omega) _
  have hx2 : Blk W0 (w.heap.size + 1) 26 #[.slice none 0 0, .slice none 0 0] := by
   rw [<- hW0]
   have := Blk.new (w.alloc (.cells #[.slice NA n nc, .slice OA n oc] 26)) 26 #[.slice none 0 0, .slice none 0 0]
   rw [World.size_alloc] at this
   exact this.alloc _
  have hx4 : Blk W0 (w.heap.size + 1 + 1) 59 #[.slice NA n nc, .slice OA n oc] := by
   rw [<- hW0]
   have := Blk.new ((w.alloc (.cells #[.slice NA n nc, .slice OA n oc] 26)).alloc (.cells #[.slice none 0 0, .slice none 0 0] 26)) 59 #[.slice NA n nc, .slice OA n oc]
   rw [World.size_alloc, World.size_alloc] at this
   exact this
  obtain ⟨b2, hb2⟩ : ∃ b, b = w.heap.size + 1 := ⟨_, rfl⟩
  obtain ⟨b4, hb4⟩ : ∃ b, b = w.heap.size + 1 + 1 := ⟨_, rfl⟩
  rw [<- hb2] at hx2
  rw [<- hb4] at hx4
  have hri := right_any (h.below hb0) hl hT (ho.below hb0) hn hk
  have HRI := Lib.hid hri; have HNR0 := Lib.hid (h.below hb0); have HO0 := Lib.hid (ho.below hb0); have HT := Lib.hid hT; have HL := Lib.hid hl; have HB0 := Lib.hid hb0; have HW0 := Lib.hid hW0; have HB2 := Lib.hid hb2; have HB4 := Lib.hid hb4; have HX20 := Lib.hid hx2; have HX40 := Lib.hid hx4; have HWF := Lib.hid hwf; have HGX := Lib.hid hgx
  clear h hl hT ho hb0 hW0 hb2 hb4 hx2 hx4 hri hwf hgx hob
  go_enter Try.func16, Try.ntmps16
  go_wp2_with fail
  rw [HW0.out, <- HB4.out, <- HB2.out]
  refine HRI.out.mono ?_
  rintro e w1 ⟨rfl, hb1⟩
  have hBL1 := HB0.out.trans (hb1.mono HB0.out.size)
  have HX2a := Lib.hid (Blk.below HX20.out hb1 HX20.out.lt); have hx4 := Blk.below HX40.out hb1 HX40.out.lt
  have HNR := Lib.hid (HNR0.out.below hb1); have HO := Lib.hid (HO0.out.below hb1); have HBL1 := Lib.hid hBL1
  have hgrp : ∀ V, Below w1.heap.size w1 V -> Calls Try.prog 32 #[.agg #[.slice NA n nc, .slice OA n oc], .func (.func 33) #[] #[]] V fun e w' => ∃ A c, e = .returned (.slice A (grpG g n).length c) /\ NextR w' (.slice A (grpG g n).length c) (grpG g n) /\ Below V.heap.size V w' := fun V hV => groupsI_any hn HWF.out (fun W hW x hx => by
   rw [HGX.out x]
   exact out_any (HO.out.below (hV.trans (hW.mono hV.size))) hx)
  have htd0 : ∀ V, Below w1.heap.size w1 V -> ∀ W, Below V.heap.size V W -> ∀ x, x < n -> Calls Try.prog 33 #[.agg #[.slice NA n nc, .slice OA n oc], .int .i64 (x : Int)] W fun e w' => e = .returned (.int .i64 (g x)) /\ Below W.heap.size W w' := fun V hV W hW x hx => by
   rw [HGX.out x]
   exact out_any (HO.out.below (hV.trans (hW.mono hV.size))) hx
  have HTD0 := Lib.hid htd0
  have hgo := grpG_of g n
  have hgn : ∀ i, i < (grpG g n).length -> ((grpG g n).getD i []).Nodup /\ ∀ x ∈ (grpG g n).getD i [], x < n := fun i _ => grpG_row g n i
  have hgl9 : (grpG g n).length <= 1000 := by rw [grpG_len]; exact Nat.le_trans (keysG_len g n) hn
  generalize grpG g n = Gs at *
  obtain ⟨gl, hgl⟩ : ∃ gl, Gs.length = gl := ⟨_, rfl⟩
  rw [hgl] at hgrp hgn hgl9
  have HGRP := Lib.hid hgrp; have HGO := Lib.hid hgo; have HGN := Lib.hid hgn; have HGL := Lib.hid hgl
  have HKS : Hid (∀ W : World, Below w1.heap.size w1 W -> (fun W : World => W.cell? ⟨b4, 0, none⟩ = some (.slice NA n nc) /\ W.cell? ⟨b4, 1, none⟩ = some (.slice OA n oc)) W) := Lib.hid (fun W hW => by
   have h0 := (Blk.below hx4 hW hx4.lt).cell 0
   have h1 := (Blk.below hx4 hW hx4.lt).cell 1
   exact ⟨by simpa using h0, by simpa using h1⟩)
  have hb41 : b4 < w1.heap.size := hx4.lt
  have HX4 := Lib.hid hx4
  clear hb1 hBL1 htd0 hgo hgn hgl hgrp hx4 HRI HNR0 HO0 HX20 HX40 HWF
  go_wp2_with fail
  refine region_xq (π := PB) 6 (fun W : World => W.cell? ⟨b4, 0, none⟩ = some (.slice NA n nc) /\ W.cell? ⟨b4, 1, none⟩ = some (.slice OA n oc)) (fun (p : PB) (a : Act) => ((((((a.put (some 16) (.pointer (some ⟨b4, 0, none⟩))).put (some 17) (.agg #[.slice NA n nc])).put (some 18) (.agg #[.slice NA n nc, .slice OA n oc])).put (some 19) (.slice p.GA gl p.gc)).put (some 20) (.agg #[.slice p.Xn p.xnn p.xnc, .slice p.FA (repN T (EF p.f)).length p.fc, sl p.gn n n])).put (some 5) (.pointer (some ⟨p.p5, 0, none⟩)))) (fun (p : PB) (W : World) => (Below w1.heap.size w1 W /\ OwnLL W w1.heap.size 22 3 1 (.slice p.Xn p.xnn p.xnc) (repN T (EF p.f)).length (xssN (rowsN T (EF p.f) (repN T (EF p.f)))) /\ Own W w1.heap.size (.slice p.FA (repN T (EF p.f)).length p.fc) (repN T (EF p.f)).length (intsN (repN T (EF p.f))) /\ Own W w1.heap.size (sl p.gn n n) n (rowZ n (nameN T (EF p.f))) /\ (∀ x y, x < n -> y < n -> (p.f x = p.f y ↔ AlikeN T k g x y)) /\ w1.heap.size <= p.p5) /\ Blk W p.p5 61 #[.slice p.Xn p.xnn p.xnc, .slice p.FA (repN T (EF p.f)).length p.fc, sl p.gn n n]) (fun (p : PB) (W : World) => (Below w1.heap.size w1 W /\ OwnLL W w1.heap.size 22 3 1 (.slice p.Xn p.xnn p.xnc) (repN T (EF p.f)).length (xssN (rowsN T (EF p.f) (repN T (EF p.f)))) /\ Own W w1.heap.size (.slice p.FA (repN T (EF p.f)).length p.fc) (repN T (EF p.f)).length (intsN (repN T (EF p.f))) /\ Own W w1.heap.size (sl p.gn n n) n (rowZ n (nameN T (EF p.f))) /\ (∀ x y, x < n -> y < n -> (p.f x = p.f y ↔ AlikeN T k g x y)) /\ w1.heap.size <= p.p5) /\ Blk W p.p5 61 #[.slice none 0 0, .slice none 0 0, .slice none 0 0] /\ (W.cell? ⟨b4, 0, none⟩ = some (.slice NA n nc) /\ W.cell? ⟨b4, 1, none⟩ = some (.slice OA n oc))) 1 #[true, true, true, true, true, true, false] (by kernel_rfl) ?_ ?_ ?_
  ·clear HKS
   rintro ⟨p5, GA, gc, Xn, xnn, xnc, FA, fc, gn, f⟩ W ⟨⟨h1, h2, h3, h4, h5, h6⟩, h9, h10⟩
   dsimp only at h1 h2 h3 h4 h5 h6 h9 h10 ⊢
   try simp only [Act.put, zq1, zq2, zq3, zq4, zq5, zq6]
   have r0 := Blk.cell h9 0; have f0 := Blk.frozen h9 0
   have r1 := Blk.cell h9 1; have f1 := Blk.frozen h9 1
   have r2 := Blk.cell h9 2; have f2 := Blk.frozen h9 2
   simp only [List.getElem?_toArray, List.getElem?_cons_zero, List.getElem?_cons_succ] at r0 r1 r2
   have H1 := Lib.hid h1
   have H2 := Lib.hid h2
   have H3 := Lib.hid h3
   have H4 := Lib.hid h4
   have H5 := Lib.hid h5
   have H6 := Lib.hid h6
   have H9 := Lib.hid h9
   clear h1 h2 h3 h4 h5 h6 h9 h10
   refine anyX_last (by kernel_rfl) (by kernel_rfl) rfl rfl ?_
   try simp only [zq1, zq2, zq3]
   go_simp
   refine .inl ⟨⟨p5, GA, gc, Xn, xnn, xnc, FA, fc, gn, f⟩, rfl, ?_, ?_⟩
   ·dsimp only
    simp only [Act.put, zq1, zq2, zq3, zq4, zq5, zq6]
   have hfr : Fr (fun q => q = p5) W ((((W).setCell ⟨p5, 0, none⟩ (.slice Xn xnn xnc)).setCell ⟨p5, 1, none⟩ (.slice FA (repN T (EF f)).length fc)).setCell ⟨p5, 2, none⟩ (sl gn n n)) := ((((Fr.refl (fun q => q = p5) W).set_ (p := ⟨p5, 0, none⟩) (.inl rfl) _).set_ (p := ⟨p5, 1, none⟩) (.inl rfl) _).set_ (p := ⟨p5, 2, none⟩) (.inl rfl) _)
   refine ⟨⟨H1.out.trans (hfr.below H1.out.size (fun q hq e => by have := H6.out; omega)), H2.out.keepT hfr (fun q e => e) H9.out (by decide) (by decide), rowFr H3.out hfr (fun q hq e => by subst e; exact blk_ne H9.out H3.out (by decide) hq), rowFr H4.out hfr (fun q hq e => by subst e; exact blk_ne H9.out H4.out (by decide) hq), H5.out, H6.out⟩, ?_⟩
   have := (((H9.out.set_ 0 (.slice Xn xnn xnc)).set_ 1 (.slice FA (repN T (EF f)).length fc)).set_ 2 (sl gn n n))
   simpa using this
  ·intro HLF
   have hb : Below w1.heap.size w1 w1.drew := (Below.refl _ _).drew
   have hS := HKS.out _ hb
   generalize w1.drew = V0 at *
   refine tkx (i := 0) (v := ?_) hS ?_ ?_ (hQ := by exact ends_panic _ _ (fun _ _ _ h => h))
   rotate_left
   ·rintro w' ⟨s0', s1'⟩
    go_simp
    try with_reducible rfl
   try simp only [Act.put, zq1, zq2, zq3, zq4, zq5, zq6]
   refine tkx (i := 1) (v := ?_) hS ?_ ?_ (hQ := by exact ends_panic _ _ (fun _ _ _ h => h))
   rotate_left
   ·rintro w' ⟨s0', s1'⟩
    go_simp
    try with_reducible rfl
   try simp only [Act.put, zq1, zq2, zq3, zq4, zq5, zq6]
   refine tkx (i := 2) (v := ?_) hS ?_ ?_ (hQ := by exact ends_panic _ _ (fun _ _ _ h => h))
   rotate_left
   ·rintro w' ⟨s0', s1'⟩
    go_simp
    try with_reducible rfl
   try simp only [Act.put, zq1, zq2, zq3, zq4, zq5, zq6]
   refine anyX_2 (i := 3) (j := 5) (by kernel_rfl) (by decide) (by decide) rfl rfl rfl rfl ?_ ?_
   ·intro K hK
    try simp only [zq1, zq2, zq3]
    refine wp_enterE #[.agg #[.slice NA n nc, .slice OA n oc], .func (.func 33) #[] #[]] Try.func32 (by kernel_rfl) (by kernel_rfl) ?_ (HGRP.out V0 hb) ?_
    ·go_simp
    rintro e V1 ⟨GA, gc, rfl, hnx, hbn⟩
    refine ⟨_, rfl, ?_⟩
    replace hb := hb.trans (hbn.mono hb.size)
    clear hbn
    have hS := HKS.out _ hb
    refine hK _ _ hS ?_
    clear hK
    try simp only [Act.put, zq1, zq2, zq3, zq4, zq5, zq6]
    refine anyX_2 (i := 4) (j := 5) (by kernel_rfl) (by decide) (by decide) rfl rfl rfl rfl ?_ ?_
    ·intro K hK
     try simp only [zq1, zq2, zq3]
     refine wp_enterE #[.agg #[.slice NA n nc], .slice GA gl gc] Try.func31 (by kernel_rfl) (by kernel_rfl) ?_ (fewest_any (g := g) (HNR.out.below hb) HL.out HT.out hn hk hnx HGL.out hgl9 HGN.out HGO.out) ?_
     ·go_simp
     rintro e V2 ⟨vn, vf, gn, f, rfl, hff, hoL, hoF, hoN, hbn⟩
     refine ⟨_, rfl, ?_⟩
     obtain ⟨Xn, xnn, xnc, rfl⟩ := hoL.formS
     obtain ⟨FA, fc, rfl, -, -, -⟩ := hoF.readsI.form
     replace hoL := hoL.more hb.size
     replace hoF := hoF.more hb.size
     replace hoN := hoN.more hb.size
     replace hnx := hnx.below hbn
     replace hb := hb.trans (hbn.mono hb.size)
     clear hbn
     have hS := HKS.out _ hb
     refine hK _ _ hS ?_
     clear hK
     try simp only [Act.put, zq1, zq2, zq3, zq4, zq5, zq6]
     refine anyX_g (i := 5) (by kernel_rfl) (by decide) rfl (by rfl) ?_
     intro K hK
     try simp only [zq1, zq2, zq3]
     go_simp
     obtain ⟨V3, eV⟩ : ∃ W', V2.alloc (.cells #[.slice none 0 0, .slice none 0 0, .slice none 0 0] 61) = W' := ⟨_, rfl⟩
     have hbn : Below V2.heap.size V2 V3 := by rw [<- eV]; exact (Below.refl _ _).alloc (Nat.le_refl _) _
     have xp5 : Blk V3 V2.heap.size 61 #[.slice none 0 0, .slice none 0 0, .slice none 0 0] := by rw [<- eV]; exact Blk.new _ _ _
     have hlep5 := hb.size
     rw [eV]
     clear eV
     replace hnx := hnx.below hbn
     replace hoL := hoL.below hbn
     replace hoF := hoF.below_top hbn
     replace hoN := hoN.below_top hbn
     replace hb := hb.trans (hbn.mono hb.size)
     clear hbn
     obtain ⟨p5, hp⟩ : ∃ p, p = V2.heap.size := ⟨_, rfl⟩
     rw [<- hp] at xp5 hlep5 ⊢
     clear hp
     have hS := HKS.out _ hb
     refine hK _ _ hS ?_
     clear hK
     try simp only [Act.put, zq1, zq2, zq3, zq4, zq5, zq6]
     have hlf := HLF ⟨p5, GA, gc, Xn, xnn, xnc, FA, fc, gn, f⟩ _ ⟨⟨hb, hoL, hoF, hoN, hff, hlep5⟩, xp5, hS⟩
     dsimp only at hlf
     simp only [Act.put, zq1, zq2, zq3, zq4, zq5, zq6] at hlf
     exact hlf
    ·intro K hK
     try simp only [zq1, zq2, zq3]
     go_simp
     obtain ⟨V2, eV⟩ : ∃ W', V1.alloc (.cells #[.slice none 0 0, .slice none 0 0, .slice none 0 0] 61) = W' := ⟨_, rfl⟩
     have hbn : Below V1.heap.size V1 V2 := by rw [<- eV]; exact (Below.refl _ _).alloc (Nat.le_refl _) _
     have xp5 : Blk V2 V1.heap.size 61 #[.slice none 0 0, .slice none 0 0, .slice none 0 0] := by rw [<- eV]; exact Blk.new _ _ _
     have hlep5 := hb.size
     rw [eV]
     clear eV
     replace hnx := hnx.below hbn
     replace hb := hb.trans (hbn.mono hb.size)
     clear hbn
     obtain ⟨p5, hp⟩ : ∃ p, p = V1.heap.size := ⟨_, rfl⟩
     rw [<- hp] at xp5 hlep5 ⊢
     clear hp
     have hS := HKS.out _ hb
     refine hK _ _ hS ?_
     clear hK
     try simp only [Act.put, zq1, zq2, zq3, zq4, zq5, zq6]
     refine anyX_g (i := 4) (by kernel_rfl) (by decide) rfl (by rfl) ?_
     intro K hK
     try simp only [zq1, zq2, zq3]
     refine wp_enterE #[.agg #[.slice NA n nc], .slice GA gl gc] Try.func31 (by kernel_rfl) (by kernel_rfl) ?_ (fewest_any (g := g) (HNR.out.below hb) HL.out HT.out hn hk hnx HGL.out hgl9 HGN.out HGO.out) ?_
     ·go_simp
     rintro e V3 ⟨vn, vf, gn, f, rfl, hff, hoL, hoF, hoN, hbn⟩
     refine ⟨_, rfl, ?_⟩
     obtain ⟨Xn, xnn, xnc, rfl⟩ := hoL.formS
     obtain ⟨FA, fc, rfl, -, -, -⟩ := hoF.readsI.form
     replace hoL := hoL.more hb.size
     replace hoF := hoF.more hb.size
     replace hoN := hoN.more hb.size
     replace hnx := hnx.below hbn
     replace xp5 := Blk.below xp5 hbn xp5.lt
     replace hb := hb.trans (hbn.mono hb.size)
     clear hbn
     have hS := HKS.out _ hb
     refine hK _ _ hS ?_
     clear hK
     try simp only [Act.put, zq1, zq2, zq3, zq4, zq5, zq6]
     have hlf := HLF ⟨p5, GA, gc, Xn, xnn, xnc, FA, fc, gn, f⟩ _ ⟨⟨hb, hoL, hoF, hoN, hff, hlep5⟩, xp5, hS⟩
     dsimp only at hlf
     simp only [Act.put, zq1, zq2, zq3, zq4, zq5, zq6] at hlf
     exact hlf
   ·intro K hK
    try simp only [zq1, zq2, zq3]
    go_simp
    obtain ⟨V1, eV⟩ : ∃ W', V0.alloc (.cells #[.slice none 0 0, .slice none 0 0, .slice none 0 0] 61) = W' := ⟨_, rfl⟩
    have hbn : Below V0.heap.size V0 V1 := by rw [<- eV]; exact (Below.refl _ _).alloc (Nat.le_refl _) _
    have xp5 : Blk V1 V0.heap.size 61 #[.slice none 0 0, .slice none 0 0, .slice none 0 0] := by rw [<- eV]; exact Blk.new _ _ _
    have hlep5 := hb.size
    rw [eV]
    clear eV
    replace hb := hb.trans (hbn.mono hb.size)
    clear hbn
    obtain ⟨p5, hp⟩ : ∃ p, p = V0.heap.size := ⟨_, rfl⟩
    rw [<- hp] at xp5 hlep5 ⊢
    clear hp
    have hS := HKS.out _ hb
    refine hK _ _ hS ?_
    clear hK
    try simp only [Act.put, zq1, zq2, zq3, zq4, zq5, zq6]
    refine anyX_g (i := 3) (by kernel_rfl) (by decide) rfl (by rfl) ?_
    intro K hK
    try simp only [zq1, zq2, zq3]
    refine wp_enterE #[.agg #[.slice NA n nc, .slice OA n oc], .func (.func 33) #[] #[]] Try.func32 (by kernel_rfl) (by kernel_rfl) ?_ (HGRP.out V1 hb) ?_
    ·go_simp
    rintro e V2 ⟨GA, gc, rfl, hnx, hbn⟩
    refine ⟨_, rfl, ?_⟩
    replace xp5 := Blk.below xp5 hbn xp5.lt
    replace hb := hb.trans (hbn.mono hb.size)
    clear hbn
    have hS := HKS.out _ hb
    refine hK _ _ hS ?_
    clear hK
    try simp only [Act.put, zq1, zq2, zq3, zq4, zq5, zq6]
    refine anyX_g (i := 4) (by kernel_rfl) (by decide) rfl (by rfl) ?_
    intro K hK
    try simp only [zq1, zq2, zq3]
    refine wp_enterE #[.agg #[.slice NA n nc], .slice GA gl gc] Try.func31 (by kernel_rfl) (by kernel_rfl) ?_ (fewest_any (g := g) (HNR.out.below hb) HL.out HT.out hn hk hnx HGL.out hgl9 HGN.out HGO.out) ?_
    ·go_simp
    rintro e V3 ⟨vn, vf, gn, f, rfl, hff, hoL, hoF, hoN, hbn⟩
    refine ⟨_, rfl, ?_⟩
    obtain ⟨Xn, xnn, xnc, rfl⟩ := hoL.formS
    obtain ⟨FA, fc, rfl, -, -, -⟩ := hoF.readsI.form
    replace hoL := hoL.more hb.size
    replace hoF := hoF.more hb.size
    replace hoN := hoN.more hb.size
    replace xp5 := Blk.below xp5 hbn xp5.lt
    replace hnx := hnx.below hbn
    replace hb := hb.trans (hbn.mono hb.size)
    clear hbn
    have hS := HKS.out _ hb
    refine hK _ _ hS ?_
    clear hK
    try simp only [Act.put, zq1, zq2, zq3, zq4, zq5, zq6]
    have hlf := HLF ⟨p5, GA, gc, Xn, xnn, xnc, FA, fc, gn, f⟩ _ ⟨⟨hb, hoL, hoF, hoN, hff, hlep5⟩, xp5, hS⟩
    dsimp only at hlf
    simp only [Act.put, zq1, zq2, zq3, zq4, zq5, zq6] at hlf
    exact hlf
  ·rintro ⟨p5, GA, gc, Xn, xnn, xnc, FA, fc, gn, f⟩ w2 ⟨⟨h1, h2, h3, h4, h5, h6⟩, h9⟩
   dsimp only at h1 h2 h3 h4 h5 h6 h9 ⊢
   try simp only [Act.put, zq1, zq2, zq3, zq4, zq5, zq6]
   obtain ⟨rl, hrl⟩ : ∃ rl, (repN T (EF f)).length = rl := ⟨_, rfl⟩
   have hEF : EqvN (EF f) := EF.eqv f
   have hrln : rl <= n := by rw [<- hrl, <- HL.out]; exact bfs_len HT.out hEF _
   have hrlt : ∀ x ∈ repN T (EF f), x < n := fun x hx => by rw [<- HL.out]; exact bfs_lt HT.out _ x hx
   rw [hrl] at h3 h9 ⊢
   have HTD : Hid (∀ V, Below w2.heap.size w2 V -> Calls Try.prog 34 #[.agg #[.slice NA n nc, .slice OA n oc], .func (.func 33) #[] #[], .slice FA rl fc] V fun e w' => ∃ u, e = .returned u /\ Own w' V.heap.size u rl ((repN T (EF f)).map g) /\ Below V.heap.size V w') := Lib.hid (fun V hV => toldI_any ((h3.readsI).below hV) hrlt (by omega) (HTD0.out V (h1.trans (hV.mono h1.size))))
   have hx2 := Blk.below HX2a.out h1 HX2a.out.lt
   have hx4 := Blk.below HX4.out h1 HX4.out.lt
   have h25 : ¬ p5 = b2 := blk_ne2 h9 hx2 (by decide)
   have h24 : ¬ b4 = b2 := by have := HB2.out; have := HB4.out; omega
   have HKS5 : Hid (∀ W : World, Fr (fun q => q = b2) w2 W -> (fun W : World => W.cell? ⟨p5, 0, none⟩ = some (.slice Xn xnn xnc) /\ W.cell? ⟨p5, 1, none⟩ = some (.slice FA rl fc) /\ W.cell? ⟨p5, 2, none⟩ = some (sl gn n n) /\ W.cell? ⟨b4, 0, none⟩ = some (.slice NA n nc) /\ W.cell? ⟨b4, 1, none⟩ = some (.slice OA n oc)) W) := Lib.hid (fun W hW => by
    have y0 := (hW.blk h9 h25).cell 0
    have y1 := (hW.blk h9 h25).cell 1
    have y2 := (hW.blk h9 h25).cell 2
    have y3 := (hW.blk hx4 h24).cell 0
    have y4 := (hW.blk hx4 h24).cell 1
    exact ⟨by simpa using y0, by simpa using y1, by simpa using y2, by simpa using y3, by simpa using y4⟩)
   have HX2 := Lib.hid hx2; have HFF := Lib.hid h5; have HOL := Lib.hid h2; have HON := Lib.hid h4; have HRL := Lib.hid hrl
   have HBL := Lib.hid (HBL1.out.trans (h1.mono HBL1.out.size)); have HWW := Lib.hid HBL1.out.size; have HW2 : Hid (w.heap.size <= w2.heap.size) := Lib.hid (Nat.le_trans HBL1.out.size h1.size)
   have HB2W : Hid (b2 < w1.heap.size) := Lib.hid HX2a.out.lt
   clear h1 h2 h3 h4 h5 h6 h9 hx2 hx4 hrl hEF hrlt HKS HGRP HGN HGO HGL
   go_wp2_with fail
   refine region_x 10 (fun W : World => W.cell? ⟨p5, 0, none⟩ = some (.slice Xn xnn xnc) /\ W.cell? ⟨p5, 1, none⟩ = some (.slice FA rl fc) /\ W.cell? ⟨p5, 2, none⟩ = some (sl gn n n) /\ W.cell? ⟨b4, 0, none⟩ = some (.slice NA n nc) /\ W.cell? ⟨b4, 1, none⟩ = some (.slice OA n oc)) (by kernel_rfl) ?_
   have hF0 : Fr (fun q => q = b2) w2 w2.drew := (Fr.refl _ w2).drew
   have hB0 : Below w2.heap.size w2 w2.drew := (Below.refl _ _).drew
   have hS := HKS5.out _ hF0
   generalize w2.drew = V0 at *
   refine tkx (i := 0) (v := ?_) hS ?_ ?_
   rotate_left
   ·rintro w' ⟨s0', s1', s2', s3', s4'⟩
    go_simp
    try with_reducible rfl
   try simp only [Act.put, zq1, zq2, zq3, zq4, zq5, zq6]
   refine tkx (i := 1) (v := ?_) hS ?_ ?_
   rotate_left
   ·rintro w' ⟨s0', s1', s2', s3', s4'⟩
    go_simp
    try with_reducible rfl
   try simp only [Act.put, zq1, zq2, zq3, zq4, zq5, zq6]
   refine tkx (i := 2) (v := ?_) hS ?_ ?_
   rotate_left
   ·rintro w' ⟨s0', s1', s2', s3', s4'⟩
    go_simp
    try with_reducible rfl
   try simp only [Act.put, zq1, zq2, zq3, zq4, zq5, zq6]
   refine tkx (i := 3) (v := ?_) hS ?_ ?_
   rotate_left
   ·rintro w' ⟨s0', s1', s2', s3', s4'⟩
    go_simp
    try with_reducible rfl
   try simp only [Act.put, zq1, zq2, zq3, zq4, zq5, zq6]
   refine tkx (i := 4) (v := ?_) hS ?_ ?_
   rotate_left
   ·rintro w' ⟨s0', s1', s2', s3', s4'⟩
    go_simp
    try with_reducible rfl
   try simp only [Act.put, zq1, zq2, zq3, zq4, zq5, zq6]
   refine tkx (i := 7) (v := ?_) hS ?_ ?_
   rotate_left
   ·rintro w' ⟨s0', s1', s2', s3', s4'⟩
    go_simp
    try with_reducible rfl
   try simp only [Act.put, zq1, zq2, zq3, zq4, zq5, zq6]
   refine tkx (i := 8) (v := ?_) hS ?_ ?_
   rotate_left
   ·rintro w' ⟨s0', s1', s2', s3', s4'⟩
    go_simp
    try with_reducible rfl
   try simp only [Act.put, zq1, zq2, zq3, zq4, zq5, zq6]
   refine anyX_g (i := 5) (by kernel_rfl) (by decide) rfl (by rfl) ?_
   intro K hK
   try simp only [zq1, zq2, zq3]
   refine wp_enterE #[.agg #[.slice NA n nc, .slice OA n oc], .func (.func 33) #[] #[], .slice FA rl fc] Try.func34 (by kernel_rfl) (by kernel_rfl) ?_ (HTD.out V0 hB0) ?_
   ·go_simp
   rintro e V1 ⟨vo, rfl, hvo, hb1⟩
   refine ⟨_, rfl, ?_⟩
   obtain ⟨TA, tc, rfl, -, -, -⟩ := hvo.readsI.form
   have hB1 := hB0.trans (hb1.mono hB0.size)
   have hF1 := hF0.trans (Fr.of_below hb1)
   have hS1 := HKS5.out _ hF1
   replace hvo := hvo.more hB0.size
   clear hb1
   refine hK _ _ hS1 ?_
   clear hK
   try simp only [Act.put, zq1, zq2, zq3, zq4, zq5, zq6]
   refine tkx (i := 6) (v := ?_) hS1 ?_ ?_
   rotate_left
   ·rintro w' ⟨s0', s1', s2', s3', s4'⟩
    go_simp
    try with_reducible rfl
   try simp only [Act.put, zq1, zq2, zq3, zq4, zq5, zq6]
   have xb := Blk.below HX2.out hB1 HX2.out.lt
   have r0 := Blk.cell xb 0; have f0 := Blk.frozen xb 0; have r1 := Blk.cell xb 1; have f1 := Blk.frozen xb 1
   simp only [List.getElem?_toArray, List.getElem?_cons_zero, List.getElem?_cons_succ] at r0 r1
   refine anyX_g (i := 9) (by kernel_rfl) (by decide) rfl (by rfl) ?_
   intro K hK
   try simp only [zq1, zq2, zq3]
   go_simp
   have hF2 : Fr (fun q => q = b2) w2 ((V1.setCell ⟨b2, 0, none⟩ (.slice Xn xnn xnc)).setCell ⟨b2, 1, none⟩ (.slice TA rl tc)) := (hF1.set_ (p := ⟨b2, 0, none⟩) (.inl rfl) _).set_ (p := ⟨b2, 1, none⟩) (.inl rfl) _
   have hG2 : Fr (fun q => q = b2) V1 ((V1.setCell ⟨b2, 0, none⟩ (.slice Xn xnn xnc)).setCell ⟨b2, 1, none⟩ (.slice TA rl tc)) := ((Fr.refl (fun q => q = b2) V1).set_ (p := ⟨b2, 0, none⟩) (.inl rfl) _).set_ (p := ⟨b2, 1, none⟩) (.inl rfl) _
   have xb2 := (xb.set_ 0 (.slice Xn xnn xnc)).set_ 1 (.slice TA rl tc)
   have hS2 := HKS5.out _ hF2
   generalize (V1.setCell ⟨b2, 0, none⟩ (.slice Xn xnn xnc)).setCell ⟨b2, 1, none⟩ (.slice TA rl tc) = V2 at *
   refine hK _ _ hS2 ?_
   clear hK r0 r1 f0 f1
   try simp only [Act.put, zq1, zq2, zq3, zq4, zq5, zq6]
   have q0 := Blk.cell xb2 0; have q1 := Blk.cell xb2 1
   simp only [List.getElem?_toArray, List.setIfInBounds_toArray, List.set_cons_zero, List.set_cons_succ, List.getElem?_cons_zero, List.getElem?_cons_succ] at q0 q1
   have hvo2 := rowFr hvo hG2 (fun q hq e => by subst e; have := (hvo.lt _ hq).1; have := HX2.out.lt; omega)
   have HV := Lib.hid hvo2; have HF2 := Lib.hid hF2
   clear hvo hvo2 hF2 hG2 xb xb2 hS2 hS1 hS hF0 hF1 hB0 hB1
   refine anyX_last (by kernel_rfl) (by kernel_rfl) rfl rfl ?_
   try simp only [zq1, zq2, zq3]
   go_simp
   try apply_assumption
   go_wp2_with fail
   refine bodyPost_ret (v := .tuple #[.agg #[.slice Xn xnn xnc, .slice TA rl tc], sl gn n n]) (by simp [results, Try.results16, go_sem, q0, q1]) rfl ?_
   refine ⟨_, _, gn, f, rfl, HFF.out, ?_, ?_, ?_, ?_⟩
   ·have h1 := (HOL.out.fr HF2.out (fun q hq e => by have := HB2W.out; omega)).more HWW.out
    rw [HRL.out] at h1 ⊢
    exact h1
   ·have h1 := ownsRow_more HV.out HW2.out
    rw [HRL.out]
    exact h1
   ·have h1 := rowFr HON.out HF2.out (fun q hq e => by have := (HON.out.lt q hq).1; have := HB2W.out; omega)
    exact ownsRow_more h1 HWW.out
   ·exact HBL.out.trans (HF2.out.below HBL.out.size (fun q hq e => by have := HB2.out; omega))
end Go.Proofs.Ytdcokkgdahbinaa
