/- newParts. -/
import Derived.Test.YtdcokkgdahbinaaVMiniE
import Derived.Test.YtdcokkgdahbinaaVTwoRows
set_option linter.unusedVariables false
set_option linter.unusedSimpArgs false
set_option maxRecDepth 100000
set_option maxHeartbeats 8000000
namespace Go.Proofs.Ytdcokkgdahbinaa
open Go Go.RowKit Go.Proofs
theorem TwoRows.drew0 {B n m : Nat} {e1 e2 : TypeId} {W : World} {v u : Value} {xs ys : List Value} (h : TwoRows B e1 e2 W v u W v n xs u m ys) : TwoRows B e1 e2 W.drew v u W.drew v n xs u m ys :=
 ⟨h.own1.drew, h.own2.drew, h.ap, Fr.refl _ _, fun k hk => .inl hk, fun k hk => .inl hk, h.bB⟩
def NpAt (W00 W : World) (B b3 : Nat) (c2 c3 c4 : Value) (k : Nat) : Prop :=
 ∃ VA va VP vp, Blk W b3 87 #[.slice VA k va, .slice VP k vp, c2, c3, c4] /\ Own W B (.slice VA k va) k (rowN k id) /\ Own W B (.slice VP k vp) k (rowN k id) /\ Apart (.slice VA k va) (.slice VP k vp) /\ Fr (fun q => q = b3) W00 W
theorem npEnd {W00 V0 V4 : World} {B b3 k g1 cap1 g2 cap2 : Nat} {VA VP : Option Addr} {va vp : Nat} {c2 c3 c4 : Value}
  (hx : Blk V4 b3 87 #[.slice VA k va, .slice VP k vp, c2, c3, c4])
  (h : TwoRows B 3 3 V0 (.slice VA k va) (.slice VP k vp) V4 (.slice (some ⟨g1, 0, none⟩) (k + 1) cap1) (k + 1) ((rowN k id).map (Value.int .i64) ++ [Value.int .i64 (k : Int)]) (.slice (some ⟨g2, 0, none⟩) (k + 1) cap2) (k + 1) ((rowN k id).map (Value.int .i64) ++ [Value.int .i64 (k : Int)]))
  (hb : b3 < B) (hf : Fr (fun q => q = b3) W00 V0) (hl : ∀ q, (Value.slice VA k va).ownBlock = some q \/ (Value.slice VP k vp).ownBlock = some q -> W00.heap.size <= q) :
  NpAt W00 ((V4.setCell ⟨b3, 0, none⟩ (.slice (some ⟨g1, 0, none⟩) (k + 1) cap1)).setCell ⟨b3, 1, none⟩ (.slice (some ⟨g2, 0, none⟩) (k + 1) cap2)) B b3 c2 c3 c4 (k + 1) := by
  have e : (rowN k id).map (Value.int .i64) ++ [Value.int .i64 (k : Int)] = (rowN (k + 1) id).map (Value.int .i64) := by rw [rowN_succ, List.map_append]; rfl
  have h1 := h.own1
  have h2 := h.own2
  rw [e] at h1 h2
  have n1 : (Value.slice (some ⟨g1, 0, none⟩) (k + 1) cap1).ownBlock ≠ some b3 := fun q => by have := (h1.lt _ q).1; omega
  have n2 : (Value.slice (some ⟨g2, 0, none⟩) (k + 1) cap2).ownBlock ≠ some b3 := fun q => by have := (h2.lt _ q).1; omega
  refine ⟨_, _, _, _, ?_, own_set (own_set h1 (p := ⟨b3, 0, none⟩) n1 _) (p := ⟨b3, 1, none⟩) n1 _, own_set (own_set h2 (p := ⟨b3, 0, none⟩) n2 _) (p := ⟨b3, 1, none⟩) n2 _, h.ap, ?_⟩
  ·have := (hx.set_ 0 (.slice (some ⟨g1, 0, none⟩) (k + 1) cap1)).set_ 1 (.slice (some ⟨g2, 0, none⟩) (k + 1) cap2)
   simpa using this
  ·exact ((hf.then_ h.fr (fun q hq hx => absurd (hl q hx) (by omega))).set_ (p := ⟨b3, 0, none⟩) (.inl rfl) _).set_ (p := ⟨b3, 1, none⟩) (.inl rfl) _
theorem mkI_any (N : Nat) (hN : N <= 1000) (W : World) : (Instr.makeSlice 22 (.int .i64 (N : Int)) (.int .i64 (N : Int))).run Try.prog W = .ok (.slice (some ⟨W.heap.size, 0, none⟩) N N) (W.alloc (.cells (repA N (.int .i64 0)) 3)) := by
 obtain ⟨i0, hi, hz0, hz1, hz2⟩ := info_parts info_int
 have h := run_make (P := Try.prog) W 22 3 i0 _ Try.underlying22 hi hz0 .i64 .i64 N N (by omega) (Int.le_refl _) (by rw [hz2]; omega) (by omega)
 rw [h]
 simp only [Int.toNat_natCast, hz1, Nat.mul_one]
 congr 4
 unfold repA
 apply Array.ext
 ·simp [size_madeCells]
 ·intro i h1 h2
  simp [madeCells, Value.cells, Nat.mod_one]
theorem own_mk (N : Nat) (hN : N <= 1000) (w : World) : Own (w.alloc (.cells (repA N (.int .i64 0)) 3)) w.heap.size (sl w.heap.size N N) N (rowN N fun _ => 0) := by
 have e : (rowN N fun _ => 0).map (Value.int .i64) = List.replicate N (Value.int .i64 0) := by
  apply List.ext_getElem
  ·simp [rowN]
  ·intro i h1 h2; simp [rowN]
 refine ⟨by simp [rowN], .inr ⟨w.heap.size, N, _, rfl, Nat.le_refl _, heap_alloc_new w _, Nat.le_refl _, by unfold maxLen; omega, by simp [repA], ?_⟩⟩
 rw [e]
 simp [repA]
theorem newParts_any (N : Nat) (hN : N <= 1000) (h0 : 0 < N) (w : World) :
  Calls Try.prog 60 #[.int .i64 (N : Int)] w fun e w' => ∃ ga ca gp cp go gs, e = .returned (.agg #[sl ga N ca, sl gp N cp, sl go N N, sl gs 1 1, .slice none 0 0]) /\
   Own w' w.heap.size (sl ga N ca) N (rowN N id) /\ Own w' w.heap.size (sl gp N cp) N (rowN N id) /\ Own w' w.heap.size (sl go N N) N (rowN N fun _ => 0) /\ OwnE encS 113 3 w' w.heap.size (sl gs 1 1) 1 (rowS 1 (fun _ => 0) (fun _ => N) (fun _ => 0)) /\
   ga ≠ gp /\ ga ≠ go /\ ga ≠ gs /\ gp ≠ go /\ gp ≠ gs /\ go ≠ gs /\ Below w.heap.size w w' := by
  have n0 : (0 : Int) <= (N : Int) := Int.natCast_nonneg _
  have n1 : (N : Int) <= 1000 := by omega
  have hmk := mkI_any N hN
  go_enter Try.func60, Try.ntmps60
  go_wp2_with fail
  obtain ⟨W00, hW⟩ : ∃ W00, ((((w.alloc (.cells #[.slice none 0 0, .slice none 0 0, .slice none 0 0, .slice none 0 0, .slice none 0 0] 87)).alloc (.cells (repA N (.int .i64 0)) 3)).alloc (.cells #[.int .i64 0, .int .i64 (N : Int), .int .i64 0] 113)).alloc (.cells #[.slice none 0 0, .slice none 0 0, .slice (some ⟨w.heap.size + 1, 0, none⟩) N N, .slice (some ⟨w.heap.size + 1 + 1, 0, none⟩) 1 1, .slice none 0 0] 87)) = W00 := ⟨_, rfl⟩
  rw [hW]
  have hz : W00.heap.size = w.heap.size + 4 := by rw [<- hW]; simp
  have hb0 : Below w.heap.size w W00 := by rw [<- hW]; exact ((((Below.refl _ _).alloc (Nat.le_refl _) _).alloc (by simp) _).alloc (by simp; omega) _).alloc (by simp; omega) _
  have hr0 : Blk W00 w.heap.size 87 #[.slice none 0 0, .slice none 0 0, .slice none 0 0, .slice none 0 0, .slice none 0 0] := by rw [<- hW]; exact (((Blk.new _ _ _).alloc _).alloc _).alloc _
  have ho0 : Own W00 w.heap.size (sl (w.heap.size + 1) N N) N (rowN N fun _ => 0) := by
   rw [<- hW]
   have := own_mk N hN (w.alloc (.cells #[.slice none 0 0, .slice none 0 0, .slice none 0 0, .slice none 0 0, .slice none 0 0] 87))
   rw [World.size_alloc] at this
   exact ((this.alloc _).alloc _).more (Nat.le_succ _)
  have hs0 : OwnE encS 113 3 W00 w.heap.size (sl (w.heap.size + 1 + 1) 1 1) 1 (rowS 1 (fun _ => 0) (fun _ => N) (fun _ => 0)) := by
   rw [<- hW]
   refine OwnE.alloc ?_ _
   refine ⟨rfl, .inr ⟨w.heap.size + 1 + 1, 1, #[.int .i64 0, .int .i64 (N : Int), .int .i64 0], rfl, by omega, ?_, Nat.le_refl _, by unfold maxLen; omega, rfl, ?_⟩⟩
   ·have := heap_alloc_new ((w.alloc (.cells #[.slice none 0 0, .slice none 0 0, .slice none 0 0, .slice none 0 0, .slice none 0 0] 87)).alloc (.cells (repA N (.int .i64 0)) 3)) (.cells #[.int .i64 0, .int .i64 (N : Int), .int .i64 0] 113)
    rw [World.size_alloc, World.size_alloc] at this
    exact this
   ·simp [rowS, encS]
  have hp0 : NpAt W00 W00 (w.heap.size + 4) (w.heap.size + 1 + 1 + 1) (sl (w.heap.size + 1) N N) (sl (w.heap.size + 1 + 1) 1 1) (.slice none 0 0) 0 := by
   refine ⟨none, 0, none, 0, ?_, Own.nil _ _, Own.nil _ _, Apart.nil, Fr.refl _ _⟩
   rw [<- hW]
   have := Blk.new (((w.alloc (.cells #[.slice none 0 0, .slice none 0 0, .slice none 0 0, .slice none 0 0, .slice none 0 0] 87)).alloc (.cells (repA N (.int .i64 0)) 3)).alloc (.cells #[.int .i64 0, .int .i64 (N : Int), .int .i64 0] 113)) 87 #[.slice none 0 0, .slice none 0 0, sl (w.heap.size + 1) N N, sl (w.heap.size + 1 + 1) 1 1, .slice none 0 0]
   rw [World.size_alloc, World.size_alloc, World.size_alloc] at this
   exact this
  obtain ⟨B, hB⟩ : ∃ B, B = w.heap.size + 4 := ⟨_, rfl⟩
  obtain ⟨b3, hb3⟩ : ∃ b3, b3 = w.heap.size + 1 + 1 + 1 := ⟨_, rfl⟩
  obtain ⟨go, hgo⟩ : ∃ go, go = w.heap.size + 1 := ⟨_, rfl⟩
  obtain ⟨gs, hgs⟩ : ∃ gs, gs = w.heap.size + 1 + 1 := ⟨_, rfl⟩
  rw [<- hB, <- hb3, <- hgs, <- hgo] at hp0
  rw [<- hgo] at ho0
  rw [<- hgs] at hs0
  rw [<- hb3, <- hgs, <- hgo]
  have hbB : b3 < B := by omega
  have hBz : B <= W00.heap.size := by omega
  have HW := Lib.hid hW; have HB0 := Lib.hid hb0; have HR0 := Lib.hid hr0; have HO0 := Lib.hid ho0; have HS0 := Lib.hid hs0; have HP0 := Lib.hid hp0; have HZ := Lib.hid hz; have E1 := Lib.hid hB; have E2 := Lib.hid hb3; have E3 := Lib.hid hgo; have E4 := Lib.hid hgs
  obtain ⟨c2, hc2⟩ : ∃ c2, c2 = sl go N N := ⟨_, rfl⟩
  obtain ⟨c3, hc3⟩ : ∃ c3, c3 = sl gs 1 1 := ⟨_, rfl⟩
  obtain ⟨c4, hc4⟩ : ∃ c4, c4 = Value.slice none 0 0 := ⟨_, rfl⟩
  rw [<- hc2, <- hc3, <- hc4] at HP0
  have C2 := Lib.hid hc2; have C3 := Lib.hid hc3; have C4 := Lib.hid hc4
  have HMK := Lib.hid hmk
  clear hW hb0 hr0 ho0 hs0 hp0 hz hB hb3 hgo hgs hc2 hc3 hc4 hmk
  go_loopw [4, 12] (fun vn vi wr => ∃ k : Nat, vi = .int .i64 (k : Int) /\ k <= N /\ Hid (NpAt W00 wr B b3 c2 c3 c4 k)) (fun _ i _ => N - (intOf i).toNat)
  case atStart => exact ⟨0, rfl, Nat.zero_le _, HP0⟩
  case round =>
   clear HP0
   obtain ⟨k, rfl, hk, HNP⟩ := hrel
   obtain ⟨VA, va, VP, vp, hbx, h1, h2, hap, hf⟩ := HNP.out
   have HBX := Lib.hid hbx; have H1 := Lib.hid h1; have H2 := Lib.hid h2; have HAP := Lib.hid hap; have HF := Lib.hid hf
   clear hbx h1 h2 hap hf HNP
   have k0 : (0 : Int) <= (k : Int) := Int.natCast_nonneg _
   by_cases hlt : k < N
   ·have k1 : (k : Int) < (N : Int) := by omega
    have hk9 : k <= 1000000 := by omega
    obtain ⟨V0, eV⟩ : ∃ W', wr.drew = W' := ⟨_, rfl⟩
    have HB0 : Hid (Blk V0 b3 87 #[.slice VA k va, .slice VP k vp, c2, c3, c4]) := Lib.hid (by rw [<- eV]; exact Blk.drew HBX.out)
    have HT : Hid (TwoRows B 3 3 V0 (.slice VA k va) (.slice VP k vp) V0 (.slice VA k va) k ((rowN k id).map (Value.int .i64)) (.slice VP k vp) k ((rowN k id).map (Value.int .i64))) := Lib.hid (by rw [<- eV]; exact (TwoRows.start H1.out H2.out HAP.out (Nat.le_trans hBz HF.out.size)).drew0)
    have HF0 : Hid (Fr (fun q => q = b3) W00 V0) := Lib.hid (by rw [<- eV]; exact HF.out.drew)
    have HLA : Hid (∀ q, (Value.slice VA k va).ownBlock = some q -> B <= q /\ q < V0.heap.size) := Lib.hid HT.out.own1.lt
    have HLP : Hid (∀ q, (Value.slice VP k vp).ownBlock = some q -> B <= q /\ q < V0.heap.size) := Lib.hid HT.out.own2.lt
    have HLQ : Hid (∀ q, (Value.slice VA k va).ownBlock = some q \/ (Value.slice VP k vp).ownBlock = some q -> W00.heap.size <= q) := Lib.hid (fun q hq => Nat.le_trans (Nat.le_of_eq (by have := HZ.out; have := E1.out; omega)) (hq.elim (fun e => (HLA.out _ e).1) (fun e => (HLP.out _ e).1)))
    have HKS : Hid (∀ W : World, Fr (fun q => (Value.slice VA k va).ownBlock = some q \/ (Value.slice VP k vp).ownBlock = some q) V0 W -> (fun w' : World => w'.cell? ⟨b3, 0, none⟩ = some (.slice VA k va) /\ w'.cell? ⟨b3, 1, none⟩ = some (.slice VP k vp)) W) := Lib.hid (fun W hW => by
   have hx := hW.blk HB0.out (fun e => e.elim (fun e => by have := (HLA.out _ e).1; omega) (fun e => by have := (HLP.out _ e).1; omega))
   have k0 := hx.cell 0; have k1 := hx.cell 1
   simpa using And.intro k0 k1)
    go_wp2_with fail
    refine region_y 11 (fun w' : World => w'.cell? ⟨b3, 0, none⟩ = some (.slice VA k va) /\ w'.cell? ⟨b3, 1, none⟩ = some (.slice VP k vp)) (by kernel_rfl) ?_
    rw [eV]
    clear eV HBX H1 H2 HF
    have hT := HT.out
    have hS := HKS.out _ hT.fr
    refine tky (i := 0) (v := ?_) hS ?_ ?_
    rotate_left
    ·rintro w' ⟨s0, s1⟩
     go_simp
     try with_reducible rfl
    try simp only [Act.put, zq1, zq2, zq3, zq4, zq5, zq6]
    refine tky (i := 1) (v := ?_) hS ?_ ?_
    rotate_left
    ·rintro w' ⟨s0, s1⟩
     go_simp
     try with_reducible rfl
    try simp only [Act.put, zq1, zq2, zq3, zq4, zq5, zq6]
    refine tky (i := 2) (v := ?_) hS ?_ ?_
    rotate_left
    ·rintro w' ⟨s0, s1⟩
     go_simp
     try with_reducible rfl
    try simp only [Act.put, zq1, zq2, zq3, zq4, zq5, zq6]
    refine tky (i := 5) (v := ?_) hS ?_ ?_
    rotate_left
    ·rintro w' ⟨s0, s1⟩
     go_simp
     try with_reducible rfl
    try simp only [Act.put, zq1, zq2, zq3, zq4, zq5, zq6]
    refine tky (i := 6) (v := ?_) hS ?_ ?_
    rotate_left
    ·rintro w' ⟨s0, s1⟩
     go_simp
     try with_reducible rfl
    try simp only [Act.put, zq1, zq2, zq3, zq4, zq5, zq6]
    refine tky0 (i := 7) (v := ?_) hS ?_ ?_
    rotate_left
    ·rintro w' -
     go_simp
     try with_reducible rfl
    try simp only [Act.put, zq1, zq2, zq3, zq4, zq5, zq6]
    refine anyY_2 (i := 3) (j := 8) (by kernel_rfl) rfl rfl rfl rfl ?_ ?_
    ·intro K hK
     try simp only [zq1, zq2, zq3]
     go_simp
     obtain ⟨V1, eV⟩ : ∃ W', V0.alloc (.cells #[.int .i64 (k : Int)] 3) = W' := ⟨_, rfl⟩
     have hb : Below V0.heap.size V0 V1 := by rw [<- eV]; exact (Below.refl _ _).alloc (Nat.le_refl _) _
     have xb1 : Blk V1 V0.heap.size 3 #[.int .i64 (k : Int)] := by rw [<- eV]; exact Blk.new _ _ _
     have hge := hT.fr.size
     replace hT := hT.bel hb
     rw [eV]
     clear eV hb
     obtain ⟨p3, hp⟩ : ∃ p, V0.heap.size = p := ⟨_, rfl⟩
     have hge1 : V0.heap.size <= p3 := Nat.le_trans hge (Nat.le_of_eq hp)
     rw [hp] at xb1 ⊢
     clear hp hge
     replace hS := HKS.out _ hT.fr
     refine hK _ _ hS ?_
     clear hK
     try simp only [Act.put, zq1, zq2, zq3, zq4, zq5, zq6]
     refine anyY_2 (i := 4) (j := 8) (by kernel_rfl) rfl rfl rfl rfl ?_ ?_
     ·intro K hK
      try simp only [zq1, zq2, zq3]
      refine wp_pushK rfl (.tmp 16) (.tmp 18) 22 3 rfl 1 8 _ Try.underlying22 info_int rfl (by omega) (by omega) B _ _ _ (by rfl) hT.own1 p3 (by rfl) #[.int .i64 (k : Int)] rfl xb1 (by simp [Value.oneCell']) hk9 hT.size ?_
      intro g1 cap1 V2 q1 q2 q3
      replace hT := hT.push1 q1 q2 q3
      clear q1 q2 q3 xb1
      replace hS := HKS.out _ hT.fr
      refine hK _ _ hS ?_
      clear hK
      try simp only [Act.put, zq1, zq2, zq3, zq4, zq5, zq6]
      refine tky (i := 10) (v := ?_) hS ?_ ?_
      rotate_left
      ·rintro w' ⟨s0, s1⟩
       go_simp
       try with_reducible rfl
      try simp only [Act.put, zq1, zq2, zq3, zq4, zq5, zq6]
      refine anyY_g (i := 8) (by kernel_rfl) rfl rfl ?_
      intro K hK
      try simp only [zq1, zq2, zq3]
      go_simp
      obtain ⟨V3, eV⟩ : ∃ W', V2.alloc (.cells #[.int .i64 (k : Int)] 3) = W' := ⟨_, rfl⟩
      have hb : Below V2.heap.size V2 V3 := by rw [<- eV]; exact (Below.refl _ _).alloc (Nat.le_refl _) _
      have xb2 : Blk V3 V2.heap.size 3 #[.int .i64 (k : Int)] := by rw [<- eV]; exact Blk.new _ _ _
      have hge := hT.fr.size
      replace hT := hT.bel hb
      rw [eV]
      clear eV hb
      obtain ⟨p8, hp⟩ : ∃ p, V2.heap.size = p := ⟨_, rfl⟩
      have hge2 : V0.heap.size <= p8 := Nat.le_trans hge (Nat.le_of_eq hp)
      rw [hp] at xb2 ⊢
      clear hp hge
      replace hS := HKS.out _ hT.fr
      refine hK _ _ hS ?_
      clear hK
      try simp only [Act.put, zq1, zq2, zq3, zq4, zq5, zq6]
      refine anyY_g (i := 9) (by kernel_rfl) rfl rfl ?_
      intro K hK
      try simp only [zq1, zq2, zq3]
      refine wp_pushK rfl (.tmp 21) (.tmp 23) 22 3 rfl 1 8 _ Try.underlying22 info_int rfl (by omega) (by omega) B _ _ _ (by rfl) hT.own2 p8 (by rfl) #[.int .i64 (k : Int)] rfl xb2 (by simp [Value.oneCell']) hk9 hT.size ?_
      intro g2 cap2 V4 q1 q2 q3
      replace hT := hT.push2 q1 q2 q3
      clear q1 q2 q3 xb2
      replace hS := HKS.out _ hT.fr
      refine hK _ _ hS ?_
      clear hK
      try simp only [Act.put, zq1, zq2, zq3, zq4, zq5, zq6]
      have hx := hT.fr.blk HB0.out (fun e => e.elim (fun e => by have := (HLA.out _ e).1; omega) (fun e => by have := (HLP.out _ e).1; omega))
      have k0 := Blk.cell hx 0; have k1 := Blk.cell hx 1; have f0 := Blk.frozen hx 0; have f1 := Blk.frozen hx 1
      simp only [List.getElem?_toArray, List.getElem?_cons_zero, List.getElem?_cons_succ] at k0 k1
      have HX4 := Lib.hid hx; have HT4 := Lib.hid hT
      clear hx hT hS hge1 hge2
      refine anyY_h (i := 11) (by kernel_rfl) (by kernel_rfl) rfl rfl ?_
      intro K hK
      try simp only [zq1, zq2, zq3]
      go_simp
      refine hK _ _ ?_
      clear hK
      try simp only [Act.put, zq1, zq2, zq3, zq4, zq5, zq6]
      refine anyY_h (i := 12) (by kernel_rfl) (by kernel_rfl) rfl rfl ?_
      intro K hK
      try simp only [zq1, zq2, zq3]
      go_simp
      refine hK _ _ ?_
      clear hK
      try simp only [Act.put, zq1, zq2, zq3, zq4, zq5, zq6]
      refine anyY_last (i := 13) (by kernel_rfl) (by kernel_rfl) (by kernel_rfl) rfl rfl ?_
      try simp only [zq1, zq2, zq3]
      go_simp
      try apply_assumption
      clear k0 k1 f0 f1
      go_wp2_with fail
      exact ⟨⟨k + 1, by go_num, by omega, Lib.hid (npEnd HX4.out HT4.out hbB HF0.out HLQ.out)⟩, by simp [intOf]; omega⟩
     ·intro K hK
      try simp only [zq1, zq2, zq3]
      go_simp
      obtain ⟨V2, eV⟩ : ∃ W', V1.alloc (.cells #[.int .i64 (k : Int)] 3) = W' := ⟨_, rfl⟩
      have hb : Below V1.heap.size V1 V2 := by rw [<- eV]; exact (Below.refl _ _).alloc (Nat.le_refl _) _
      replace xb1 := Blk.below xb1 hb xb1.lt
      have xb2 : Blk V2 V1.heap.size 3 #[.int .i64 (k : Int)] := by rw [<- eV]; exact Blk.new _ _ _
      have hge := hT.fr.size
      replace hT := hT.bel hb
      rw [eV]
      clear eV hb
      obtain ⟨p8, hp⟩ : ∃ p, V1.heap.size = p := ⟨_, rfl⟩
      have hge2 : V0.heap.size <= p8 := Nat.le_trans hge (Nat.le_of_eq hp)
      rw [hp] at xb2 ⊢
      clear hp hge
      replace hS := HKS.out _ hT.fr
      refine hK _ _ hS ?_
      clear hK
      try simp only [Act.put, zq1, zq2, zq3, zq4, zq5, zq6]
      refine anyY_g (i := 4) (by kernel_rfl) rfl rfl ?_
      intro K hK
      try simp only [zq1, zq2, zq3]
      refine wp_pushK rfl (.tmp 16) (.tmp 18) 22 3 rfl 1 8 _ Try.underlying22 info_int rfl (by omega) (by omega) B _ _ _ (by rfl) hT.own1 p3 (by rfl) #[.int .i64 (k : Int)] rfl xb1 (by simp [Value.oneCell']) hk9 hT.size ?_
      intro g1 cap1 V3 q1 q2 q3
      replace xb2 := Blk.grown xb2 q2 (fun e => by have := HLA.out _ e.symm; omega)
      replace hT := hT.push1 q1 q2 q3
      clear q1 q2 q3 xb1
      replace hS := HKS.out _ hT.fr
      refine hK _ _ hS ?_
      clear hK
      try simp only [Act.put, zq1, zq2, zq3, zq4, zq5, zq6]
      refine tky (i := 10) (v := ?_) hS ?_ ?_
      rotate_left
      ·rintro w' ⟨s0, s1⟩
       go_simp
       try with_reducible rfl
      try simp only [Act.put, zq1, zq2, zq3, zq4, zq5, zq6]
      refine anyY_g (i := 9) (by kernel_rfl) rfl rfl ?_
      intro K hK
      try simp only [zq1, zq2, zq3]
      refine wp_pushK rfl (.tmp 21) (.tmp 23) 22 3 rfl 1 8 _ Try.underlying22 info_int rfl (by omega) (by omega) B _ _ _ (by rfl) hT.own2 p8 (by rfl) #[.int .i64 (k : Int)] rfl xb2 (by simp [Value.oneCell']) hk9 hT.size ?_
      intro g2 cap2 V4 q1 q2 q3
      replace hT := hT.push2 q1 q2 q3
      clear q1 q2 q3 xb2
      replace hS := HKS.out _ hT.fr
      refine hK _ _ hS ?_
      clear hK
      try simp only [Act.put, zq1, zq2, zq3, zq4, zq5, zq6]
      have hx := hT.fr.blk HB0.out (fun e => e.elim (fun e => by have := (HLA.out _ e).1; omega) (fun e => by have := (HLP.out _ e).1; omega))
      have k0 := Blk.cell hx 0; have k1 := Blk.cell hx 1; have f0 := Blk.frozen hx 0; have f1 := Blk.frozen hx 1
      simp only [List.getElem?_toArray, List.getElem?_cons_zero, List.getElem?_cons_succ] at k0 k1
      have HX4 := Lib.hid hx; have HT4 := Lib.hid hT
      clear hx hT hS hge1 hge2
      refine anyY_h (i := 11) (by kernel_rfl) (by kernel_rfl) rfl rfl ?_
      intro K hK
      try simp only [zq1, zq2, zq3]
      go_simp
      refine hK _ _ ?_
      clear hK
      try simp only [Act.put, zq1, zq2, zq3, zq4, zq5, zq6]
      refine anyY_h (i := 12) (by kernel_rfl) (by kernel_rfl) rfl rfl ?_
      intro K hK
      try simp only [zq1, zq2, zq3]
      go_simp
      refine hK _ _ ?_
      clear hK
      try simp only [Act.put, zq1, zq2, zq3, zq4, zq5, zq6]
      refine anyY_last (i := 13) (by kernel_rfl) (by kernel_rfl) (by kernel_rfl) rfl rfl ?_
      try simp only [zq1, zq2, zq3]
      go_simp
      try apply_assumption
      clear k0 k1 f0 f1
      go_wp2_with fail
      exact ⟨⟨k + 1, by go_num, by omega, Lib.hid (npEnd HX4.out HT4.out hbB HF0.out HLQ.out)⟩, by simp [intOf]; omega⟩
    ·intro K hK
     try simp only [zq1, zq2, zq3]
     go_simp
     obtain ⟨V1, eV⟩ : ∃ W', V0.alloc (.cells #[.int .i64 (k : Int)] 3) = W' := ⟨_, rfl⟩
     have hb : Below V0.heap.size V0 V1 := by rw [<- eV]; exact (Below.refl _ _).alloc (Nat.le_refl _) _
     have xb2 : Blk V1 V0.heap.size 3 #[.int .i64 (k : Int)] := by rw [<- eV]; exact Blk.new _ _ _
     have hge := hT.fr.size
     replace hT := hT.bel hb
     rw [eV]
     clear eV hb
     obtain ⟨p8, hp⟩ : ∃ p, V0.heap.size = p := ⟨_, rfl⟩
     have hge2 : V0.heap.size <= p8 := Nat.le_trans hge (Nat.le_of_eq hp)
     rw [hp] at xb2 ⊢
     clear hp hge
     replace hS := HKS.out _ hT.fr
     refine hK _ _ hS ?_
     clear hK
     try simp only [Act.put, zq1, zq2, zq3, zq4, zq5, zq6]
     refine anyY_g (i := 3) (by kernel_rfl) rfl rfl ?_
     intro K hK
     try simp only [zq1, zq2, zq3]
     go_simp
     obtain ⟨V2, eV⟩ : ∃ W', V1.alloc (.cells #[.int .i64 (k : Int)] 3) = W' := ⟨_, rfl⟩
     have hb : Below V1.heap.size V1 V2 := by rw [<- eV]; exact (Below.refl _ _).alloc (Nat.le_refl _) _
     replace xb2 := Blk.below xb2 hb xb2.lt
     have xb1 : Blk V2 V1.heap.size 3 #[.int .i64 (k : Int)] := by rw [<- eV]; exact Blk.new _ _ _
     have hge := hT.fr.size
     replace hT := hT.bel hb
     rw [eV]
     clear eV hb
     obtain ⟨p3, hp⟩ : ∃ p, V1.heap.size = p := ⟨_, rfl⟩
     have hge1 : V0.heap.size <= p3 := Nat.le_trans hge (Nat.le_of_eq hp)
     rw [hp] at xb1 ⊢
     clear hp hge
     replace hS := HKS.out _ hT.fr
     refine hK _ _ hS ?_
     clear hK
     try simp only [Act.put, zq1, zq2, zq3, zq4, zq5, zq6]
     refine anyY_g (i := 4) (by kernel_rfl) rfl rfl ?_
     intro K hK
     try simp only [zq1, zq2, zq3]
     refine wp_pushK rfl (.tmp 16) (.tmp 18) 22 3 rfl 1 8 _ Try.underlying22 info_int rfl (by omega) (by omega) B _ _ _ (by rfl) hT.own1 p3 (by rfl) #[.int .i64 (k : Int)] rfl xb1 (by simp [Value.oneCell']) hk9 hT.size ?_
     intro g1 cap1 V3 q1 q2 q3
     replace xb2 := Blk.grown xb2 q2 (fun e => by have := HLA.out _ e.symm; omega)
     replace hT := hT.push1 q1 q2 q3
     clear q1 q2 q3 xb1
     replace hS := HKS.out _ hT.fr
     refine hK _ _ hS ?_
     clear hK
     try simp only [Act.put, zq1, zq2, zq3, zq4, zq5, zq6]
     refine tky (i := 10) (v := ?_) hS ?_ ?_
     rotate_left
     ·rintro w' ⟨s0, s1⟩
      go_simp
      try with_reducible rfl
     try simp only [Act.put, zq1, zq2, zq3, zq4, zq5, zq6]
     refine anyY_g (i := 9) (by kernel_rfl) rfl rfl ?_
     intro K hK
     try simp only [zq1, zq2, zq3]
     refine wp_pushK rfl (.tmp 21) (.tmp 23) 22 3 rfl 1 8 _ Try.underlying22 info_int rfl (by omega) (by omega) B _ _ _ (by rfl) hT.own2 p8 (by rfl) #[.int .i64 (k : Int)] rfl xb2 (by simp [Value.oneCell']) hk9 hT.size ?_
     intro g2 cap2 V4 q1 q2 q3
     replace hT := hT.push2 q1 q2 q3
     clear q1 q2 q3 xb2
     replace hS := HKS.out _ hT.fr
     refine hK _ _ hS ?_
     clear hK
     try simp only [Act.put, zq1, zq2, zq3, zq4, zq5, zq6]
     have hx := hT.fr.blk HB0.out (fun e => e.elim (fun e => by have := (HLA.out _ e).1; omega) (fun e => by have := (HLP.out _ e).1; omega))
     have k0 := Blk.cell hx 0; have k1 := Blk.cell hx 1; have f0 := Blk.frozen hx 0; have f1 := Blk.frozen hx 1
     simp only [List.getElem?_toArray, List.getElem?_cons_zero, List.getElem?_cons_succ] at k0 k1
     have HX4 := Lib.hid hx; have HT4 := Lib.hid hT
     clear hx hT hS hge1 hge2
     refine anyY_h (i := 11) (by kernel_rfl) (by kernel_rfl) rfl rfl ?_
     intro K hK
     try simp only [zq1, zq2, zq3]
     go_simp
     refine hK _ _ ?_
     clear hK
     try simp only [Act.put, zq1, zq2, zq3, zq4, zq5, zq6]
     refine anyY_h (i := 12) (by kernel_rfl) (by kernel_rfl) rfl rfl ?_
     intro K hK
     try simp only [zq1, zq2, zq3]
     go_simp
     refine hK _ _ ?_
     clear hK
     try simp only [Act.put, zq1, zq2, zq3, zq4, zq5, zq6]
     refine anyY_last (i := 13) (by kernel_rfl) (by kernel_rfl) (by kernel_rfl) rfl rfl ?_
     try simp only [zq1, zq2, zq3]
     go_simp
     try apply_assumption
     clear k0 k1 f0 f1
     go_wp2_with fail
     exact ⟨⟨k + 1, by go_num, by omega, Lib.hid (npEnd HX4.out HT4.out hbB HF0.out HLQ.out)⟩, by simp [intOf]; omega⟩
   ·obtain rfl : k = N := by omega
    have hform : ∀ {A : Option Addr} {c : Nat}, Own wr B (.slice A k c) k (rowN k id) -> ∃ g, A = some ⟨g, 0, none⟩ /\ B <= g := fun {A c} ho => by
     rcases ho.form with ⟨_, e, _⟩ | ⟨g, cap, e, hg, _⟩
     ·omega
     ·simp only [Value.slice.injEq, true_and] at e
      exact ⟨g, e.1, hg⟩
    obtain ⟨ga, rfl, hga⟩ := hform H1.out
    obtain ⟨gp, rfl, hgp⟩ := hform H2.out
    have hne : ga ≠ gp := fun e => by
     rcases HAP.out with q | q | q
     ·simp [Value.ownBlock] at q
     ·simp [Value.ownBlock] at q
     ·exact q (by simp [Value.ownBlock, e])
    have hbe := E2.out; have hBe := E1.out; have hoe := E3.out; have hse := E4.out
    have hxr := HF.out.blk HR0.out (by omega)
    have r0 := Blk.cell hxr 0; have r1 := Blk.cell hxr 1; have r2 := Blk.cell hxr 2; have r3 := Blk.cell hxr 3; have r4 := Blk.cell hxr 4
    have fr0 := Blk.frozen hxr 0; have fr1 := Blk.frozen hxr 1; have fr2 := Blk.frozen hxr 2; have fr3 := Blk.frozen hxr 3; have fr4 := Blk.frozen hxr 4
    have d0 := Blk.cell HBX.out 0; have d1 := Blk.cell HBX.out 1; have d2 := Blk.cell HBX.out 2; have d3 := Blk.cell HBX.out 3; have d4 := Blk.cell HBX.out 4
    simp only [List.getElem?_toArray, List.getElem?_cons_zero, List.getElem?_cons_succ] at r0 r1 r2 r3 r4 d0 d1 d2 d3 d4
    rw [C2.out] at d2
    rw [C3.out] at d3
    rw [C4.out] at d4
    have HO3 := Lib.hid (HF.out.own HO0.out (fun q hq => by
     have : go = q := by simpa [Value.ownBlock] using hq
     omega))
    have HS3 := Lib.hid (HF.out.rows HS0.out (fun q hq => by
     have : gs = q := by simpa [Value.ownBlock] using hq
     omega))
    have HBL := Lib.hid (HB0.out.trans (HF.out.below (Nat.le_trans (Nat.le_of_lt (by omega)) hBz : w.heap.size <= W00.heap.size) (fun q hq => by omega)))
    have HNE := Lib.hid hne; have HGA := Lib.hid hga; have HGP := Lib.hid hgp; have H5 := Lib.hid (And.intro hbe (And.intro hBe (And.intro hoe hse)))
    clear hxr hne hga hgp hbe hBe hoe hse
    go_wp2_with fail
    refine bodyPost_ret (v := .agg #[sl ga k va, sl gp k vp, sl go k k, sl gs 1 1, .slice none 0 0]) (by simp [results, Try.results60, go_sem, r0, r1, r2, r3, r4]) rfl ?_
    obtain ⟨hbe, hBe, hoe, hse⟩ := H5.out
    have hg1 := HGA.out; have hg2 := HGP.out
    have s5 : ∀ {g n c : Nat} {l : List Int}, Own wr w.heap.size (sl g n c) n l -> g ≠ w.heap.size -> Own (((((wr.setCell ⟨w.heap.size, 0, none⟩ (sl ga k va)).setCell ⟨w.heap.size, 1, none⟩ (sl gp k vp)).setCell ⟨w.heap.size, 2, none⟩ (sl go k k)).setCell ⟨w.heap.size, 3, none⟩ (sl gs 1 1)).setCell ⟨w.heap.size, 4, none⟩ (.slice none 0 0)) w.heap.size (sl g n c) n l := fun {g n c l} ho hn => by
     have hq : (sl g n c).ownBlock ≠ some w.heap.size := fun e => hn (by simpa [Value.ownBlock] using e)
     exact own_set (own_set (own_set (own_set (own_set ho (p := ⟨w.heap.size, 0, none⟩) hq _) (p := ⟨w.heap.size, 1, none⟩) hq _) (p := ⟨w.heap.size, 2, none⟩) hq _) (p := ⟨w.heap.size, 3, none⟩) hq _) (p := ⟨w.heap.size, 4, none⟩) hq _
    refine ⟨ga, va, gp, vp, go, gs, rfl, s5 (H1.out.more (by omega)) (by omega), s5 (H2.out.more (by omega)) (by omega), s5 HO3.out (by omega), ?_, HNE.out, by omega, by omega, by omega, by omega, by omega, ?_⟩
    ·have hq : gs ≠ w.heap.size := by omega
     exact rows_set (rows_set (rows_set (rows_set (rows_set HS3.out (p := ⟨w.heap.size, 0, none⟩) hq _) (p := ⟨w.heap.size, 1, none⟩) hq _) (p := ⟨w.heap.size, 2, none⟩) hq _) (p := ⟨w.heap.size, 3, none⟩) hq _) (p := ⟨w.heap.size, 4, none⟩) hq _
    ·exact ((((HBL.out.setCell (p := ⟨w.heap.size, 0, none⟩) (Nat.le_refl _) _).setCell (p := ⟨w.heap.size, 1, none⟩) (Nat.le_refl _) _).setCell (p := ⟨w.heap.size, 2, none⟩) (Nat.le_refl _) _).setCell (p := ⟨w.heap.size, 3, none⟩) (Nat.le_refl _) _).setCell (p := ⟨w.heap.size, 4, none⟩) (Nat.le_refl _) _
end Go.Proofs.Ytdcokkgdahbinaa
