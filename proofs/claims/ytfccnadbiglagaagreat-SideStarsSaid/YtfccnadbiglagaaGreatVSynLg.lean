/- Contract of how the laws make the sets of a file. -/
import Derived.Test.YtfccnadbiglagaaGreatVSynLf
import Derived.Test.YtfccnadbiglagaaGreatVSynE
import Derived.Test.YtfccnadbiglagaaGreatVSynWd
import Derived.Test.YtfccnadbiglagaaGreatVSmall
set_option linter.unusedVariables false
set_option linter.unusedSimpArgs false
set_option maxRecDepth 100000
set_option maxHeartbeats 16000000
namespace Go.Proofs.YtfccnadbiglagaaGreat
open Go Go.RowKit Go.Proofs
def IntsR (w : World) (v : Value) (l : List Int) : Prop :=
 ∃ (A : Option Addr) (n c : Nat), v = .slice A n c /\ l.length = n /\ n <= c /\ c <= maxLen /\ (A = none -> c = 0) /\ ∀ i z, l[i]? = some z -> ∃ g o, A = some ⟨g, o, none⟩ /\ w.cell? ⟨g, o + i, none⟩ = some (.int .i64 z)
theorem IntsR.nil (w : World) : IntsR w (.slice none 0 0) [] := ⟨none, 0, 0, rfl, rfl, Nat.le_refl _, Nat.zero_le _, fun _ => rfl, fun i z h => by simp at h⟩
theorem IntsR.below {w w' : World} {v : Value} {l : List Int} (h : IntsR w v l) (hb : Below w.heap.size w w') : IntsR w' v l := by
 obtain ⟨A, n, c, h1, h2, h3, h4, h5, h6⟩ := h
 refine ⟨A, n, c, h1, h2, h3, h4, h5, fun i z hz => ?_⟩
 obtain ⟨g, o, e, hc⟩ := h6 i z hz
 exact ⟨g, o, e, by rw [hb.cell (p := ⟨g, o + i, none⟩) (World.block_lt_of_cell? w _ hc)]; exact hc⟩
theorem defsOf_next (l : List Int) (i : Nat) (hi : i < l.length) (h2 : i < 2) : defsOf (l.take (i + 1)) = addDef (defsOf (l.take i)) i l[i] := by
 match l, hi with
 | [x], hi => obtain rfl : i = 0 := by simpa using hi
              rfl
 | x :: y :: r, hi =>
   have : i = 0 \/ i = 1 := by omega
   rcases this with rfl | rfl <;> rfl
theorem defsOf_done (l : List Int) (i : Nat) (h : l.length <= i \/ 2 <= i) : defsOf (l.take i) = defsOf l := by
 match l with
 | [] => simp
 | [x] => rw [List.take_of_length_le (by simp at h ⊢; omega)]
 | x :: y :: r =>
   have h2 : 2 <= i := by simp at h; omega
   obtain ⟨j, rfl⟩ : ∃ j, i = j + 2 := ⟨i - 2, by omega⟩
   rfl
theorem defsOf_take_len (l : List Int) (i : Nat) (h : i <= l.length) (h2 : i <= 2) : (defsOf (l.take i)).length = 4 + i := by
 have : i = 0 \/ i = 1 \/ i = 2 := by omega
 match l, h with
 | [], h => obtain rfl : i = 0 := by simpa using h
            rfl
 | [x], h => rcases this with rfl | rfl | rfl
             ·rfl
             ·rfl
             ·simp at h
 | x :: y :: r, h => rcases this with rfl | rfl | rfl <;> rfl
theorem names_at6 {w : World} {g : Nat} (h : Blk w g 9 namesA) {i : Nat} (hi : i < 2) : ∃ t : ByteArray, t.data.toList = nm6 i /\ w.cell? ⟨g, 4 + i, none⟩ = some (.string t) := by
 have hc := Blk.cell h (4 + i)
 have : i = 0 \/ i = 1 := by omega
 rcases this with rfl | rfl
 ·exact ⟨⟨#[119, 49]⟩, rfl, hc⟩
 ·exact ⟨⟨#[111, 116, 104, 101, 114]⟩, rfl, hc⟩
theorem DefsOwn.bel {w w' : World} {B : Nat} {v : Value} {l : List (Bs × Tree)} (h : DefsOwn w B v l) (hB : 0 < B) (hb : Below w.heap.size w w') : DefsOwn w' B v l := h.kept (b := 0) hB (only_of_below hb _)
theorem DefsOwn.namesL {w : World} {B : Nat} {v : Value} {l : List (Bs × Tree)} {D : List Bs} (h : DefsOwn w B v l) (hD : l.map Prod.fst = D) : NamesL w v D := by
 subst hD
 obtain ⟨cs, h1, h2⟩ := h
 obtain ⟨A, c, e1, e2, e3, e4⟩ := own_form h1
 have hlen : (l.map Prod.fst).length = l.length := by simp
 refine ⟨A, c, by rw [hlen]; exact e1, by rw [hlen]; exact e2, e3, fun i hi => ?_⟩
 rw [hlen] at hi
 rcases h1.2 with ⟨_, h0⟩ | ⟨g, cap, cur, rfl, hg, hh, r⟩
 ·omega
 ·injection e1 with e1 _ e1c
  subst e1
  have hic := h2.len_eq hi
  have hr := h2.at_ i hic hi
  have hc : w.cell? ⟨g, 0 + i * 6, none⟩ = (cs[i].enc)[0]? := by
   rw [Nat.zero_add]
   have := World.ownsRow.cellAt h1 (i * 6 + 0) (by omega)
   rw [flatMap_at DCell.enc 6 DCell.len cs i 0 hic (by omega)] at this
   exact this
  refine ⟨g, 0, rfl, cs[i].nm0, ?_, hc⟩
  rw [hr.1]
  simp [List.getD, hi]
def MadeD (w : World) (l : List DefP) (e : Ending) (w' : World) : Prop := ∃ u, e = .returned u /\ DefsOwn w' w.heap.size u (l.map DefP.tree) /\ Below w.heap.size w w'
theorem nerow {w : World} {B : Nat} {t : TypeId} {k : Nat} {v : Value} {n : Nat} {xs : List Value} {g : Nat} (h : w.ownsRow B t k v n xs) (hg : g < B) : v.ownBlock = none \/ v.ownBlock ≠ some g := by
 cases hv : v.ownBlock with
 | none => exact .inl rfl
 | some b => exact .inr (fun e => by injection e with e; have := (own_below h b hv).1; omega)
theorem below_own {B : Nat} {w w1 w2 : World} {row : Option Nat} (h : Below B w w1) (hg : w1.grownBy w2 row) (hB : B <= w1.heap.size) (hr : ∀ j, row = some j -> B <= j) : Below B w w2 :=
 ⟨hg.os.trans h.os, hg.tape.trans h.tape, hg.output.trans h.output, Nat.le_trans h.size hg.size, fun i hi => (hg.block i (by omega) (fun e => by have := hr i e.symm; omega)).trans (h.block i hi)⟩
theorem own_cap {w : World} {B : Nat} {t : TypeId} {k : Nat} {A : Option Addr} {n m cap : Nat} {xs : List Value} (h : w.ownsRow B t k (.slice A n cap) m xs) : m <= cap := by
 obtain ⟨A', c', e, h1, _⟩ := own_form h
 injection e with e1 e2 e3
 omega
theorem defs_made (l : List Int) (w : World) (v : Value) (h : IntsR w v l) : Calls Tryz.prog 15 #[v] w (MadeD w (defsOf l)) := by
 have h0 := h
 obtain ⟨A, n, c, rfl, hln, hnc, hc, hA, hcell⟩ := h
 unfold maxLen at hc
 obtain ⟨B, hB⟩ : ∃ B, w.heap.size = B := ⟨_, rfl⟩
 have H0 := Lib.hid h0; have HCE := Lib.hid hcell; have HLN := Lib.hid hln; have HBS := Lib.hid hB
 clear h0 hcell hln hA hB
 go_enter Tryz.func15, Tryz.ntmps15
 go_wp2_with fail
 refine (ranged_any 97 97 _).mono ?_
 rintro e w1 ⟨v1, rfl, hh1, ht1, hb1⟩
 obtain ⟨k1, lo1, hi1, nm1, A1, n1, c1, rfl⟩ := hh1.lit5'
 have HT1 := Lib.hid ht1; have HB1 := Lib.hid hb1; clear ht1 hb1 hh1
 go_wp2_with fail
 refine (ranged_any 97 99 _).mono ?_
 rintro e w2 ⟨v2, rfl, hh2, ht2, hb2⟩
 obtain ⟨k2, lo2, hi2, nm2, A2, n2, c2, rfl⟩ := hh2.lit5'
 have HT2 := Lib.hid ht2; have HB2 := Lib.hid hb2; clear ht2 hb2 hh2
 go_wp2_with fail
 refine (ranged_any 48 57 _).mono ?_
 rintro e w3 ⟨v3, rfl, hh3, ht3, hb3⟩
 obtain ⟨k3, lo3, hi3, nm3, A3, n3, c3, rfl⟩ := hh3.lit5'
 have HT3 := Lib.hid ht3; have HB3 := Lib.hid hb3; clear ht3 hb3 hh3
 go_wp2_with fail
 refine (ranged_any 19968 20223 _).mono ?_
 rintro e w4 ⟨v4, rfl, hh4, ht4, hb4⟩
 obtain ⟨k4, lo4, hi4, nm4, A4, n4, c4, rfl⟩ := hh4.lit5'
 have HT4 := Lib.hid ht4; have HB4 := Lib.hid hb4; clear ht4 hb4 hh4
 go_wp2_with fail
 have b1 : Below w.heap.size w w1 := HB1.out
 have b2 : Below w.heap.size w w2 := b1.trans (HB2.out.mono b1.size)
 have b3 : Below w.heap.size w w3 := b2.trans (HB3.out.mono b2.size)
 have b4 : Below w.heap.size w w4 := b3.trans (HB4.out.mono b3.size)
 have z1 := b1.size; have z2 := HB2.out.size; have z3 := HB3.out.size; have z4 := HB4.out.size
 have t1 : TreeV false w4 (fun g => w.heap.size <= g /\ g < w4.heap.size) (.agg #[.int .i64 k1, .int .i64 lo1, .int .i64 hi1, .string nm1, .slice A1 n1 c1]) (Cls.range 97 97).tree := (((HT1.out.bel (fun _ h => h) HB2.out).bel (fun _ h => h) HB3.out).bel (fun _ h => h) HB4.out).bound
 have t2 : TreeV false w4 (fun g => w.heap.size <= g /\ g < w4.heap.size) (.agg #[.int .i64 k2, .int .i64 lo2, .int .i64 hi2, .string nm2, .slice A2 n2 c2]) (Cls.range 97 99).tree := ((HT2.out.bel (S' := fun g => w.heap.size <= g) (fun g hg => Nat.le_trans z1 hg) HB3.out).bel (fun _ h => h) HB4.out).bound
 have t3 : TreeV false w4 (fun g => w.heap.size <= g /\ g < w4.heap.size) (.agg #[.int .i64 k3, .int .i64 lo3, .int .i64 hi3, .string nm3, .slice A3 n3 c3]) (Cls.range 48 57).tree := (HT3.out.bel (S' := fun g => w.heap.size <= g) (fun g hg => Nat.le_trans b2.size hg) HB4.out).bound
 have t4 : TreeV false w4 (fun g => w.heap.size <= g /\ g < w4.heap.size) (.agg #[.int .i64 k4, .int .i64 lo4, .int .i64 hi4, .string nm4, .slice A4 n4 c4]) (Cls.range 19968 20223).tree := (HT4.out.keep (S' := fun g => w.heap.size <= g) (fun g hg => Nat.le_trans b3.size hg) (fun _ _ _ _ h => h)).bound
 have hown : DefsOwn (((w4.alloc (.cells #[.int .i64 k3, .int .i64 lo3, .int .i64 hi3, .string nm3, .slice A3 n3 c3, .int .i64 k4, .int .i64 lo4, .int .i64 hi4, .string nm4, .slice A4 n4 c4] 70)).alloc (.cells #[.int .i64 3, .int .i64 0, .int .i64 0, .string ⟨#[]⟩, .slice none 0 0, .int .i64 2, .int .i64 0, .int .i64 0, .string ⟨#[118]⟩, .slice none 0 0] 70)).alloc (.cells #[.string ⟨#[97]⟩, .int .i64 k1, .int .i64 lo1, .int .i64 hi1, .string nm1, .slice A1 n1 c1, .string ⟨#[118]⟩, .int .i64 k2, .int .i64 lo2, .int .i64 hi2, .string nm2, .slice A2 n2 c2, .string ⟨#[100]⟩, .int .i64 5, .int .i64 0, .int .i64 0, .string ⟨#[]⟩, .slice (some ⟨w4.heap.size, 0, none⟩) 2 2, .string ⟨#[115]⟩, .int .i64 7, .int .i64 0, .int .i64 0, .string ⟨#[]⟩, .slice (some ⟨w4.heap.size + 1, 0, none⟩) 2 2] 73)) w.heap.size (.slice (some ⟨w4.heap.size + 2, 0, none⟩) 4 4) (defs4.map DefP.tree) := by
  refine ⟨[⟨⟨#[97]⟩, k1, lo1, hi1, nm1, A1, n1, c1⟩, ⟨⟨#[118]⟩, k2, lo2, hi2, nm2, A2, n2, c2⟩, ⟨⟨#[100]⟩, 5, 0, 0, ⟨#[]⟩, some ⟨w4.heap.size, 0, none⟩, 2, 2⟩, ⟨⟨#[115]⟩, 7, 0, 0, ⟨#[]⟩, some ⟨w4.heap.size + 1, 0, none⟩, 2, 2⟩], ?_, ?_⟩
  ·have := World.ownsRow_lit (base := w.heap.size) (e := 73) (size := 6) ((w4.alloc (.cells #[.int .i64 k3, .int .i64 lo3, .int .i64 hi3, .string nm3, .slice A3 n3 c3, .int .i64 k4, .int .i64 lo4, .int .i64 hi4, .string nm4, .slice A4 n4 c4] 70)).alloc (.cells #[.int .i64 3, .int .i64 0, .int .i64 0, .string ⟨#[]⟩, .slice none 0 0, .int .i64 2, .int .i64 0, .int .i64 0, .string ⟨#[118]⟩, .slice none 0 0] 70)) #[.string ⟨#[97]⟩, .int .i64 k1, .int .i64 lo1, .int .i64 hi1, .string nm1, .slice A1 n1 c1, .string ⟨#[118]⟩, .int .i64 k2, .int .i64 lo2, .int .i64 hi2, .string nm2, .slice A2 n2 c2, .string ⟨#[100]⟩, .int .i64 5, .int .i64 0, .int .i64 0, .string ⟨#[]⟩, .slice (some ⟨w4.heap.size, 0, none⟩) 2 2, .string ⟨#[115]⟩, .int .i64 7, .int .i64 0, .int .i64 0, .string ⟨#[]⟩, .slice (some ⟨w4.heap.size + 1, 0, none⟩) 2 2] 4 (by have := b4.size; simp; omega) (by unfold maxLen; omega) rfl
   have e : ((w4.alloc (.cells #[.int .i64 k3, .int .i64 lo3, .int .i64 hi3, .string nm3, .slice A3 n3 c3, .int .i64 k4, .int .i64 lo4, .int .i64 hi4, .string nm4, .slice A4 n4 c4] 70)).alloc (.cells #[.int .i64 3, .int .i64 0, .int .i64 0, .string ⟨#[]⟩, .slice none 0 0, .int .i64 2, .int .i64 0, .int .i64 0, .string ⟨#[118]⟩, .slice none 0 0] 70)).heap.size = w4.heap.size + 2 := by simp
   rw [e] at this
   exact this
  ·have hS : ∀ g, w.heap.size <= g /\ g < w4.heap.size -> w.heap.size <= g /\ some g ≠ (Value.slice (some ⟨w4.heap.size + 2, 0, none⟩) 4 4).ownBlock := fun g hg => ⟨hg.1, fun e => by
    have e' : g = w4.heap.size + 2 := by injection e
    omega⟩
   have hN0 : w.heap.size <= w4.heap.size /\ some w4.heap.size ≠ (Value.slice (some ⟨w4.heap.size + 2, 0, none⟩) 4 4).ownBlock := ⟨b4.size, fun e => by
    have e' : w4.heap.size = w4.heap.size + 2 := by injection e
    omega⟩
   have hN1 : w.heap.size <= w4.heap.size + 1 /\ some (w4.heap.size + 1) ≠ (Value.slice (some ⟨w4.heap.size + 2, 0, none⟩) 4 4).ownBlock := ⟨by have := b4.size; omega, fun e => by
    have e' : w4.heap.size + 1 = w4.heap.size + 2 := by injection e
    omega⟩
   have nb := Blk.new (w4.alloc (.cells #[.int .i64 k3, .int .i64 lo3, .int .i64 hi3, .string nm3, .slice A3 n3 c3, .int .i64 k4, .int .i64 lo4, .int .i64 hi4, .string nm4, .slice A4 n4 c4] 70)) 70 #[.int .i64 3, .int .i64 0, .int .i64 0, .string ⟨#[]⟩, .slice none 0 0, .int .i64 2, .int .i64 0, .int .i64 0, .string ⟨#[118]⟩, .slice none 0 0]
   have e1 : (w4.alloc (.cells #[.int .i64 k3, .int .i64 lo3, .int .i64 hi3, .string nm3, .slice A3 n3 c3, .int .i64 k4, .int .i64 lo4, .int .i64 hi4, .string nm4, .slice A4 n4 c4] 70)).heap.size = w4.heap.size + 1 := by simp
   rw [e1] at nb
   refine ⟨⟨rfl, ((t1.al hS _).al (fun _ h => h) _).al (fun _ h => h) _⟩, ⟨rfl, ((t2.al hS _).al (fun _ h => h) _).al (fun _ h => h) _⟩, ⟨rfl, TreeV.two5 5 (Blk.alloc (Blk.alloc (Blk.new w4 _ _) _) _) (((t3.al hS _).al (fun _ h => h) _).al (fun _ h => h) _) (((t4.al hS _).al (fun _ h => h) _).al (fun _ h => h) _) hN0⟩, ⟨rfl, TreeV.two5 7 (Blk.alloc nb _) (leaf5 _ 3 0 0 ⟨#[]⟩) (leaf5 _ 2 0 0 ⟨#[118]⟩) hN1⟩, trivial⟩
 have hbel : Below w.heap.size w (((w4.alloc (.cells #[.int .i64 k3, .int .i64 lo3, .int .i64 hi3, .string nm3, .slice A3 n3 c3, .int .i64 k4, .int .i64 lo4, .int .i64 hi4, .string nm4, .slice A4 n4 c4] 70)).alloc (.cells #[.int .i64 3, .int .i64 0, .int .i64 0, .string ⟨#[]⟩, .slice none 0 0, .int .i64 2, .int .i64 0, .int .i64 0, .string ⟨#[118]⟩, .slice none 0 0] 70)).alloc (.cells #[.string ⟨#[97]⟩, .int .i64 k1, .int .i64 lo1, .int .i64 hi1, .string nm1, .slice A1 n1 c1, .string ⟨#[118]⟩, .int .i64 k2, .int .i64 lo2, .int .i64 hi2, .string nm2, .slice A2 n2 c2, .string ⟨#[100]⟩, .int .i64 5, .int .i64 0, .int .i64 0, .string ⟨#[]⟩, .slice (some ⟨w4.heap.size, 0, none⟩) 2 2, .string ⟨#[115]⟩, .int .i64 7, .int .i64 0, .int .i64 0, .string ⟨#[]⟩, .slice (some ⟨w4.heap.size + 1, 0, none⟩) 2 2] 73)) := ((b4.alloc b4.size _).alloc (by have := b4.size; simp; omega) _).alloc (by have := b4.size; simp; omega) _
 have HOWN := Lib.hid hown; have HBEL := Lib.hid hbel
 clear hown hbel t1 t2 t3 t4 b1 b2 b3 b4 z1 z2 z3 z4 HT1 HT2 HT3 HT4 HB1 HB2 HB3 HB4
 go_loopg [3, 4] 3 (fun gk vv vi wr => ∃ (i cc : Nat) (A' : Option Addr), vi = .int .i64 i /\ vv = .slice A' (4 + i) cc /\ gk = 3 - i /\ i <= 2 /\ i <= n /\ 4 + i <= cc /\ Hid (DefsOwn wr w.heap.size (.slice A' (4 + i) cc) ((defsOf (l.take i)).map DefP.tree)) /\ Hid (Below w.heap.size w wr))
 case atStart => exact ⟨0, 4, _, rfl, rfl, rfl, by omega, Nat.zero_le _, Nat.le_refl _, HOWN, HBEL⟩
 case round =>
  clear HOWN HBEL
  obtain ⟨i, cc, A', rfl, rfl, hgk, hi2, hin, hicc, HO, HB⟩ := hrel
  have HGK := Lib.hid hgk; clear hgk
  by_cases hlt : i < n /\ i < 2
  ·obtain ⟨hl1, hl2⟩ := hlt
   have hil : i < l.length := by rw [HLN.out]; exact hl1
   obtain ⟨g0, o0, rfl, hz⟩ := HCE.out i l[i] (List.getElem?_eq_getElem hil)
   have hnext := defsOf_next l i hil hl2
   generalize l[i] = z at hz hnext
   have hg0 : g0 < w.heap.size := World.block_lt_of_cell? w _ hz
   have hlen := defsOf_take_len l i (by omega) hi2
   have i0 : (0 : Int) <= (i : Int) := by omega
   have i1 : (i : Int) < (n : Int) := by omega
   have i2 : (i : Int) < 2 := by omega
   have hrow0 := HO.out
   obtain ⟨cs, hrow, hrr⟩ := hrow0
   rw [List.length_map, hlen] at hrow
   have hnm : NamesL wr.drew (.slice A' (4 + i) cc) ((defsOf (l.take i)).map DefP.name) := DefsOwn.namesL (w := wr.drew) (B := w.heap.size) (l := (defsOf (l.take i)).map DefP.tree) (show DefsOwn wr.drew w.heap.size _ _ from HO.out.bel (by omega) (Below.refl _ _).drew) (by rw [List.map_map]; rfl)
   have hD0 : 0 < ((defsOf (l.take i)).map DefP.name).length := by rw [List.length_map, hlen]; omega
   have hD1 : ((defsOf (l.take i)).map DefP.name).length <= 1000 := by rw [List.length_map, hlen]; omega
   have hzr : wr.cell? ⟨g0, o0 + i, none⟩ = some (.int .i64 z) := by rw [HB.out.cell (p := ⟨g0, o0 + i, none⟩) hg0]; exact hz
   obtain ⟨Z, hZ⟩ : ∃ Z, wthN z 1099511627776 = Z := ⟨_, rfl⟩
   have hZm : Z <= 1099511627776 := by rw [<- hZ]; exact Nat.le_of_lt (wthN_lt z 1099511627776 (by omega))
   have hwz := fun w => wth_any z 1099511627776 (by omega) (by omega) w
   rw [hZ] at hwz
   unfold addDef at hnext
   rw [hZ] at hnext
   obtain ⟨D, hD⟩ : ∃ D, (defsOf (l.take i)).map DefP.name = D := ⟨_, rfl⟩
   rw [hD] at hnm hD0 hD1 hnext
   have hcl := fun W (hW : Below wr.heap.size wr.drew W) => class_any D hD0 hD1 4 Z W (.slice A' (4 + i) cc) 0 (by omega) (by omega) hZm (hnm.below hW)
   have HWZ := Lib.hid hwz; have HCL := Lib.hid hcl; have HNX := Lib.hid hnext; have HROW := Lib.hid hrow; have HRR := Lib.hid hrr; have HBR := Lib.hid HB.out; have HLE := Lib.hid hlen
   clear hwz hcl hnext hrow hrr hnm hD0 hD1 hZ hD hlen HCE H0
   have ts : IntKind.i64.wrap (4 + (i : Int)) = 4 + (i : Int) := IntWalk.i64_in _ (by omega)
   go_wp2_with fail
   refine region_x 16 (fun w' : World => w'.cell? ⟨g0, o0 + i, none⟩ = some (.int .i64 z)) (by kernel_rfl) ?_
   have hS : wr.drew.cell? ⟨g0, o0 + i, none⟩ = some (.int .i64 z) := hzr
   refine anyX_take (i := 0) (v := ?_) rfl (by kernel_rfl) (by kernel_rfl) (by kernel_rfl) (by kernel_rfl) (fun _ _ _ h => h) (Or.inl ⟨by rfl, ?_⟩) hS ?_
   rotate_left
   ·rintro w' s1
    go_simp
    try with_reducible rfl
   try simp only [Act.put, List.getElem_toArray, List.getElem_cons_succ, List.getElem_cons_zero, List.setIfInBounds_toArray, List.set_cons_zero, List.set_cons_succ]
   refine anyX_take (i := 2) (v := ?_) rfl (by kernel_rfl) (by kernel_rfl) (by kernel_rfl) (by kernel_rfl) (fun _ _ _ h => h) (Or.inl ⟨by rfl, ?_⟩) hS ?_
   rotate_left
   ·rintro w' s1
    go_simp
    try with_reducible rfl
   try simp only [Act.put, List.getElem_toArray, List.getElem_cons_succ, List.getElem_cons_zero, List.setIfInBounds_toArray, List.set_cons_zero, List.set_cons_succ]
   refine anyX_take (i := 3) (v := .int .i64 (4 + (i : Int))) rfl (by kernel_rfl) (by kernel_rfl) (by kernel_rfl) (by kernel_rfl) (fun _ _ _ h => h) (Or.inl ⟨by rfl, ?_⟩) hS ?_
   ·rintro w' s1
    go_simp
    try with_reducible rfl
   try simp only [Act.put, List.getElem_toArray, List.getElem_cons_succ, List.getElem_cons_zero, List.setIfInBounds_toArray, List.set_cons_zero, List.set_cons_succ]
   refine anyX_take (i := 6) (v := ?_) rfl (by kernel_rfl) (by kernel_rfl) (by kernel_rfl) (by kernel_rfl) (fun _ _ _ h => h) (Or.inl ⟨by rfl, ?_⟩) hS ?_
   rotate_left
   ·rintro w' s1
    go_simp
    try with_reducible rfl
   try simp only [Act.put, List.getElem_toArray, List.getElem_cons_succ, List.getElem_cons_zero, List.setIfInBounds_toArray, List.set_cons_zero, List.set_cons_succ]
   refine anyX_take (i := 7) (v := ?_) rfl (by kernel_rfl) (by kernel_rfl) (by kernel_rfl) (by kernel_rfl) (fun _ _ _ h => h) (Or.inl ⟨by rfl, ?_⟩) hS ?_
   rotate_left
   ·rintro w' s1
    go_simp
    try with_reducible rfl
   try simp only [Act.put, List.getElem_toArray, List.getElem_cons_succ, List.getElem_cons_zero, List.setIfInBounds_toArray, List.set_cons_zero, List.set_cons_succ]
   refine anyX_take (i := 8) (v := ?_) rfl (by kernel_rfl) (by kernel_rfl) (by kernel_rfl) (by kernel_rfl) (fun _ _ _ h => h) (Or.inl ⟨by rfl, ?_⟩) hS ?_
   rotate_left
   ·rintro w' s1
    go_simp
    try with_reducible rfl
   try simp only [Act.put, List.getElem_toArray, List.getElem_cons_succ, List.getElem_cons_zero, List.setIfInBounds_toArray, List.set_cons_zero, List.set_cons_succ]
   refine anyX_take (i := 9) (v := ?_) rfl (by kernel_rfl) (by kernel_rfl) (by kernel_rfl) (by kernel_rfl) (fun _ _ _ h => h) (Or.inl ⟨by rfl, ?_⟩) hS ?_
   rotate_left
   ·rintro w' s1
    go_simp
    try with_reducible rfl
   try simp only [Act.put, List.getElem_toArray, List.getElem_cons_succ, List.getElem_cons_zero, List.setIfInBounds_toArray, List.set_cons_zero, List.set_cons_succ]
   refine anyX_take (i := 11) (v := ?_) rfl (by kernel_rfl) (by kernel_rfl) (by kernel_rfl) (by kernel_rfl) (fun _ _ _ h => h) (Or.inl ⟨by rfl, ?_⟩) hS ?_
   rotate_left
   ·rintro w' s1
    go_simp
    try with_reducible rfl
   try simp only [Act.put, List.getElem_toArray, List.getElem_cons_succ, List.getElem_cons_zero, List.setIfInBounds_toArray, List.set_cons_zero, List.set_cons_succ]
   obtain ⟨ix, hix⟩ : ∃ ix : Nat, 4 + i = ix := ⟨_, rfl⟩
   have hixI : (4 : Int) + (i : Int) = (ix : Int) := by omega
   rw [hixI]
   have ix6 : ix < 6 := by omega
   have ixI0 : (0 : Int) <= (ix : Int) := by omega
   have ixI6 : (ix : Int) < 6 := by omega
   have HIX := Lib.hid hix
   clear hix hixI ts
   refine anyX_g (i := 1) (by kernel_rfl) (by decide) rfl (by rfl) ?_
   intro K hK
   try simp only [List.getElem_toArray, List.getElem_cons_succ, List.getElem_cons_zero]
   refine wp_enterE #[] Tryz.func36 (by kernel_rfl) (by kernel_rfl) ?_ (names_blk wr.drew) ?_
   ·go_simp
   rintro e w1 ⟨rfl, hN, hb1⟩
   refine ⟨_, rfl, ?_⟩
   have hS1 : w1.cell? ⟨g0, o0 + i, none⟩ = some (.int .i64 z) := by rw [hb1.cell (p := ⟨g0, o0 + i, none⟩) (World.block_lt_of_cell? wr _ hzr)]; exact hS
   obtain ⟨t, ht, hcJ⟩ : ∃ t : ByteArray, t.data.toList = nm6 i /\ w1.cell? ⟨wr.heap.size, 4 + i, none⟩ = some (.string t) := names_at6 hN hl2
   have hb1' : Below wr.heap.size wr.drew w1 := hb1
   refine hK _ _ hS1 ?_
   clear hK
   try simp only [Act.put, List.getElem_toArray, List.getElem_cons_succ, List.getElem_cons_zero, List.setIfInBounds_toArray, List.set_cons_zero, List.set_cons_succ]
   rw [HIX.out] at hcJ
   refine anyX_take (i := 4) (v := ?_) rfl (by kernel_rfl) (by kernel_rfl) (by kernel_rfl) (by kernel_rfl) (fun _ _ _ h => h) (Or.inl ⟨by rfl, ?_⟩) hS1 ?_
   rotate_left
   ·rintro w' s1
    go_simp
    try with_reducible rfl
   try simp only [Act.put, List.getElem_toArray, List.getElem_cons_succ, List.getElem_cons_zero, List.setIfInBounds_toArray, List.set_cons_zero, List.set_cons_succ]
   refine anyX_2 (i := 5) (j := 10) (by kernel_rfl) (by decide) (by decide) rfl rfl rfl rfl ?_ ?_
   ·intro K hK
    try simp only [List.getElem_toArray, List.getElem_cons_succ, List.getElem_cons_zero]
    go_simp
    refine hK _ _ hS1 ?_
    clear hK
    try simp only [Act.put, List.getElem_toArray, List.getElem_cons_succ, List.getElem_cons_zero, List.setIfInBounds_toArray, List.set_cons_zero, List.set_cons_succ]
    refine anyX_g (i := 10) (by kernel_rfl) (by decide) rfl (by rfl) ?_
    intro K hK
    try simp only [List.getElem_toArray, List.getElem_cons_succ, List.getElem_cons_zero]
    refine wp_enterE #[.int .i64 z, .int .i64 1099511627776] Tryz.func38 (by kernel_rfl) (by kernel_rfl) ?_ (HWZ.out w1) ?_
    ·go_simp
    rintro e W ⟨rfl, rfl⟩
    refine ⟨_, rfl, ?_⟩
    refine hK _ _ hS1 ?_
    clear hK
    try simp only [Act.put, List.getElem_toArray, List.getElem_cons_succ, List.getElem_cons_zero, List.setIfInBounds_toArray, List.set_cons_zero, List.set_cons_succ]
    refine anyX_g (i := 12) (by kernel_rfl) (by decide) rfl (by rfl) ?_
    intro K hK
    try simp only [List.getElem_toArray, List.getElem_cons_succ, List.getElem_cons_zero]
    refine wp_enterE #[.int .i64 Z, .slice A' (4 + i) cc, .int .i64 0] Tryz.func37 (by kernel_rfl) (by kernel_rfl) ?_ (HCL.out w1 hb1') ?_
    ·go_simp
    rintro e w3 ⟨v3, rfl, hh3, ht3, hb3⟩
    obtain ⟨k3, lo3, hi3, nm3, A3, n3, c3, rfl⟩ := hh3.lit5'
    refine ⟨_, rfl, ?_⟩
    have hS3 : w3.cell? ⟨g0, o0 + i, none⟩ = some (.int .i64 z) := by rw [hb3.cell (p := ⟨g0, o0 + i, none⟩) (World.block_lt_of_cell? w1 _ hS1)]; exact hS1
    have hcJ3 : w3.cell? ⟨wr.heap.size, ix, none⟩ = some (.string t) := by rw [hb3.cell (p := ⟨wr.heap.size, ix, none⟩) (World.block_lt_of_cell? w1 _ hcJ)]; exact hcJ
    refine hK _ _ hS3 ?_
    clear hK
    try simp only [Act.put, List.getElem_toArray, List.getElem_cons_succ, List.getElem_cons_zero, List.setIfInBounds_toArray, List.set_cons_zero, List.set_cons_succ]
    refine anyX_take (i := 13) (v := ?_) rfl (by kernel_rfl) (by kernel_rfl) (by kernel_rfl) (by kernel_rfl) (fun _ _ _ h => h) (Or.inl ⟨by rfl, ?_⟩) hS3 ?_
    rotate_left
    ·rintro w' s1
     go_simp
     try with_reducible rfl
    try simp only [Act.put, List.getElem_toArray, List.getElem_cons_succ, List.getElem_cons_zero, List.setIfInBounds_toArray, List.set_cons_zero, List.set_cons_succ]
    refine anyX_g (i := 14) (by kernel_rfl) (by decide) rfl (by rfl) ?_
    intro K hK
    try simp only [List.getElem_toArray, List.getElem_cons_succ, List.getElem_cons_zero]
    go_simp
    have hS4 : (w3.alloc (.cells #[.string t, .int .i64 k3, .int .i64 lo3, .int .i64 hi3, .string nm3, .slice A3 n3 c3] 73)).cell? ⟨g0, o0 + i, none⟩ = some (.int .i64 z) := by rw [World.cell?_alloc_past _ _ _ (World.block_lt_of_cell? w3 _ hS3)]; exact hS3
    refine hK _ _ hS4 ?_
    clear hK
    try simp only [Act.put, List.getElem_toArray, List.getElem_cons_succ, List.getElem_cons_zero, List.setIfInBounds_toArray, List.set_cons_zero, List.set_cons_succ]
    refine anyX_g (i := 15) (by kernel_rfl) (by decide) rfl (by rfl) ?_
    intro K hK
    try simp only [List.getElem_toArray, List.getElem_cons_succ, List.getElem_cons_zero]
    have hrow3 : w3.ownsRow w.heap.size 73 6 (.slice A' (4 + i) cc) (4 + i) (cs.flatMap DCell.enc) := World.ownsRow.kept (World.ownsRow.kept (w' := w1) HROW.out (row := some g0) (only_of_below (show Below wr.heap.size wr w1 from ((Below.refl _ _).drew).trans hb1') _) (nerow HROW.out hg0)) (only_of_below hb3 (some g0)) (nerow HROW.out hg0)
    refine wp_pushK rfl (.tmp 30) (.tmp 44) 26 73 rfl 6 80 _ Tryz.underlying26 info_def rfl (by omega) (by omega) w.heap.size (.slice A' (4 + i) cc) (4 + i) (cs.flatMap DCell.enc) (by rfl) (World.ownsRow.alloc hrow3 _) w3.heap.size (by rfl) #[.string t, .int .i64 k3, .int .i64 lo3, .int .i64 hi3, .string nm3, .slice A3 n3 c3] rfl (Blk.new w3 _ _) (by simp [Value.oneCell']) (by omega) (by have := hb3.size; have := hb1'.size; have := HBR.out.size; simp; simp at *; omega) ?_
    intro g2 cap w5 hown5 hgr5 hat5
    have hrr1 : RowRel (DefR w1 (fun g => w.heap.size <= g /\ some g ≠ (Value.slice A' (4 + i) cc).ownBlock)) cs ((defsOf (l.take i)).map DefP.tree) := HRR.out.mono fun x d q => q.keep (fun _ h _ => h) (fun g _ j y hy => by rw [hb1'.cell (p := ⟨g, j, none⟩) (World.block_lt_of_cell? wr _ hy)]; exact hy)
    have hz1 : wr.heap.size <= w1.heap.size := hb1'.size
    have hlm : ((defsOf (l.take i)).map DefP.tree).length = 4 + i := by rw [List.length_map, HLE.out]
    have hp := DefsOwn.push (b := g0) (x := ⟨t, k3, lo3, hi3, nm3, A3, n3, c3⟩) (d := (nm6 i, (clsOf D 4 Z).tree)) hrr1 hg0 (fun k e => by have := (own_below HROW.out k e).2; omega) (by have := HBR.out.size; omega) (only_of_below hb3 _) (.cells #[.string t, .int .i64 k3, .int .i64 lo3, .int .i64 hi3, .string nm3, .slice A3 n3 c3] 73) hgr5 hat5 (by rw [hlm]; exact hown5) ⟨ht, ht3⟩
    rw [hlm] at hp
    have q3 : Below w.heap.size w w3 := (HBR.out.trans (((Below.refl _ _).drew.trans hb1').mono HBR.out.size)).trans (hb3.mono (Nat.le_trans HBR.out.size hz1))
    have hbw5 : Below w.heap.size w w5 := below_own (q3.alloc q3.size _) hgr5 (by have := q3.size; simp; omega) (fun j e => (own_below HROW.out j e).1)
    have hS5 : w5.cell? ⟨g0, o0 + i, none⟩ = some (.int .i64 z) := by rw [hbw5.cell (p := ⟨g0, o0 + i, none⟩) hg0]; exact hz
    refine hK _ _ hS5 ?_
    clear hK
    try simp only [Act.put, List.getElem_toArray, List.getElem_cons_succ, List.getElem_cons_zero, List.setIfInBounds_toArray, List.set_cons_zero, List.set_cons_succ]
    have hnx' : (defsOf (l.take (i + 1))).map DefP.tree = (defsOf (l.take i)).map DefP.tree ++ [(nm6 i, (clsOf D 4 Z).tree)] := by rw [HNX.out, List.map_append]; rfl
    rw [<- hnx'] at hp
    have HP := Lib.hid hp; have HB5 := Lib.hid hbw5
    have hcap := own_cap hown5
    clear hp hbw5 q3 hown5 hgr5 hat5 hrr1 hrow3 hS5 hS4 hS3 hcJ3 hb3 ht3 hh3 hS1 hN hb1 hb1' hcJ ht hS hzr hz hlm hnx' HIX HROW HRR HBR HLE HNX HCL HWZ
    refine anyX_last (by kernel_rfl) (by kernel_rfl) rfl rfl ?_
    try simp only [List.getElem_toArray, List.getElem_cons_succ, List.getElem_cons_zero]
    go_simp
    try apply_assumption
    go_wp2_with fail
    go_roundg (3 - (i + 1))
    case measure => have := HGK.out; omega
    case rel => exact ⟨i + 1, cap, some ⟨g2, 0, none⟩, by go_num, rfl, rfl, by omega, by omega, by omega, HP, HB5⟩
   ·intro K hK
    try simp only [List.getElem_toArray, List.getElem_cons_succ, List.getElem_cons_zero]
    refine wp_enterE #[.int .i64 z, .int .i64 1099511627776] Tryz.func38 (by kernel_rfl) (by kernel_rfl) ?_ (HWZ.out w1) ?_
    ·go_simp
    rintro e W ⟨rfl, rfl⟩
    refine ⟨_, rfl, ?_⟩
    refine hK _ _ hS1 ?_
    clear hK
    try simp only [Act.put, List.getElem_toArray, List.getElem_cons_succ, List.getElem_cons_zero, List.setIfInBounds_toArray, List.set_cons_zero, List.set_cons_succ]
    refine anyX_2 (i := 5) (j := 12) (by kernel_rfl) (by decide) (by decide) rfl rfl rfl rfl ?_ ?_
    ·intro K hK
     try simp only [List.getElem_toArray, List.getElem_cons_succ, List.getElem_cons_zero]
     go_simp
     refine hK _ _ hS1 ?_
     clear hK
     try simp only [Act.put, List.getElem_toArray, List.getElem_cons_succ, List.getElem_cons_zero, List.setIfInBounds_toArray, List.set_cons_zero, List.set_cons_succ]
     refine anyX_g (i := 12) (by kernel_rfl) (by decide) rfl (by rfl) ?_
     intro K hK
     try simp only [List.getElem_toArray, List.getElem_cons_succ, List.getElem_cons_zero]
     refine wp_enterE #[.int .i64 Z, .slice A' (4 + i) cc, .int .i64 0] Tryz.func37 (by kernel_rfl) (by kernel_rfl) ?_ (HCL.out w1 hb1') ?_
     ·go_simp
     rintro e w3 ⟨v3, rfl, hh3, ht3, hb3⟩
     obtain ⟨k3, lo3, hi3, nm3, A3, n3, c3, rfl⟩ := hh3.lit5'
     refine ⟨_, rfl, ?_⟩
     have hS3 : w3.cell? ⟨g0, o0 + i, none⟩ = some (.int .i64 z) := by rw [hb3.cell (p := ⟨g0, o0 + i, none⟩) (World.block_lt_of_cell? w1 _ hS1)]; exact hS1
     have hcJ3 : w3.cell? ⟨wr.heap.size, ix, none⟩ = some (.string t) := by rw [hb3.cell (p := ⟨wr.heap.size, ix, none⟩) (World.block_lt_of_cell? w1 _ hcJ)]; exact hcJ
     refine hK _ _ hS3 ?_
     clear hK
     try simp only [Act.put, List.getElem_toArray, List.getElem_cons_succ, List.getElem_cons_zero, List.setIfInBounds_toArray, List.set_cons_zero, List.set_cons_succ]
     refine anyX_take (i := 13) (v := ?_) rfl (by kernel_rfl) (by kernel_rfl) (by kernel_rfl) (by kernel_rfl) (fun _ _ _ h => h) (Or.inl ⟨by rfl, ?_⟩) hS3 ?_
     rotate_left
     ·rintro w' s1
      go_simp
      try with_reducible rfl
     try simp only [Act.put, List.getElem_toArray, List.getElem_cons_succ, List.getElem_cons_zero, List.setIfInBounds_toArray, List.set_cons_zero, List.set_cons_succ]
     refine anyX_g (i := 14) (by kernel_rfl) (by decide) rfl (by rfl) ?_
     intro K hK
     try simp only [List.getElem_toArray, List.getElem_cons_succ, List.getElem_cons_zero]
     go_simp
     have hS4 : (w3.alloc (.cells #[.string t, .int .i64 k3, .int .i64 lo3, .int .i64 hi3, .string nm3, .slice A3 n3 c3] 73)).cell? ⟨g0, o0 + i, none⟩ = some (.int .i64 z) := by rw [World.cell?_alloc_past _ _ _ (World.block_lt_of_cell? w3 _ hS3)]; exact hS3
     refine hK _ _ hS4 ?_
     clear hK
     try simp only [Act.put, List.getElem_toArray, List.getElem_cons_succ, List.getElem_cons_zero, List.setIfInBounds_toArray, List.set_cons_zero, List.set_cons_succ]
     refine anyX_g (i := 15) (by kernel_rfl) (by decide) rfl (by rfl) ?_
     intro K hK
     try simp only [List.getElem_toArray, List.getElem_cons_succ, List.getElem_cons_zero]
     have hrow3 : w3.ownsRow w.heap.size 73 6 (.slice A' (4 + i) cc) (4 + i) (cs.flatMap DCell.enc) := World.ownsRow.kept (World.ownsRow.kept (w' := w1) HROW.out (row := some g0) (only_of_below (show Below wr.heap.size wr w1 from ((Below.refl _ _).drew).trans hb1') _) (nerow HROW.out hg0)) (only_of_below hb3 (some g0)) (nerow HROW.out hg0)
     refine wp_pushK rfl (.tmp 30) (.tmp 44) 26 73 rfl 6 80 _ Tryz.underlying26 info_def rfl (by omega) (by omega) w.heap.size (.slice A' (4 + i) cc) (4 + i) (cs.flatMap DCell.enc) (by rfl) (World.ownsRow.alloc hrow3 _) w3.heap.size (by rfl) #[.string t, .int .i64 k3, .int .i64 lo3, .int .i64 hi3, .string nm3, .slice A3 n3 c3] rfl (Blk.new w3 _ _) (by simp [Value.oneCell']) (by omega) (by have := hb3.size; have := hb1'.size; have := HBR.out.size; simp; simp at *; omega) ?_
     intro g2 cap w5 hown5 hgr5 hat5
     have hrr1 : RowRel (DefR w1 (fun g => w.heap.size <= g /\ some g ≠ (Value.slice A' (4 + i) cc).ownBlock)) cs ((defsOf (l.take i)).map DefP.tree) := HRR.out.mono fun x d q => q.keep (fun _ h _ => h) (fun g _ j y hy => by rw [hb1'.cell (p := ⟨g, j, none⟩) (World.block_lt_of_cell? wr _ hy)]; exact hy)
     have hz1 : wr.heap.size <= w1.heap.size := hb1'.size
     have hlm : ((defsOf (l.take i)).map DefP.tree).length = 4 + i := by rw [List.length_map, HLE.out]
     have hp := DefsOwn.push (b := g0) (x := ⟨t, k3, lo3, hi3, nm3, A3, n3, c3⟩) (d := (nm6 i, (clsOf D 4 Z).tree)) hrr1 hg0 (fun k e => by have := (own_below HROW.out k e).2; omega) (by have := HBR.out.size; omega) (only_of_below hb3 _) (.cells #[.string t, .int .i64 k3, .int .i64 lo3, .int .i64 hi3, .string nm3, .slice A3 n3 c3] 73) hgr5 hat5 (by rw [hlm]; exact hown5) ⟨ht, ht3⟩
     rw [hlm] at hp
     have q3 : Below w.heap.size w w3 := (HBR.out.trans (((Below.refl _ _).drew.trans hb1').mono HBR.out.size)).trans (hb3.mono (Nat.le_trans HBR.out.size hz1))
     have hbw5 : Below w.heap.size w w5 := below_own (q3.alloc q3.size _) hgr5 (by have := q3.size; simp; omega) (fun j e => (own_below HROW.out j e).1)
     have hS5 : w5.cell? ⟨g0, o0 + i, none⟩ = some (.int .i64 z) := by rw [hbw5.cell (p := ⟨g0, o0 + i, none⟩) hg0]; exact hz
     refine hK _ _ hS5 ?_
     clear hK
     try simp only [Act.put, List.getElem_toArray, List.getElem_cons_succ, List.getElem_cons_zero, List.setIfInBounds_toArray, List.set_cons_zero, List.set_cons_succ]
     have hnx' : (defsOf (l.take (i + 1))).map DefP.tree = (defsOf (l.take i)).map DefP.tree ++ [(nm6 i, (clsOf D 4 Z).tree)] := by rw [HNX.out, List.map_append]; rfl
     rw [<- hnx'] at hp
     have HP := Lib.hid hp; have HB5 := Lib.hid hbw5
     have hcap := own_cap hown5
     clear hp hbw5 q3 hown5 hgr5 hat5 hrr1 hrow3 hS5 hS4 hS3 hcJ3 hb3 ht3 hh3 hS1 hN hb1 hb1' hcJ ht hS hzr hz hlm hnx' HIX HROW HRR HBR HLE HNX HCL HWZ
     refine anyX_last (by kernel_rfl) (by kernel_rfl) rfl rfl ?_
     try simp only [List.getElem_toArray, List.getElem_cons_succ, List.getElem_cons_zero]
     go_simp
     try apply_assumption
     go_wp2_with fail
     go_roundg (3 - (i + 1))
     case measure => have := HGK.out; omega
     case rel => exact ⟨i + 1, cap, some ⟨g2, 0, none⟩, by go_num, rfl, rfl, by omega, by omega, by omega, HP, HB5⟩
    ·intro K hK
     try simp only [List.getElem_toArray, List.getElem_cons_succ, List.getElem_cons_zero]
     refine wp_enterE #[.int .i64 Z, .slice A' (4 + i) cc, .int .i64 0] Tryz.func37 (by kernel_rfl) (by kernel_rfl) ?_ (HCL.out w1 hb1') ?_
     ·go_simp
     rintro e w3 ⟨v3, rfl, hh3, ht3, hb3⟩
     obtain ⟨k3, lo3, hi3, nm3, A3, n3, c3, rfl⟩ := hh3.lit5'
     refine ⟨_, rfl, ?_⟩
     have hS3 : w3.cell? ⟨g0, o0 + i, none⟩ = some (.int .i64 z) := by rw [hb3.cell (p := ⟨g0, o0 + i, none⟩) (World.block_lt_of_cell? w1 _ hS1)]; exact hS1
     have hcJ3 : w3.cell? ⟨wr.heap.size, ix, none⟩ = some (.string t) := by rw [hb3.cell (p := ⟨wr.heap.size, ix, none⟩) (World.block_lt_of_cell? w1 _ hcJ)]; exact hcJ
     refine hK _ _ hS3 ?_
     clear hK
     try simp only [Act.put, List.getElem_toArray, List.getElem_cons_succ, List.getElem_cons_zero, List.setIfInBounds_toArray, List.set_cons_zero, List.set_cons_succ]
     refine anyX_g (i := 5) (by kernel_rfl) (by decide) rfl (by rfl) ?_
     intro K hK
     try simp only [List.getElem_toArray, List.getElem_cons_succ, List.getElem_cons_zero]
     go_simp
     refine hK _ _ hS3 ?_
     clear hK
     try simp only [Act.put, List.getElem_toArray, List.getElem_cons_succ, List.getElem_cons_zero, List.setIfInBounds_toArray, List.set_cons_zero, List.set_cons_succ]
     refine anyX_take (i := 13) (v := ?_) rfl (by kernel_rfl) (by kernel_rfl) (by kernel_rfl) (by kernel_rfl) (fun _ _ _ h => h) (Or.inl ⟨by rfl, ?_⟩) hS3 ?_
     rotate_left
     ·rintro w' s1
      go_simp
      try with_reducible rfl
     try simp only [Act.put, List.getElem_toArray, List.getElem_cons_succ, List.getElem_cons_zero, List.setIfInBounds_toArray, List.set_cons_zero, List.set_cons_succ]
     refine anyX_g (i := 14) (by kernel_rfl) (by decide) rfl (by rfl) ?_
     intro K hK
     try simp only [List.getElem_toArray, List.getElem_cons_succ, List.getElem_cons_zero]
     go_simp
     have hS4 : (w3.alloc (.cells #[.string t, .int .i64 k3, .int .i64 lo3, .int .i64 hi3, .string nm3, .slice A3 n3 c3] 73)).cell? ⟨g0, o0 + i, none⟩ = some (.int .i64 z) := by rw [World.cell?_alloc_past _ _ _ (World.block_lt_of_cell? w3 _ hS3)]; exact hS3
     refine hK _ _ hS4 ?_
     clear hK
     try simp only [Act.put, List.getElem_toArray, List.getElem_cons_succ, List.getElem_cons_zero, List.setIfInBounds_toArray, List.set_cons_zero, List.set_cons_succ]
     refine anyX_g (i := 15) (by kernel_rfl) (by decide) rfl (by rfl) ?_
     intro K hK
     try simp only [List.getElem_toArray, List.getElem_cons_succ, List.getElem_cons_zero]
     have hrow3 : w3.ownsRow w.heap.size 73 6 (.slice A' (4 + i) cc) (4 + i) (cs.flatMap DCell.enc) := World.ownsRow.kept (World.ownsRow.kept (w' := w1) HROW.out (row := some g0) (only_of_below (show Below wr.heap.size wr w1 from ((Below.refl _ _).drew).trans hb1') _) (nerow HROW.out hg0)) (only_of_below hb3 (some g0)) (nerow HROW.out hg0)
     refine wp_pushK rfl (.tmp 30) (.tmp 44) 26 73 rfl 6 80 _ Tryz.underlying26 info_def rfl (by omega) (by omega) w.heap.size (.slice A' (4 + i) cc) (4 + i) (cs.flatMap DCell.enc) (by rfl) (World.ownsRow.alloc hrow3 _) w3.heap.size (by rfl) #[.string t, .int .i64 k3, .int .i64 lo3, .int .i64 hi3, .string nm3, .slice A3 n3 c3] rfl (Blk.new w3 _ _) (by simp [Value.oneCell']) (by omega) (by have := hb3.size; have := hb1'.size; have := HBR.out.size; simp; simp at *; omega) ?_
     intro g2 cap w5 hown5 hgr5 hat5
     have hrr1 : RowRel (DefR w1 (fun g => w.heap.size <= g /\ some g ≠ (Value.slice A' (4 + i) cc).ownBlock)) cs ((defsOf (l.take i)).map DefP.tree) := HRR.out.mono fun x d q => q.keep (fun _ h _ => h) (fun g _ j y hy => by rw [hb1'.cell (p := ⟨g, j, none⟩) (World.block_lt_of_cell? wr _ hy)]; exact hy)
     have hz1 : wr.heap.size <= w1.heap.size := hb1'.size
     have hlm : ((defsOf (l.take i)).map DefP.tree).length = 4 + i := by rw [List.length_map, HLE.out]
     have hp := DefsOwn.push (b := g0) (x := ⟨t, k3, lo3, hi3, nm3, A3, n3, c3⟩) (d := (nm6 i, (clsOf D 4 Z).tree)) hrr1 hg0 (fun k e => by have := (own_below HROW.out k e).2; omega) (by have := HBR.out.size; omega) (only_of_below hb3 _) (.cells #[.string t, .int .i64 k3, .int .i64 lo3, .int .i64 hi3, .string nm3, .slice A3 n3 c3] 73) hgr5 hat5 (by rw [hlm]; exact hown5) ⟨ht, ht3⟩
     rw [hlm] at hp
     have q3 : Below w.heap.size w w3 := (HBR.out.trans (((Below.refl _ _).drew.trans hb1').mono HBR.out.size)).trans (hb3.mono (Nat.le_trans HBR.out.size hz1))
     have hbw5 : Below w.heap.size w w5 := below_own (q3.alloc q3.size _) hgr5 (by have := q3.size; simp; omega) (fun j e => (own_below HROW.out j e).1)
     have hS5 : w5.cell? ⟨g0, o0 + i, none⟩ = some (.int .i64 z) := by rw [hbw5.cell (p := ⟨g0, o0 + i, none⟩) hg0]; exact hz
     refine hK _ _ hS5 ?_
     clear hK
     try simp only [Act.put, List.getElem_toArray, List.getElem_cons_succ, List.getElem_cons_zero, List.setIfInBounds_toArray, List.set_cons_zero, List.set_cons_succ]
     have hnx' : (defsOf (l.take (i + 1))).map DefP.tree = (defsOf (l.take i)).map DefP.tree ++ [(nm6 i, (clsOf D 4 Z).tree)] := by rw [HNX.out, List.map_append]; rfl
     rw [<- hnx'] at hp
     have HP := Lib.hid hp; have HB5 := Lib.hid hbw5
     have hcap := own_cap hown5
     clear hp hbw5 q3 hown5 hgr5 hat5 hrr1 hrow3 hS5 hS4 hS3 hcJ3 hb3 ht3 hh3 hS1 hN hb1 hb1' hcJ ht hS hzr hz hlm hnx' HIX HROW HRR HBR HLE HNX HCL HWZ
     refine anyX_last (by kernel_rfl) (by kernel_rfl) rfl rfl ?_
     try simp only [List.getElem_toArray, List.getElem_cons_succ, List.getElem_cons_zero]
     go_simp
     try apply_assumption
     go_wp2_with fail
     go_roundg (3 - (i + 1))
     case measure => have := HGK.out; omega
     case rel => exact ⟨i + 1, cap, some ⟨g2, 0, none⟩, by go_num, rfl, rfl, by omega, by omega, by omega, HP, HB5⟩
  ·have hdone := defsOf_done l i (by rw [HLN.out]; omega)
   have ho := HO.out
   rw [hdone] at ho
   have HOO := Lib.hid ho
   clear ho hdone
   by_cases hl1 : i < n
   ·obtain rfl : i = 2 := by omega
    have hl2 : (2 : Int) < (n : Int) := by omega
    go_wp2_with fail
    go_ret
    exact ⟨_, rfl, HOO.out, HB.out⟩
   ·have hl2 : ¬ (i : Int) < (n : Int) := by omega
    go_wp2_with fail
    go_ret
    exact ⟨_, rfl, HOO.out, HB.out⟩
end Go.Proofs.YtfccnadbiglagaaGreat
