/- What the chapter's laws ask ahead of all: the plain mathematics of it. Contracts of the library's digits of sixteen; of syn.code. What the chapter's laws ask ahead of all. Many sets, many rules: what the reader tells of them, by plain mathematics. -/
import Derived.Test.YtalgnnidhnhciaaGreatDoorUSynMd
set_option linter.unusedVariables false
set_option linter.unusedSimpArgs false
set_option maxRecDepth 100000
set_option maxHeartbeats 8000000
namespace Go.Proofs.YtalgnnidhnhciaaGreatDoor
open Go Go.RowKit Go.Proofs
def kText : Bs := [99, 108, 97, 115, 115, 32, 118, 32, 61, 32, 39, 97, 39, 32, 124, 32, 85, 43, 54, 50, 59, 32, 108, 105, 110, 101, 32, 53, 58, 32, 118, 42, 32, 47, 32, 97, 110, 121, 59]
def kDef : DefP := ⟨[118], .or_ (.range 97 97) (.range 98 98)⟩
def kRule : RuleP := ⟨0, 5, .star (.set [118]), .any_⟩
theorem k_parse : parseT kText = (([kDef.tree], [kRule.tree]), 0, 0) := by kernel_rfl
theorem k_sets : setsOf [kDef] 1 = [[((97 : Int), (98 : Int))]] := by kernel_rfl
theorem k_rex : kRule.left.text = [118, 42] := by kernel_rfl
def kOut : Bs := [99, 108, 97, 115, 115, 32, 118, 32, 61, 32, 85, 43, 54, 49, 32, 124, 32, 85, 43, 54, 50, 59, 10, 108, 105, 110, 101, 32, 53, 32, 58, 32, 118, 42, 32, 47, 32, 97, 110, 121, 59, 10]
theorem k_text : defsText [kDef] ++ rulesText [kRule] = kOut := by kernel_rfl
theorem DefsOwn.form {w : World} {B : Nat} {v : Value} {l : List (Bs × Tree)} (h : DefsOwn w B v l) : ∃ A c, v = .slice A l.length c /\ l.length <= c /\ c <= maxLen /\ (A = none -> c = 0) := by
 obtain ⟨cs, h1, _⟩ := h
 exact own_form h1
theorem RulesOwn.form {w : World} {B : Nat} {v : Value} {l : List RuleT} (h : RulesOwn w B v l) : ∃ A c, v = .slice A l.length c /\ l.length <= c /\ c <= maxLen /\ (A = none -> c = 0) := by
 obtain ⟨cs, h1, _⟩ := h
 exact own_form h1
theorem RulesOwn.one {w : World} {B : Nat} {v : Value} {r : RuleT} (h : RulesOwn w B v [r]) : ∃ g c, ∃ x : RCell, v = .slice (some ⟨g, 0, none⟩) 1 c /\ 1 <= c /\ c <= maxLen /\ CellsAt w g 0 x.enc /\ RuleR w (fun g => g < w.heap.size) x r := by
 have h' := h.at_
 obtain ⟨A, c, cs, e1, e2, e3, e4, e5, e6⟩ := h'
 obtain ⟨g, o, rfl⟩ := e4.some (by simp)
 obtain ⟨cs2, h1, _⟩ := h
 obtain ⟨A2, c2, q1, q2, q3, q4, q5⟩ := own_aform h1
 rw [e1] at q1
 cases q1
 obtain ⟨rfl, _⟩ := q5 g o rfl
 have hl : cs.length = 1 := e5.len
 have hi : 0 < cs.length := by omega
 exact ⟨g, c, cs[0], e1, e2, e3, by simpa using (e6 g 0 rfl 0 hi).2, e5.at_ 0 hi (by simp)⟩
theorem SetsOwn.one {w : World} {B : Nat} {v : Value} {x y : Int} (h : SetsOwn w B v [[(x, y)]]) : ∃ gs c gu cu, v = .slice (some ⟨gs, 0, none⟩) 1 c /\ 1 <= c /\ c <= maxLen /\ 1 <= cu /\ cu <= maxLen /\ w.cell? ⟨gs, 0, none⟩ = some (.slice (some ⟨gu, 0, none⟩) 1 cu) /\ w.cell? ⟨gu, 0, none⟩ = some (.int .i64 x) /\ w.cell? ⟨gu, 1, none⟩ = some (.int .i64 y) := by
 obtain ⟨us, h1, h2, h3⟩ := h
 have hl : us.length = 1 := h2.len
 have hi : 0 < us.length := by omega
 have hr := (h2.at_ 0 hi (by simp)).1
 have h1' := h1
 rcases h1.2 with ⟨_, h0⟩ | ⟨g, cap, cur, rfl, hg, hh, q1, q2, _⟩
 ·simp at h0
 ·have hc := World.ownsRow.cellAt h1' 0 (by simp)
  rcases OwnP.form hr with ⟨_, h0, _⟩ | ⟨gu, cu, e, _, _, p1, p2, p3⟩
  ·simp at h0
  ·have hc0 := p3 0 (by simp)
   refine ⟨g, cap, gu, cu, rfl, q1, q2, p1, p2, ?_, ?_, ?_⟩
   ·rw [hc, List.getElem?_eq_getElem hi, e]; rfl
   ·simpa using hc0.1
   ·simpa using hc0.2
end Go.Proofs.YtalgnnidhnhciaaGreatDoor
namespace Go.Proofs.YtalgnnidhnhciaaGreatDoor
open Go Go.RowKit Go.Proofs
theorem tz64_16 (w : World) (hT : TabD w) : Calls Tryz.prog 206 #[.int .u64 16] w fun e w' => e = .returned (.int .i64 4) /\ w' = w := by
 unfold TabD at hT
 have e1 : bits BinOp.and IntKind.u64 16 (IntKind.u64.wrap (-16)) = 16 := by decide
 have e2 : IntKind.u64.wrap (16 * 285870213051353865) = 4573923408821661840 := by decide
 go_enter Tryz.func206, Tryz.ntmps206
 go_wp2_with fail
 go_ret
 exact ⟨rfl, rfl⟩
theorem tz_16 (w : World) (hT : TabD w) : Calls Tryz.prog 189 #[.int .u64 16] w fun e w' => e = .returned (.int .i64 4) /\ w' = w := by
 have HT := Lib.hid (tz64_16 w hT); clear hT
 go_enter Tryz.func189, Tryz.ntmps189
 go_wp2_with fail
 refine HT.out.mono ?_
 rintro e w' ⟨rfl, rfl⟩
 go_wp2_with fail
 go_ret
 exact ⟨rfl, rfl⟩
theorem pow2_16 (w : World) : Calls Tryz.prog 188 #[.int .i64 16] w fun e w' => e = .returned (.bool true) /\ w' = w := by
 go_enter Tryz.func188, Tryz.ntmps188
 go_wp2_with fail
 go_ret
 exact ⟨rfl, rfl⟩
def lowD (r : Nat) : UInt8 := if r < 10 then UInt8.ofNat (48 + r) else UInt8.ofNat (87 + r)
def hexLow (u : Nat) : Bs := if h : u < 16 then [lowD u] else hexLow (u / 16) ++ [lowD (u % 16)]
theorem hexLow_small {u : Nat} (h : u < 16) : hexLow u = [lowD u] := by rw [hexLow, dif_pos h]
theorem hexLow_big {u : Nat} (h : ¬ u < 16) : hexLow u = hexLow (u / 16) ++ [lowD (u % 16)] := by rw [hexLow, dif_neg h]
def digs36 : ByteArray := ⟨#[48, 49, 50, 51, 52, 53, 54, 55, 56, 57, 97, 98, 99, 100, 101, 102, 103, 104, 105, 106, 107, 108, 109, 110, 111, 112, 113, 114, 115, 116, 117, 118, 119, 120, 121, 122]⟩
theorem wraps_u64 (n : Int) (h₀ : 0 <= n) (h₁ : n < 2 ^ 64) : IntKind.u64.wrap n = n := by rw [IntKind.wrap_u64]; omega
theorem u64_and15 (x : Int) (h₀ : 0 <= x) (h₁ : x < 18446744073709551616) : bits .and .u64 x 15 = x % 16 := bits_mask .u64 64 (by decide) wraps_u64 4 (by decide) x h₀ h₁
theorem digs_at (r : Nat) (hr : r < 16) (h : r < digs36.size) : digs36[r] = lowD r := by
 have : ∀ r : Fin 16, digs36[r.val]'(by exact Nat.lt_trans r.isLt (by decide)) = lowD r.val := by decide
 exact this ⟨r, hr⟩
theorem size_u8 (W : World) : (sizeOf (Tryz.prog.elem 199)).run Tryz.prog W = .ok 1 W := by
 have e : Tryz.prog.elem 199 = 5 := by kernel_rfl
 rw [e]
 obtain ⟨i0, hi, hz0, hz1, hz2⟩ := info_parts info_byteW
 simp [sizeOf, typeInfo, hi, hz1]
theorem slice65 (W : World) (b k : Nat) (hk : k <= 64) : (Instr.sliceAt 199 (.pointer (some ⟨b, 0, none⟩)) (some (.int .i64 (65 - (k : Int) - 1))) none none).run Tryz.prog W = .ok (.slice (some ⟨b, 65 - k - 1, none⟩) (k + 1) (k + 1)) W := by
 have ha : Tryz.prog.arrayLen 199 = 65 := by kernel_rfl
 rw [run_sliceAt_array_l W 199 ⟨b, 0, none⟩ (by kernel_rfl) .i64 (65 - (k : Int) - 1) (by omega) (by rw [ha]; omega), size_u8]
 simp only [Result.andThen, slicedAt, ha]
 rw [show (65 - (k : Int) - 1).toNat = 65 - k - 1 by omega, if_neg (by omega), Addr.add_lit, Nat.mul_one, Nat.zero_add, show 65 - (65 - k - 1) = k + 1 by omega]
theorem fb_any (n : Nat) (hn : n <= 1114111) (w : World) (hT : TabD w) : Calls Tryz.prog 164 #[.slice none 0 0, .int .u64 n, .int .i64 16, .bool false, .bool false] w fun e w' => e = .returned (.tuple #[.slice none 0 0, .string ⟨(hexLow n).toArray⟩]) /\ Below w.heap.size w w' := by
 have HT := Lib.hid hT; clear hT
 have b0 : (0 : Int) <= (n : Int) := Int.natCast_nonneg _
 have b1 : (n : Int) <= 1114111 := by omega
 have hz : Blk (w.alloc (.cells Tryz.zeroCells199 199)) w.heap.size 199 Tryz.zeroCells199 := Blk.new _ _ _
 have hzs : Tryz.zeroCells199.size = 65 := by kernel_rfl
 have HZ := Lib.hid hz; have HZS := Lib.hid hzs; clear hz hzs
 go_enter Tryz.func164, Tryz.ntmps164
 go_wp2_with fail
 refine (pow2_16 _).mono ?_
 rintro e w' ⟨rfl, rfl⟩
 go_wp2_with fail
 refine (tz_16 _ (HT.out.below ((Below.refl _ _).alloc (Nat.le_refl _) _) HT.out.lt)).mono ?_
 rintro e w' ⟨rfl, rfl⟩
 go_wp2_with fail
 generalize Tryz.zeroCells199 = CS0 at *
 go_loopg [1, 13] n (fun gk v1 v13 wr => ∃ (k u : Nat) (cs : Array Value) (L : Bs), v1 = .int .u64 u /\ v13 = .int .i64 (65 - (k : Int)) /\ gk = u /\ k <= 5 /\ u <= 1114111 /\ L.length = k /\ Hid (u * 16 ^ k <= 1114111) /\ Hid (hexLow n = hexLow u ++ L) /\ Hid (Blk wr w.heap.size 199 cs) /\ Hid (cs.size = 65) /\ Hid (∀ j (hj : j < L.length), cs[65 - k + j]? = some (.int .u8 ((L[j]).toNat : Int))) /\ Hid (Below w.heap.size w wr))
 case atStart => exact ⟨0, n, CS0, [], rfl, rfl, rfl, by omega, hn, rfl, Lib.hid (by omega), Lib.hid (by simp), HZ, HZS, Lib.hid (fun j hj => by simp at hj), Lib.hid ((Below.refl _ _).alloc (Nat.le_refl _) _)⟩
 case round =>
  obtain ⟨k, u, cs, L, rfl, rfl, hgk, hk, hu, hL, HP, HX, HB, HS, HC, HW⟩ := hrel
  have HGK := Lib.hid hgk; clear hgk
  have u0 : (0 : Int) <= (u : Int) := Int.natCast_nonneg _
  have u1 : (u : Int) <= 1114111 := by omega
  have k0 : (0 : Int) <= (k : Int) := Int.natCast_nonneg _
  have k1 : (k : Int) <= 5 := by omega
  have e1 : bits .and .u64 (u : Int) 15 = ((u % 16 : Nat) : Int) := by rw [u64_and15 _ u0 (by omega)]; omega
  have hr : u % 16 < 16 := Nat.mod_lt _ (by omega)
  obtain ⟨r, hrr⟩ : ∃ r, u % 16 = r := ⟨_, rfl⟩
  rw [hrr] at e1 hr
  obtain ⟨z, hz⟩ : ∃ z, cs[65 - k - 1]? = some z := ⟨cs[65 - k - 1]'(by rw [HS.out]; omega), Array.getElem?_eq_getElem (by rw [HS.out]; omega)⟩
  have c0 : wr.cell? ⟨w.heap.size, 65 - k - 1, none⟩ = some z := by rw [Blk.cell HB.out]; exact hz
  have f0 := Blk.frozen HB.out (65 - k - 1)
  have hst : ∀ x : Nat, x < 16 -> ∀ (hx : x < digs36.size) j (hj : j < (lowD x :: L).length), (cs.setIfInBounds (65 - k - 1) (.int .u8 ((digs36[x]'hx).toNat : Int)))[65 - (k + 1) + j]? = some (.int .u8 (((lowD x :: L)[j]).toNat : Int)) := fun x hx16 hx j hj => by
   rw [digs_at x hx16 hx]
   rcases j with _ | j
   ·rw [Nat.add_zero, show 65 - (k + 1) = 65 - k - 1 by omega, Array.getElem?_setIfInBounds_self_of_lt (by rw [HS.out]; omega)]; rfl
   ·have hj' : j < L.length := by simpa using hj
    rw [Array.getElem?_setIfInBounds_ne (by omega), show 65 - (k + 1) + (j + 1) = 65 - k + j by omega, HC.out j hj']; rfl
  have HST := Lib.hid hst; clear hst hz
  by_cases h16 : 16 <= u
  ·have q16 : (16 : Int) <= (u : Int) := by omega
   have r0 : (0 : Int) <= (r : Int) := Int.natCast_nonneg _
   have r1 : (r : Int) < 16 := by omega
   have hx : hexLow n = hexLow (u / 16) ++ (lowD r :: L) := by rw [HX.out, hexLow_big (by omega), hrr, List.append_assoc]; rfl
   have hk4 : k <= 4 := by
    have hp := HP.out
    rcases Nat.lt_or_ge k 5 with h | h
    ·omega
    ·obtain rfl : k = 5 := by omega
     have : 16 * 16 ^ 5 <= u * 16 ^ 5 := Nat.mul_le_mul_right _ h16
     have e : (16 : Nat) * 16 ^ 5 = 16777216 := by decide
     omega
   have hp' : u / 16 * 16 ^ (k + 1) <= 1114111 := by
    have hp := HP.out
    have e : u / 16 * 16 ^ (k + 1) = (u / 16 * 16) * 16 ^ k := by rw [Nat.pow_succ, Nat.mul_comm (16 ^ k) 16, Nat.mul_assoc]
    rw [e]
    exact Nat.le_trans (Nat.mul_le_mul_right _ (Nat.div_mul_le_self u 16)) hp
   have HX' := Lib.hid hx; have HP' := Lib.hid hp'; have HRR := Lib.hid hrr
   clear hx hp' hrr
   go_wp2_with fail
   go_roundg (u / 16)
   case measure => have := HGK.out; omega
   case rel => exact ⟨k + 1, u / 16, _, lowD r :: L, by go_num, congrArg (Value.int .i64) (by omega), rfl, by omega, by omega, by simp; omega, HP', HX', Lib.hid (Blk.set_ HB.out (65 - k - 1) _), Lib.hid (by rw [Array.size_setIfInBounds]; exact HS.out), Lib.hid (HST.out r hr _), Lib.hid (HW.out.setCell (p := ⟨w.heap.size, 65 - k - 1, none⟩) (Nat.le_refl _) _)⟩
  ·have q16 : (u : Int) < 16 := by omega
   have hu16 : u < 16 := by omega
   have hx : hexLow n = lowD u :: L := by rw [HX.out, hexLow_small hu16]; rfl
   have hsz : u < digs36.size := Nat.lt_trans hu16 (by decide)
   have hcells := HST.out u hu16 hsz
   obtain ⟨CS, hCS⟩ : ∃ CS, cs.setIfInBounds (65 - k - 1) (.int .u8 ((digs36[u]'hsz).toNat : Int)) = CS := ⟨_, rfl⟩
   have hblk := Blk.set_ HB.out (65 - k - 1) (.int .u8 ((digs36[u]'hsz).toNat : Int))
   have hbel := HW.out.setCell (p := ⟨w.heap.size, 65 - k - 1, none⟩) (Nat.le_refl _) (.int .u8 ((digs36[u]'hsz).toNat : Int))
   rw [hCS] at hcells hblk
   have hcv := run_convert_bytes_arg (P := Tryz.prog) (wr.setCell ⟨w.heap.size, 65 - k - 1, none⟩ (.int .u8 ((digs36[u]'hsz).toNat : Int))) 80 5 Tryz.underlying80 Tryz.underlying5 w.heap.size (65 - k - 1) (k + 1) (k + 1) ((lowD u :: L).map fun c => (c.toNat : Int)) (by simp; omega) (fun i hi => by
    have := hcells i (by simp; omega)
    rw [Blk.cell hblk, show 65 - k - 1 + i = 65 - (k + 1) + i by omega, this]
    rw [List.getD_eq_getElem?_getD, List.getElem?_map, List.getElem?_eq_getElem (by simp; omega)]; rfl) 9 Tryz.underlying9
   have hsl := fun W => slice65 W w.heap.size k (by omega)
   have hstr : strOfNums ((lowD u :: L).map fun c => (c.toNat : Int)) = ⟨(hexLow n).toArray⟩ := by
    rw [hx]
    unfold strOfNums
    rw [List.map_map]
    congr 2
    have : ((fun n : Int => UInt8.ofNat n.toNat) ∘ fun c : UInt8 => (c.toNat : Int)) = id := by funext c; simp
    simp [this]
   rw [hstr] at hcv
   unfold digs36 at hcv
   have HBL := Lib.hid hbel
   clear hbel hcells hblk hstr hx hCS HST
   go_wp2_with fail
   have hcv' := hcv
   first | rw [hcv'] | erw [hcv']
   simp only [Result.andThen]
   rw [Oper.upon_value]
   go_wp2_with fail
   go_ret2
   exact ⟨rfl, HBL.out⟩
theorem formatI_any (n : Nat) (hn : n <= 1114111) (w : World) (hT : TabD w) : Calls Tryz.prog 131 #[.int .i64 n, .int .i64 16] w fun e w' => e = .returned (.string ⟨(hexLow n).toArray⟩) /\ Below w.heap.size w w' := by
 have HF := Lib.hid (fb_any n hn w hT); clear hT
 have b0 : (0 : Int) <= (n : Int) := Int.natCast_nonneg _
 have b1 : (n : Int) <= 1114111 := by omega
 go_enter Tryz.func131, Tryz.ntmps131
 go_wp2_with fail
 refine HF.out.mono ?_
 rintro e w' ⟨rfl, hb⟩
 go_wp2_with fail
 go_ret
 exact ⟨rfl, hb⟩
theorem formatS_any (n : Nat) (hn : n <= 1114111) (w : World) (hT : TabD w) : Calls Tryz.prog 160 #[.int .i64 n, .int .i64 16] w fun e w' => e = .returned (.string ⟨(hexLow n).toArray⟩) /\ Below w.heap.size w w' := by
 have HF := Lib.hid (formatI_any n hn w hT); clear hT
 go_enter Tryz.func160, Tryz.ntmps160
 go_wp2_with fail
 refine HF.out.mono ?_
 rintro e w' ⟨rfl, hb⟩
 go_wp2_with fail
 go_ret
 exact ⟨rfl, hb⟩
theorem upper_low (r : Nat) (hr : r < 16) : Lib.upperB (lowD r) = hexC r /\ (lowD r).toNat < 128 := by
 have : ∀ r : Fin 16, Lib.upperB (lowD r.val) = hexC r.val /\ (lowD r.val).toNat < 128 := by decide
 exact this ⟨r, hr⟩
theorem upper_hex (k : Nat) : ∀ u, u < 16 ^ (k + 1) -> Lib.toUpperA (hexLow u) = hexDigits u /\ (∀ c ∈ hexLow u, c.toNat < 128) /\ (hexLow u).length <= k + 1 := by
 induction k with
 | zero =>
   intro u hu
   have h : u < 16 := by simpa using hu
   rw [hexLow_small h, hex_small h]
   exact ⟨by simp [Lib.toUpperA, (upper_low u h).1], by simpa using (upper_low u h).2, by simp⟩
 | succ k ih =>
   intro u hu
   by_cases h : u < 16
   ·rw [hexLow_small h, hex_small h]
    exact ⟨by simp [Lib.toUpperA, (upper_low u h).1], by simpa using (upper_low u h).2, by simp⟩
   ·have h2 : u / 16 < 16 ^ (k + 1) := by
     rw [Nat.div_lt_iff_lt_mul (by omega)]
     rw [Nat.pow_succ] at hu; exact hu
    obtain ⟨i1, i2, i3⟩ := ih (u / 16) h2
    have hm := upper_low (u % 16) (Nat.mod_lt _ (by omega))
    rw [hexLow_big h, hex_big h]
    refine ⟨?_, ?_, by simp; omega⟩
    ·unfold Lib.toUpperA at i1 ⊢
     rw [List.map_append, i1]; simp [hm.1]
    ·intro c hc
     rcases List.mem_append.1 hc with hc | hc
     ·exact i2 c hc
     ·rw [List.mem_singleton.1 hc]; exact hm.2
theorem code_ok (n : Nat) (hn : n <= 1114111) : CodeOk n := by
 intro w hT
 have HF := Lib.hid (formatS_any n hn w hT); clear hT
 obtain ⟨h1, h2, h3⟩ := upper_hex 5 n (by have : (16 : Nat) ^ 6 = 16777216 := by decide
                                          omega)
 have hup := fun W => Tryz.strings_ToUpper_ascii ⟨(hexLow n).toArray⟩ W (by show (hexLow n).toArray.size <= _; simp; omega) (fun j b hj => by
  have hj' : (hexLow n)[j]? = some b := by simpa using hj
  exact h2 b (List.mem_of_getElem? hj'))
 have e : (⟨(Lib.toUpperA (⟨(hexLow n).toArray⟩ : ByteArray).data.toList).toArray⟩ : ByteArray) = ⟨(hexDigits n).toArray⟩ := by simp [h1]
 rw [e] at hup
 have HU := Lib.hid hup
 clear hup h1 h2 h3 e
 go_enter Tryz.func130, Tryz.ntmps130
 go_wp2_with fail
 refine HF.out.mono ?_
 rintro e w1 ⟨rfl, hb⟩
 go_wp2_with fail
 refine (HU.out _).mono ?_
 rintro e w2 ⟨rfl, hb2⟩
 go_wp2_with fail
 go_ret
 exact ⟨rfl, hb.trans (hb2.mono hb.size)⟩
end Go.Proofs.YtalgnnidhnhciaaGreatDoor
namespace Go.Proofs.YtalgnnidhnhciaaGreatDoor
open Go Go.RowKit Go.Proofs
theorem known5_ok (w : World) (hE : ErrV w) (hT : TabD w) : Calls Tryz.prog 10 #[] w fun e w' => e = .returned (.bool true) /\ Below w.heap.size w w' := by
 have hp := parse_any w ⟨#[]⟩ hE
 have HP := Lib.hid hp; have HE := Lib.hid hE; have HT := Lib.hid hT
 clear hp hE hT
 go_enter Tryz.func10, Tryz.ntmps10
 go_wp2_with fail
 refine HP.out.mono ?_
 rintro e w1 ⟨ds1, rs1, P, rfl, hP, hd, hr, hb1⟩
 have hP' : (([], []), 0, 0) = P := hP
 subst hP'
 obtain ⟨A1, c1, rfl, hd1, hd2, -⟩ := DefsOwn.form (l := []) hd
 obtain ⟨R1, d1, rfl, hr1, hr2, -⟩ := RulesOwn.form (l := []) hr
 unfold maxLen at hd2 hr2
 have hE1 := (HE.out.below hb1).alloc (.cells #[.slice A1 0 c1, .slice R1 0 d1] 28)
 have hT1 := (HT.out.below hb1 HT.out.lt).below (((Below.refl w1.heap.size w1).alloc (Nat.le_refl _) (.cells #[.slice A1 0 c1, .slice R1 0 d1] 28))) (Nat.lt_of_lt_of_le HT.out.lt hb1.size)
 have hf1 := Blk.new w1 28 #[.slice A1 0 c1, .slice R1 0 d1]
 have hB1 := hb1.alloc hb1.size (.cells #[.slice A1 0 c1, .slice R1 0 d1] 28)
 have hp : Calls Tryz.prog 21 #[.string ⟨#[99, 108, 97, 115, 115, 32, 118, 32, 61, 32, 39, 97, 39, 32, 124, 32, 85, 43, 54, 50, 59, 32, 108, 105, 110, 101, 32, 53, 58, 32, 118, 42, 32, 47, 32, 97, 110, 121, 59]⟩] (w1.alloc (.cells #[.slice A1 0 c1, .slice R1 0 d1] 28)) (ParseR (w1.alloc (.cells #[.slice A1 0 c1, .slice R1 0 d1] 28)) ⟨kText.toArray⟩) := parse_any (w1.alloc (.cells #[.slice A1 0 c1, .slice R1 0 d1] 28)) ⟨kText.toArray⟩ hE1
 have HT1 := Lib.hid hT1; have HF := Lib.hid hf1; have HB := Lib.hid hB1; have HPB := Lib.hid hp
 clear hp hE1 hT1 hf1 hB1 hb1 hd hr hP HE HT HP hd1 hr1
 go_wp2_with fail
 obtain ⟨W1, hW1⟩ : ∃ W1, w1.alloc (.cells #[.slice A1 0 c1, .slice R1 0 d1] 28) = W1 := ⟨_, rfl⟩
 rw [hW1] at HPB HT1 HF HB
 try rw [hW1]
 clear hW1
 refine HPB.out.mono ?_
 rintro e w2 ⟨ds2, rs2, P, rfl, hP, hd, hr, hb2⟩
 have hP' : parseT kText = P := hP
 rw [k_parse] at hP'
 subst hP'
 obtain ⟨A2, c2, rfl, hd1, hd2, hdn⟩ := DefsOwn.form (l := [kDef.tree]) hd
 obtain ⟨gr, d2, x, rfl, hr1, hr2, hrc, hrr⟩ := RulesOwn.one (r := kRule.tree) hr
 unfold maxLen at hd2 hr2
 have hDA : DefsAt (w2.alloc (.cells #[.slice A2 1 c2, .slice (some ⟨gr, 0, none⟩) 1 d2] 28)) (fun g => g < (w2.alloc (.cells #[.slice A2 1 c2, .slice (some ⟨gr, 0, none⟩) 1 d2] 28)).heap.size) (.slice A2 1 c2) ([kDef].map DefP.tree) := (DefsOwn.at_ (l := [kDef.tree]) hd).keep (fun g _ h => by simp; omega) (fun g hg k y hy => by rw [World.cell?_alloc_past _ _ _ (World.block_lt_of_cell? w2 _ hy)]; exact hy)
 have hRA : RulesAt (w2.alloc (.cells #[.slice A2 1 c2, .slice (some ⟨gr, 0, none⟩) 1 d2] 28)) (fun g => g < (w2.alloc (.cells #[.slice A2 1 c2, .slice (some ⟨gr, 0, none⟩) 1 d2] 28)).heap.size) (.slice (some ⟨gr, 0, none⟩) 1 d2) ([kRule].map RuleP.tree) := (RulesOwn.at_ (l := [kRule.tree]) hr).keep (fun g _ h => by simp; omega) (fun g hg k y hy => by rw [World.cell?_alloc_past _ _ _ (World.block_lt_of_cell? w2 _ hy)]; exact hy)
 have hTA := (HT1.out.below hb2 HT1.out.lt).below (((Below.refl w2.heap.size w2).alloc (Nat.le_refl _) (.cells #[.slice A2 1 c2, .slice (some ⟨gr, 0, none⟩) 1 d2] 28))) (Nat.lt_of_lt_of_le HT1.out.lt hb2.size)
 have hfA := Blk.alloc (Blk.below HF.out hb2 (Blk.lt HF.out)) (.cells #[.slice A2 1 c2, .slice (some ⟨gr, 0, none⟩) 1 d2] 28)
 have hgA := Blk.new w2 28 #[.slice A2 1 c2, .slice (some ⟨gr, 0, none⟩) 1 d2]
 have hBA := (HB.out.trans (hb2.mono HB.out.size)).alloc (Nat.le_trans HB.out.size hb2.size) (.cells #[.slice A2 1 c2, .slice (some ⟨gr, 0, none⟩) 1 d2] 28)
 have hxA : CellsAt (w2.alloc (.cells #[.slice A2 1 c2, .slice (some ⟨gr, 0, none⟩) 1 d2] 28)) gr 0 x.enc := hrc.keep (fun k y hy => by rw [World.cell?_alloc_past _ _ _ (World.block_lt_of_cell? w2 _ hy)]; exact hy)
 have hrA : RuleR (w2.alloc (.cells #[.slice A2 1 c2, .slice (some ⟨gr, 0, none⟩) 1 d2] 28)) (fun g => g < w2.heap.size) x kRule.tree := hrr.keep (fun g h _ => h) (fun g hg k y hy => by rw [World.cell?_alloc_past _ _ _ (World.block_lt_of_cell? w2 _ hy)]; exact hy)
 obtain ⟨W2, hW2⟩ : ∃ W2, w2.alloc (.cells #[.slice A2 1 c2, .slice (some ⟨gr, 0, none⟩) 1 d2] 28) = W2 := ⟨_, rfl⟩
 obtain ⟨gg, hgg⟩ : ∃ gg, w2.heap.size = gg := ⟨_, rfl⟩
 obtain ⟨gf, hgf⟩ : ∃ gf, w1.heap.size = gf := ⟨_, rfl⟩
 have hggl : gg < W2.heap.size := by rw [<- hgg, <- hW2]; simp
 rw [hW2] at hDA hRA hTA hfA hgA hBA hxA hrA
 rw [hgg] at hgA hrA
 rw [hgf] at hfA
 have hst := sets_ok [kDef] (by simp) W2 (.slice A2 1 c2) (some ⟨gr, 0, none⟩) 1 d2 hDA (fun A n c e hA => by cases e; exact hdn hA)
 have hks : setsOf [kDef] [kDef].length = [[((97 : Int), (98 : Int))]] := k_sets
 rw [hks] at hst
 have HST := Lib.hid hst; have HDA := Lib.hid hDA; have HRA := Lib.hid hRA; have HTA := Lib.hid hTA; have HFA := Lib.hid hfA; have HGA := Lib.hid hgA; have HBA := Lib.hid hBA; have HXA := Lib.hid hxA; have HRR := Lib.hid hrA
 have b0 := Blk.cell hgA 0; have b1 := Blk.cell hgA 1
 simp only [List.getElem?_toArray, List.getElem?_cons_zero, List.getElem?_cons_succ] at b0 b1
 clear hst hDA hRA hTA hfA hgA hBA hxA hrA hks hd hr hP hrr hrc hb2 HF HB HPB HT1 hdn
 go_wp2_with fail
 try rw [hW2]
 try rw [hgg]
 try rw [hgf]
 clear hW2 hgg hgf
 refine HST.out.mono ?_
 rintro e w3 ⟨sv, rfl, hso, hb3⟩
 obtain ⟨gs, cs, gu, cu, rfl, hs1, hs2, hs3, hs4, s0, s1, s2⟩ := hso.one
 unfold maxLen at hs2 hs4
 have hg3 := Blk.below HGA.out hb3 (Blk.lt HGA.out)
 have hf3 := Blk.below HFA.out hb3 (Blk.lt HFA.out)
 have hx3 : CellsAt w3 gr 0 x.enc := HXA.out.keep (fun k y hy => by rw [hb3.cell (p := ⟨gr, k, none⟩) (World.block_lt_of_cell? W2 _ hy)]; exact hy)
 have hT3 := HTA.out.below hb3 HTA.out.lt
 have hrl : TreeV true w3 (fun g => g < gg) x.left kRule.left.tree := HRR.out.2.2.1.fr (hb3.mono (Nat.le_of_lt hggl))
 have hrx := rexF_ok kRule.left trivial (by decide) (by decide) w3 hT3 (fun g => g < gg) x.left hrl
 rw [k_rex] at hrx
 have hco : x.cost = 5 := HRR.out.2.1
 obtain ⟨cat, cost, k1, lo1, hi1, wt1, nm1, B1, n1, e1', k2, lo2, hi2, wt2, nm2, B2, n2, e2'⟩ := x
 obtain rfl : cost = 5 := hco
 have e1 := CellsAt.at_ hx3 1 _ rfl; have e2 := CellsAt.at_ hx3 2 _ rfl; have e3 := CellsAt.at_ hx3 3 _ rfl; have e4 := CellsAt.at_ hx3 4 _ rfl; have e5 := CellsAt.at_ hx3 5 _ rfl; have e6 := CellsAt.at_ hx3 6 _ rfl; have e7 := CellsAt.at_ hx3 7 _ rfl
 simp only [Nat.zero_add] at e1 e2 e3 e4 e5 e6 e7
 have b0 := Blk.cell hg3 0; have b1 := Blk.cell hg3 1; have a1 := Blk.cell hf3 1
 simp only [List.getElem?_toArray, List.getElem?_cons_zero, List.getElem?_cons_succ] at b0 b1 a1
 have HRX := Lib.hid hrx; have HT3 := Lib.hid hT3; have HB3 := Lib.hid hb3; have HG3 := Lib.hid hg3
 have HS0 := Lib.hid s0; have HS1 := Lib.hid s1; have HS2 := Lib.hid s2
 clear hrx hT3 hb3 hg3 hf3 hx3 hrl hso HFA HGA HXA HRR HTA HST s0 s1 s2
 go_wp2_with fail
 refine HRX.out.mono ?_
 rintro e w4 ⟨rfl, hb4⟩
 have hc4 : ∀ p : Addr, ∀ y, w3.cell? p = some y -> w4.cell? p = some y := fun p y hy => by rw [hb4.cell (World.block_lt_of_cell? w3 _ hy)]; exact hy
 have s0 := hc4 _ _ HS0.out; have s1 := hc4 _ _ HS1.out; have s2 := hc4 _ _ HS2.out
 have b0' := hc4 _ _ b0; have b1' := hc4 _ _ b1
 have hT4 := HT3.out.below hb4 HT3.out.lt
 have hB4 := HB3.out.trans (hb4.mono HB3.out.size)
 have hD4 := (HDA.out.fr hB4).keep (S' := fun g => g < w4.heap.size) (fun g h _ => Nat.lt_of_lt_of_le h hB4.size) (fun _ _ _ _ h => h)
 have hR4 := (HRA.out.fr hB4).keep (S' := fun g => g < w4.heap.size) (fun g h _ => Nat.lt_of_lt_of_le h hB4.size) (fun _ _ _ _ h => h)
 have htx := text_ok [kDef] [kRule] (fun d hd => by rw [List.mem_singleton.1 hd]; exact ⟨⟨code_ok 97 (by decide), code_ok 97 (by decide)⟩, ⟨code_ok 98 (by decide), code_ok 98 (by decide)⟩⟩) (fun r hr => by rw [List.mem_singleton.1 hr]; exact ⟨by decide, trivial, trivial⟩) (by rw [k_text]; decide) (by rw [k_text]; decide) (by decide) (by decide) w4 hT4 _ _ hD4 hR4
 rw [k_text] at htx
 simp only [kOut] at htx
 have HTX := Lib.hid htx; have HB4 := Lib.hid (HBA.out.trans (hB4.mono HBA.out.size))
 clear htx hT4 hB4 hD4 hR4 hc4 hb4 HT3 HB3 HRX HS0 HS1 HS2 HBA HDA HRA b0 b1 e1 e2 e3 e4 e5 e6 e7
 go_wp2_with fail
 refine HTX.out.mono ?_
 rintro e w5 ⟨rfl, hb5⟩
 have HB5 := Lib.hid (HB4.out.trans (hb5.mono HB4.out.size))
 clear hb5 HTX HB4
 go_wp2_with fail
 go_ret
 exact ⟨rfl, HB5.out⟩
end Go.Proofs.YtalgnnidhnhciaaGreatDoor
namespace Go.Proofs.YtalgnnidhnhciaaGreatDoor
open Go Go.RowKit Go.Proofs
theorem letters : ∀ i : Nat, i < 15 -> ((⟨#[97, 98, 99, 100, 101, 102, 103, 104, 105, 106, 107, 108, 109, 110, 111]⟩ : ByteArray).extract i (i + 1)).data.toList = [UInt8.ofNat (97 + i)] := by
 intro i hi
 have h : ∀ i : Fin 15, ((⟨#[97, 98, 99, 100, 101, 102, 103, 104, 105, 106, 107, 108, 109, 110, 111]⟩ : ByteArray).extract i.1 (i.1 + 1)).data.toList = [UInt8.ofNat (97 + i.1)] := by decide +kernel
 exact h ⟨i, hi⟩
end Go.Proofs.YtalgnnidhnhciaaGreatDoor
