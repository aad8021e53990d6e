/- Bits of an int: masks and joins. -/
import Derived.Test.YthbnhdocjnhhlaaProg
import Derived.Laws.BitsLemmas
namespace Go.Proofs.Ythbnhdocjnhhlaa
open Go
theorem wraps_i64 (n : Int) (h₀ : 0 ≤ n) (h₁ : n < 2 ^ 63) : IntKind.i64.wrap n = n := by rw [IntKind.wrap_i64]; omega
section
variable (x y : Int)
theorem i64_and63 (h₀ : 0 ≤ x) (h₁ : x < 9223372036854775808) : bits .and .i64 x 63 = x % 64 := bits_mask .i64 63 (by decide) wraps_i64 6 (by decide) x h₀ h₁
theorem i64_and31 (h₀ : 0 ≤ x) (h₁ : x < 9223372036854775808) : bits .and .i64 x 31 = x % 32 := bits_mask .i64 63 (by decide) wraps_i64 5 (by decide) x h₀ h₁
theorem i64_and15 (h₀ : 0 ≤ x) (h₁ : x < 9223372036854775808) : bits .and .i64 x 15 = x % 16 := bits_mask .i64 63 (by decide) wraps_i64 4 (by decide) x h₀ h₁
theorem i64_and7 (h₀ : 0 ≤ x) (h₁ : x < 9223372036854775808) : bits .and .i64 x 7 = x % 8 := bits_mask .i64 63 (by decide) wraps_i64 3 (by decide) x h₀ h₁
theorem i64_or6 (hx₀ : 0 ≤ x) (hx : x % 64 = 0) (hx₁ : x < 9223372036854775808) (h₀ : 0 ≤ y) (h₁ : y < 64) : bits .or .i64 x y = x + y :=
  bits_join .i64 63 (by decide) wraps_i64 6 x y hx₀ hx hx₁ h₀ h₁ (by omega)
theorem i64_or128 (h₀ : 0 ≤ y) (h₁ : y < 64) : bits .or .i64 128 y = 128 + y :=
  bits_join .i64 63 (by decide) wraps_i64 6 128 y (by decide) (by decide) (by decide) h₀ h₁ (by omega)
theorem i64_or192 (h₀ : 0 ≤ y) (h₁ : y < 32) : bits .or .i64 192 y = 192 + y :=
  bits_join .i64 63 (by decide) wraps_i64 5 192 y (by decide) (by decide) (by decide) h₀ h₁ (by omega)
theorem i64_or224 (h₀ : 0 ≤ y) (h₁ : y < 16) : bits .or .i64 224 y = 224 + y :=
  bits_join .i64 63 (by decide) wraps_i64 4 224 y (by decide) (by decide) (by decide) h₀ h₁ (by omega)
theorem i64_or240 (h₀ : 0 ≤ y) (h₁ : y < 8) : bits .or .i64 240 y = 240 + y :=
  bits_join .i64 63 (by decide) wraps_i64 3 240 y (by decide) (by decide) (by decide) h₀ h₁ (by omega)
end
end Go.Proofs.Ythbnhdocjnhhlaa
