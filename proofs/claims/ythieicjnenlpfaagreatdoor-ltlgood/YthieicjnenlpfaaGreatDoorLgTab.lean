/- The tables, as the card lays them. -/
import Derived.Test.YthieicjnenlpfaaGreatDoorLgA
import Derived.Test.YthieicjnenlpfaaGreatDoorEvRow
namespace Go.Proofs.YthieicjnenlpfaaGreatDoor
open Go.ChangeShapes Go.WideShapes Go.ChangeAt Go.RowKit
set_option linter.unusedSimpArgs false
set_option linter.unusedVariables false

set_option maxRecDepth 100000 in
theorem shtab_of (W : World) (h : laidMetH Tryz.prog laidY W) : ShTab W := fun n hn => by
  have c := tab1_cells W h
  have : n = 0 ∨ n = 1 ∨ n = 2 ∨ n = 3 ∨ n = 4 ∨ n = 5 ∨ n = 6 ∨ n = 7 ∨ n = 8 ∨ n = 9 ∨ n = 10 ∨ n = 11 ∨ n = 12 ∨ n = 13 ∨ n = 14 := by omega
  rcases this with rfl | rfl | rfl | rfl | rfl | rfl | rfl | rfl | rfl | rfl | rfl | rfl | rfl | rfl | rfl
  · exact ⟨c 0 _ (by kernel_rfl) (by kernel_rfl), c 1 _ (by kernel_rfl) (by kernel_rfl), c 2 _ (by kernel_rfl) (by kernel_rfl), c 3 _ (by kernel_rfl) (by kernel_rfl), c 4 _ (by kernel_rfl) (by kernel_rfl), c 5 _ (by kernel_rfl) (by kernel_rfl), c 6 _ (by kernel_rfl) (by kernel_rfl), c 7 _ (by kernel_rfl) (by kernel_rfl), c 8 _ (by kernel_rfl) (by kernel_rfl)⟩
  · exact ⟨c 9 _ (by kernel_rfl) (by kernel_rfl), c 10 _ (by kernel_rfl) (by kernel_rfl), c 11 _ (by kernel_rfl) (by kernel_rfl), c 12 _ (by kernel_rfl) (by kernel_rfl), c 13 _ (by kernel_rfl) (by kernel_rfl), c 14 _ (by kernel_rfl) (by kernel_rfl), c 15 _ (by kernel_rfl) (by kernel_rfl), c 16 _ (by kernel_rfl) (by kernel_rfl), c 17 _ (by kernel_rfl) (by kernel_rfl)⟩
  · exact ⟨c 18 _ (by kernel_rfl) (by kernel_rfl), c 19 _ (by kernel_rfl) (by kernel_rfl), c 20 _ (by kernel_rfl) (by kernel_rfl), c 21 _ (by kernel_rfl) (by kernel_rfl), c 22 _ (by kernel_rfl) (by kernel_rfl), c 23 _ (by kernel_rfl) (by kernel_rfl), c 24 _ (by kernel_rfl) (by kernel_rfl), c 25 _ (by kernel_rfl) (by kernel_rfl), c 26 _ (by kernel_rfl) (by kernel_rfl)⟩
  · exact ⟨c 27 _ (by kernel_rfl) (by kernel_rfl), c 28 _ (by kernel_rfl) (by kernel_rfl), c 29 _ (by kernel_rfl) (by kernel_rfl), c 30 _ (by kernel_rfl) (by kernel_rfl), c 31 _ (by kernel_rfl) (by kernel_rfl), c 32 _ (by kernel_rfl) (by kernel_rfl), c 33 _ (by kernel_rfl) (by kernel_rfl), c 34 _ (by kernel_rfl) (by kernel_rfl), c 35 _ (by kernel_rfl) (by kernel_rfl)⟩
  · exact ⟨c 36 _ (by kernel_rfl) (by kernel_rfl), c 37 _ (by kernel_rfl) (by kernel_rfl), c 38 _ (by kernel_rfl) (by kernel_rfl), c 39 _ (by kernel_rfl) (by kernel_rfl), c 40 _ (by kernel_rfl) (by kernel_rfl), c 41 _ (by kernel_rfl) (by kernel_rfl), c 42 _ (by kernel_rfl) (by kernel_rfl), c 43 _ (by kernel_rfl) (by kernel_rfl), c 44 _ (by kernel_rfl) (by kernel_rfl)⟩
  · exact ⟨c 45 _ (by kernel_rfl) (by kernel_rfl), c 46 _ (by kernel_rfl) (by kernel_rfl), c 47 _ (by kernel_rfl) (by kernel_rfl), c 48 _ (by kernel_rfl) (by kernel_rfl), c 49 _ (by kernel_rfl) (by kernel_rfl), c 50 _ (by kernel_rfl) (by kernel_rfl), c 51 _ (by kernel_rfl) (by kernel_rfl), c 52 _ (by kernel_rfl) (by kernel_rfl), c 53 _ (by kernel_rfl) (by kernel_rfl)⟩
  · exact ⟨c 54 _ (by kernel_rfl) (by kernel_rfl), c 55 _ (by kernel_rfl) (by kernel_rfl), c 56 _ (by kernel_rfl) (by kernel_rfl), c 57 _ (by kernel_rfl) (by kernel_rfl), c 58 _ (by kernel_rfl) (by kernel_rfl), c 59 _ (by kernel_rfl) (by kernel_rfl), c 60 _ (by kernel_rfl) (by kernel_rfl), c 61 _ (by kernel_rfl) (by kernel_rfl), c 62 _ (by kernel_rfl) (by kernel_rfl)⟩
  · exact ⟨c 63 _ (by kernel_rfl) (by kernel_rfl), c 64 _ (by kernel_rfl) (by kernel_rfl), c 65 _ (by kernel_rfl) (by kernel_rfl), c 66 _ (by kernel_rfl) (by kernel_rfl), c 67 _ (by kernel_rfl) (by kernel_rfl), c 68 _ (by kernel_rfl) (by kernel_rfl), c 69 _ (by kernel_rfl) (by kernel_rfl), c 70 _ (by kernel_rfl) (by kernel_rfl), c 71 _ (by kernel_rfl) (by kernel_rfl)⟩
  · exact ⟨c 72 _ (by kernel_rfl) (by kernel_rfl), c 73 _ (by kernel_rfl) (by kernel_rfl), c 74 _ (by kernel_rfl) (by kernel_rfl), c 75 _ (by kernel_rfl) (by kernel_rfl), c 76 _ (by kernel_rfl) (by kernel_rfl), c 77 _ (by kernel_rfl) (by kernel_rfl), c 78 _ (by kernel_rfl) (by kernel_rfl), c 79 _ (by kernel_rfl) (by kernel_rfl), c 80 _ (by kernel_rfl) (by kernel_rfl)⟩
  · exact ⟨c 81 _ (by kernel_rfl) (by kernel_rfl), c 82 _ (by kernel_rfl) (by kernel_rfl), c 83 _ (by kernel_rfl) (by kernel_rfl), c 84 _ (by kernel_rfl) (by kernel_rfl), c 85 _ (by kernel_rfl) (by kernel_rfl), c 86 _ (by kernel_rfl) (by kernel_rfl), c 87 _ (by kernel_rfl) (by kernel_rfl), c 88 _ (by kernel_rfl) (by kernel_rfl), c 89 _ (by kernel_rfl) (by kernel_rfl)⟩
  · exact ⟨c 90 _ (by kernel_rfl) (by kernel_rfl), c 91 _ (by kernel_rfl) (by kernel_rfl), c 92 _ (by kernel_rfl) (by kernel_rfl), c 93 _ (by kernel_rfl) (by kernel_rfl), c 94 _ (by kernel_rfl) (by kernel_rfl), c 95 _ (by kernel_rfl) (by kernel_rfl), c 96 _ (by kernel_rfl) (by kernel_rfl), c 97 _ (by kernel_rfl) (by kernel_rfl), c 98 _ (by kernel_rfl) (by kernel_rfl)⟩
  · exact ⟨c 99 _ (by kernel_rfl) (by kernel_rfl), c 100 _ (by kernel_rfl) (by kernel_rfl), c 101 _ (by kernel_rfl) (by kernel_rfl), c 102 _ (by kernel_rfl) (by kernel_rfl), c 103 _ (by kernel_rfl) (by kernel_rfl), c 104 _ (by kernel_rfl) (by kernel_rfl), c 105 _ (by kernel_rfl) (by kernel_rfl), c 106 _ (by kernel_rfl) (by kernel_rfl), c 107 _ (by kernel_rfl) (by kernel_rfl)⟩
  · exact ⟨c 108 _ (by kernel_rfl) (by kernel_rfl), c 109 _ (by kernel_rfl) (by kernel_rfl), c 110 _ (by kernel_rfl) (by kernel_rfl), c 111 _ (by kernel_rfl) (by kernel_rfl), c 112 _ (by kernel_rfl) (by kernel_rfl), c 113 _ (by kernel_rfl) (by kernel_rfl), c 114 _ (by kernel_rfl) (by kernel_rfl), c 115 _ (by kernel_rfl) (by kernel_rfl), c 116 _ (by kernel_rfl) (by kernel_rfl)⟩
  · exact ⟨c 117 _ (by kernel_rfl) (by kernel_rfl), c 118 _ (by kernel_rfl) (by kernel_rfl), c 119 _ (by kernel_rfl) (by kernel_rfl), c 120 _ (by kernel_rfl) (by kernel_rfl), c 121 _ (by kernel_rfl) (by kernel_rfl), c 122 _ (by kernel_rfl) (by kernel_rfl), c 123 _ (by kernel_rfl) (by kernel_rfl), c 124 _ (by kernel_rfl) (by kernel_rfl), c 125 _ (by kernel_rfl) (by kernel_rfl)⟩
  · exact ⟨c 126 _ (by kernel_rfl) (by kernel_rfl), c 127 _ (by kernel_rfl) (by kernel_rfl), c 128 _ (by kernel_rfl) (by kernel_rfl), c 129 _ (by kernel_rfl) (by kernel_rfl), c 130 _ (by kernel_rfl) (by kernel_rfl), c 131 _ (by kernel_rfl) (by kernel_rfl), c 132 _ (by kernel_rfl) (by kernel_rfl), c 133 _ (by kernel_rfl) (by kernel_rfl), c 134 _ (by kernel_rfl) (by kernel_rfl)⟩
set_option maxRecDepth 100000 in
theorem partab_of (W : World) (h : laidMetH Tryz.prog laidY W) : ParTab W := fun n x hx => by
  have c := tab0_cells W h
  have hn := parL_lt hx
  have : n = 0 ∨ n = 1 ∨ n = 2 ∨ n = 3 ∨ n = 4 ∨ n = 5 := by omega
  rcases this with rfl | rfl | rfl | rfl | rfl | rfl
  · cases hx; exact c 0 _ (by kernel_rfl) (by kernel_rfl)
  · cases hx; exact c 1 _ (by kernel_rfl) (by kernel_rfl)
  · cases hx; exact c 2 _ (by kernel_rfl) (by kernel_rfl)
  · cases hx; exact c 3 _ (by kernel_rfl) (by kernel_rfl)
  · cases hx; exact c 4 _ (by kernel_rfl) (by kernel_rfl)
  · cases hx; exact c 5 _ (by kernel_rfl) (by kernel_rfl)
end Go.Proofs.YthieicjnenlpfaaGreatDoor

