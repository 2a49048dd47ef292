/- The contract of lex's IsWord. -/
import Derived.Test.YtdankjkmgcclhaaDoorRow
namespace Go.Proofs.YtdankjkmgcclhaaDoor
open Go.ChangeShapes Go.WideShapes Go.ChangeAt Go.RowKit
set_option linter.unusedVariables false

/-- The words, byte by byte. -/
def wordsL : List (List UInt8) := [[114, 101, 99, 111, 114, 100], [103, 108, 111, 98, 97, 108], [102, 117, 110], [116, 104, 114, 101, 97, 100], [108, 101, 116], [118, 97, 114], [115, 101, 116], [112, 114, 105, 110, 116], [105, 102], [101, 108, 115, 101], [108, 111, 111, 112], [98, 114, 101, 97, 107], [99, 111, 110, 116, 105, 110, 117, 101], [97, 116, 111, 109, 105, 99], [99, 97, 108, 108], [108, 111, 97, 100], [110, 101, 119], [115, 105, 122, 101], [105, 110, 116], [114, 101, 97, 108], [105, 110, 116, 115], [110, 105, 108], [105, 110, 112, 117, 116], [116, 114, 117, 110, 99]]
def isWord (l : List UInt8) : Bool := wordsL.contains l

theorem str_ext {s : ByteArray} {a : Array UInt8} (h : s.data.toList = a.toList) : s = { data := a } := by
  cases s with
  | mk d => congr; exact Array.toList_inj.1 h

theorem neq_of {s : ByteArray} {a : Array UInt8} (h : ¬ s = { data := a }) : (s.toList == a.toList) = false := by
  cases hq : (s.toList == a.toList)
  · rfl
  · exact absurd (str_ext (by rw [beq_iff_eq] at hq; rw [← hq, Lib.toList_data])) h

set_option maxRecDepth 100000 in
set_option maxHeartbeats 2000000 in
theorem isWord_any (s : ByteArray) (w : World) : Calls Tryd.prog 14 #[.string s] w fun e w' => e = .returned (.bool (isWord s.data.toList)) ∧ w' = w := by
  by_cases h0 : s = { data := #[114, 101, 99, 111, 114, 100] }
  · subst h0; go_enter Tryd.func14, Tryd.ntmps14; go_wp2; go_ret; exact ⟨rfl, rfl⟩
  by_cases h1 : s = { data := #[103, 108, 111, 98, 97, 108] }
  · subst h1; go_enter Tryd.func14, Tryd.ntmps14; go_wp2; go_ret; exact ⟨rfl, rfl⟩
  by_cases h2 : s = { data := #[102, 117, 110] }
  · subst h2; go_enter Tryd.func14, Tryd.ntmps14; go_wp2; go_ret; exact ⟨rfl, rfl⟩
  by_cases h3 : s = { data := #[116, 104, 114, 101, 97, 100] }
  · subst h3; go_enter Tryd.func14, Tryd.ntmps14; go_wp2; go_ret; exact ⟨rfl, rfl⟩
  by_cases h4 : s = { data := #[108, 101, 116] }
  · subst h4; go_enter Tryd.func14, Tryd.ntmps14; go_wp2; go_ret; exact ⟨rfl, rfl⟩
  by_cases h5 : s = { data := #[118, 97, 114] }
  · subst h5; go_enter Tryd.func14, Tryd.ntmps14; go_wp2; go_ret; exact ⟨rfl, rfl⟩
  by_cases h6 : s = { data := #[115, 101, 116] }
  · subst h6; go_enter Tryd.func14, Tryd.ntmps14; go_wp2; go_ret; exact ⟨rfl, rfl⟩
  by_cases h7 : s = { data := #[112, 114, 105, 110, 116] }
  · subst h7; go_enter Tryd.func14, Tryd.ntmps14; go_wp2; go_ret; exact ⟨rfl, rfl⟩
  by_cases h8 : s = { data := #[105, 102] }
  · subst h8; go_enter Tryd.func14, Tryd.ntmps14; go_wp2; go_ret; exact ⟨rfl, rfl⟩
  by_cases h9 : s = { data := #[101, 108, 115, 101] }
  · subst h9; go_enter Tryd.func14, Tryd.ntmps14; go_wp2; go_ret; exact ⟨rfl, rfl⟩
  by_cases h10 : s = { data := #[108, 111, 111, 112] }
  · subst h10; go_enter Tryd.func14, Tryd.ntmps14; go_wp2; go_ret; exact ⟨rfl, rfl⟩
  by_cases h11 : s = { data := #[98, 114, 101, 97, 107] }
  · subst h11; go_enter Tryd.func14, Tryd.ntmps14; go_wp2; go_ret; exact ⟨rfl, rfl⟩
  by_cases h12 : s = { data := #[99, 111, 110, 116, 105, 110, 117, 101] }
  · subst h12; go_enter Tryd.func14, Tryd.ntmps14; go_wp2; go_ret; exact ⟨rfl, rfl⟩
  by_cases h13 : s = { data := #[97, 116, 111, 109, 105, 99] }
  · subst h13; go_enter Tryd.func14, Tryd.ntmps14; go_wp2; go_ret; exact ⟨rfl, rfl⟩
  by_cases h14 : s = { data := #[99, 97, 108, 108] }
  · subst h14; go_enter Tryd.func14, Tryd.ntmps14; go_wp2; go_ret; exact ⟨rfl, rfl⟩
  by_cases h15 : s = { data := #[108, 111, 97, 100] }
  · subst h15; go_enter Tryd.func14, Tryd.ntmps14; go_wp2; go_ret; exact ⟨rfl, rfl⟩
  by_cases h16 : s = { data := #[110, 101, 119] }
  · subst h16; go_enter Tryd.func14, Tryd.ntmps14; go_wp2; go_ret; exact ⟨rfl, rfl⟩
  by_cases h17 : s = { data := #[115, 105, 122, 101] }
  · subst h17; go_enter Tryd.func14, Tryd.ntmps14; go_wp2; go_ret; exact ⟨rfl, rfl⟩
  by_cases h18 : s = { data := #[105, 110, 116] }
  · subst h18; go_enter Tryd.func14, Tryd.ntmps14; go_wp2; go_ret; exact ⟨rfl, rfl⟩
  by_cases h19 : s = { data := #[114, 101, 97, 108] }
  · subst h19; go_enter Tryd.func14, Tryd.ntmps14; go_wp2; go_ret; exact ⟨rfl, rfl⟩
  by_cases h20 : s = { data := #[105, 110, 116, 115] }
  · subst h20; go_enter Tryd.func14, Tryd.ntmps14; go_wp2; go_ret; exact ⟨rfl, rfl⟩
  by_cases h21 : s = { data := #[110, 105, 108] }
  · subst h21; go_enter Tryd.func14, Tryd.ntmps14; go_wp2; go_ret; exact ⟨rfl, rfl⟩
  by_cases h22 : s = { data := #[105, 110, 112, 117, 116] }
  · subst h22; go_enter Tryd.func14, Tryd.ntmps14; go_wp2; go_ret; exact ⟨rfl, rfl⟩
  by_cases h23 : s = { data := #[116, 114, 117, 110, 99] }
  · subst h23; go_enter Tryd.func14, Tryd.ntmps14; go_wp2; go_ret; exact ⟨rfl, rfl⟩
  have F : Hid (isWord s.data.toList = false) := by
    refine hid ?_
    cases hq : isWord s.data.toList
    · rfl
    · simp only [isWord, wordsL, List.contains_cons, List.contains_nil, Bool.or_false, Bool.or_eq_true, beq_iff_eq] at hq
      exfalso
      rcases hq with hq | hq | hq | hq | hq | hq | hq | hq | hq | hq | hq | hq | hq | hq | hq | hq | hq | hq | hq | hq | hq | hq | hq | hq
      · exact h0 (str_ext hq)
      · exact h1 (str_ext hq)
      · exact h2 (str_ext hq)
      · exact h3 (str_ext hq)
      · exact h4 (str_ext hq)
      · exact h5 (str_ext hq)
      · exact h6 (str_ext hq)
      · exact h7 (str_ext hq)
      · exact h8 (str_ext hq)
      · exact h9 (str_ext hq)
      · exact h10 (str_ext hq)
      · exact h11 (str_ext hq)
      · exact h12 (str_ext hq)
      · exact h13 (str_ext hq)
      · exact h14 (str_ext hq)
      · exact h15 (str_ext hq)
      · exact h16 (str_ext hq)
      · exact h17 (str_ext hq)
      · exact h18 (str_ext hq)
      · exact h19 (str_ext hq)
      · exact h20 (str_ext hq)
      · exact h21 (str_ext hq)
      · exact h22 (str_ext hq)
      · exact h23 (str_ext hq)
  generalize isWord s.data.toList = q at F
  have n0 : (s.toList == [114, 101, 99, 111, 114, 100]) = false := neq_of h0
  clear h0
  have n1 : (s.toList == [103, 108, 111, 98, 97, 108]) = false := neq_of h1
  clear h1
  have n2 : (s.toList == [102, 117, 110]) = false := neq_of h2
  clear h2
  have n3 : (s.toList == [116, 104, 114, 101, 97, 100]) = false := neq_of h3
  clear h3
  have n4 : (s.toList == [108, 101, 116]) = false := neq_of h4
  clear h4
  have n5 : (s.toList == [118, 97, 114]) = false := neq_of h5
  clear h5
  have n6 : (s.toList == [115, 101, 116]) = false := neq_of h6
  clear h6
  have n7 : (s.toList == [112, 114, 105, 110, 116]) = false := neq_of h7
  clear h7
  have n8 : (s.toList == [105, 102]) = false := neq_of h8
  clear h8
  have n9 : (s.toList == [101, 108, 115, 101]) = false := neq_of h9
  clear h9
  have n10 : (s.toList == [108, 111, 111, 112]) = false := neq_of h10
  clear h10
  have n11 : (s.toList == [98, 114, 101, 97, 107]) = false := neq_of h11
  clear h11
  have n12 : (s.toList == [99, 111, 110, 116, 105, 110, 117, 101]) = false := neq_of h12
  clear h12
  have n13 : (s.toList == [97, 116, 111, 109, 105, 99]) = false := neq_of h13
  clear h13
  have n14 : (s.toList == [99, 97, 108, 108]) = false := neq_of h14
  clear h14
  have n15 : (s.toList == [108, 111, 97, 100]) = false := neq_of h15
  clear h15
  have n16 : (s.toList == [110, 101, 119]) = false := neq_of h16
  clear h16
  have n17 : (s.toList == [115, 105, 122, 101]) = false := neq_of h17
  clear h17
  have n18 : (s.toList == [105, 110, 116]) = false := neq_of h18
  clear h18
  have n19 : (s.toList == [114, 101, 97, 108]) = false := neq_of h19
  clear h19
  have n20 : (s.toList == [105, 110, 116, 115]) = false := neq_of h20
  clear h20
  have n21 : (s.toList == [110, 105, 108]) = false := neq_of h21
  clear h21
  have n22 : (s.toList == [105, 110, 112, 117, 116]) = false := neq_of h22
  clear h22
  have n23 : (s.toList == [116, 114, 117, 110, 99]) = false := neq_of h23
  clear h23
  go_enter Tryd.func14, Tryd.ntmps14
  go_wp2
  go_ret
  exact ⟨ret_bool F.out.symm, rfl⟩
end Go.Proofs.YtdankjkmgcclhaaDoor
