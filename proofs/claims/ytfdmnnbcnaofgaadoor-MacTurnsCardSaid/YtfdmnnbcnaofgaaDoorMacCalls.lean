import Derived.Test.YtfdmnnbcnaofgaaDoorMacHmac
import Derived.Test.YtfdmnnbcnaofgaaDoorMacIds
import Derived.Test.YtfdmnnbcnaofgaaDoorRefJoin
namespace Go.Proofs.YtfdmnnbcnaofgaaDoor
open Go.RowKit
open Pk Sh
set_option linter.unusedVariables false

theorem ints_rd (W : World) (cs : List Int) : Rd (W.alloc (.cells (cs.map iv).toArray 3)) (some ⟨W.heap.size, 0, none⟩) cs.length (cs.map iv) := by
  have := Rd.new W (cs.map iv) 3
  rwa [List.length_map] at this
theorem nums_four (W : World) (a b c d : Int) : Calls Tryd.prog 34 #[.slice (some ⟨W.heap.size, 0, none⟩) 4 4] (W.alloc (.cells #[.int .i64 a, .int .i64 b, .int .i64 c, .int .i64 d] 3)) (NumsPost [a, b, c, d] (W.alloc (.cells #[.int .i64 a, .int .i64 b, .int .i64 c, .int .i64 d] 3))) :=
  nums_any _ 4 4 [a, b, c, d] _ (ints_rd W [a, b, c, d]) (by omega)
theorem nums_three (W : World) (a b c : Int) : Calls Tryd.prog 34 #[.slice (some ⟨W.heap.size, 0, none⟩) 3 3] (W.alloc (.cells #[.int .i64 a, .int .i64 b, .int .i64 c] 3)) (NumsPost [a, b, c] (W.alloc (.cells #[.int .i64 a, .int .i64 b, .int .i64 c] 3))) :=
  nums_any _ 3 3 [a, b, c] _ (ints_rd W [a, b, c]) (by omega)
theorem refNums_four (W : World) (a b c d : Int) : Calls Tryd.prog 37 #[.slice (some ⟨W.heap.size, 0, none⟩) 4 4] (W.alloc (.cells #[.int .i64 a, .int .i64 b, .int .i64 c, .int .i64 d] 3)) (NumsPost [a, b, c, d] (W.alloc (.cells #[.int .i64 a, .int .i64 b, .int .i64 c, .int .i64 d] 3))) :=
  refNums_any _ 4 4 [a, b, c, d] _ (ints_rd W [a, b, c, d]) (by omega)
theorem refNums_three (W : World) (a b c : Int) : Calls Tryd.prog 37 #[.slice (some ⟨W.heap.size, 0, none⟩) 3 3] (W.alloc (.cells #[.int .i64 a, .int .i64 b, .int .i64 c] 3)) (NumsPost [a, b, c] (W.alloc (.cells #[.int .i64 a, .int .i64 b, .int .i64 c] 3))) :=
  refNums_any _ 3 3 [a, b, c] _ (ints_rd W [a, b, c]) (by omega)
theorem joinBad_two (l l' : List UInt8) (h : l.length ≤ 65536) (h' : l'.length ≤ 65536) : joinBad [l, l'] = false := by
  simp [joinBad, longField]
  omega
/-- a list of two fields, neither of which is too long: its bytes, and no error -/
theorem join_two (W : World) (B B' : Option Addr) (n c n' c' : Nat) (l l' : List UInt8) (h : Sl W B n c l) (h' : Sl W B' n' c' l') (hn : n ≤ 65536) (hn' : n' ≤ 65536) :
    Calls Tryd.prog 35 #[.slice (some ⟨W.heap.size, 0, none⟩) 2 2] (W.alloc (.cells #[.slice B n c, .slice B' n' c'] 22)) (Fresh2 (W.heap.size + 1) (joinN [l, l']) (W.alloc (.cells #[.slice B n c, .slice B' n' c'] 22))) := by
  refine (join_any _ 2 2 [l, l'] _ (rows_two W B B' n c n' c' l l' h h') (by simp only [total, h.len, h'.len]; omega)).mono ?_
  rintro e w' ⟨hb, ⟨hbad, _⟩ | ⟨_, A, m, d, he, ho⟩⟩
  · rw [joinBad_two l l' (by rw [h.len]; exact hn) (by rw [h'.len]; exact hn')] at hbad; cases hbad
  · exact ⟨A, m, d, he, by simpa using ho, hb⟩
theorem refJoin_two (W : World) (B B' : Option Addr) (n c n' c' : Nat) (l l' : List UInt8) (h : Sl W B n c l) (h' : Sl W B' n' c' l') (hn : n ≤ 65536) (hn' : n' ≤ 65536) :
    Calls Tryd.prog 38 #[.slice (some ⟨W.heap.size, 0, none⟩) 2 2] (W.alloc (.cells #[.slice B n c, .slice B' n' c'] 22)) (Fresh2 (W.heap.size + 1) (joinN [l, l']) (W.alloc (.cells #[.slice B n c, .slice B' n' c'] 22))) := by
  refine (refJoin_any _ 2 2 [l, l'] _ (rows_two W B B' n c n' c' l l' h h') (by simp only [total, h.len, h'.len]; omega)).mono ?_
  rintro e w' ⟨hb, ⟨hbad, _⟩ | ⟨_, A, m, d, he, ho⟩⟩
  · rw [joinBad_two l l' (by rw [h.len]; exact hn) (by rw [h'.len]; exact hn')] at hbad; cases hbad
  · exact ⟨A, m, d, he, by simpa using ho, hb⟩
theorem joinN_two_len (l l' : List UInt8) (h : l.length ≤ 65536) (h' : l'.length ≤ 65536) : (joinN [l, l']).length ≤ 1310740 := by
  have := joinN_len (ls := [l, l']) (by simp only [total]; omega)
  simp only [total] at this
  omega
/-- an Id as a value -/
def idv (a : Int × Int) : Value := .agg #[.int .i64 a.1, .int .i64 a.2]
end Go.Proofs.YtfdmnnbcnaofgaaDoor
