import Derived.Test.YtgniocgcfldiaaaRefNum
namespace Go.Proofs.Ytgniocgcfldiaaa
open Go.RowKit
open Pk

/-- true came back, and what was there is as it was -/
def Tr (w : World) (e : Ending) (w' : World) : Prop := e = .returned (.bool true) ∧ Below w.heap.size w w'

theorem aliveNum_ok (w : World) : Calls Try.prog 15 #[] w (Tr w) := by
  have H := Lib.hid (fun W => num_ok 300 W (by omega))
  have e300 : encN 300 = [172, 2] := by decide
  have E := Lib.hid e300
  clear e300
  go_enter Try.func15, Try.ntmps15
  go_wp2_with fail
  refine (H.out _).mono ?_
  rintro e w1 ⟨A, n, c, rfl, ho, hb⟩
  go_wp2_with fail
  rw [E.out] at ho
  have hl : n = 2 := by have := OwnB.len ho; simpa using this.symm
  subst hl
  refine (sameBytes_any A (some ⟨w1.heap.size, 0, none⟩) 2 2 c 2 _ [172, 2] [172, 2] (OwnB.alloc ho _).rd (Rd.new w1 [.int .u8 172, .int .u8 2] _) (by simp [maxLen])).mono ?_
  rintro e w2 ⟨rfl, k, rfl⟩
  go_wp2_with fail
  go_ret
  exact ⟨rfl, below_drewN (hb.alloc hb.size _) k⟩

theorem packNums_walk (w : World) (v : Int) (hv : (Lit.int .i64 v).wf = true) : Calls Try.prog 4 #[.int .i64 v] w (Tr w) := by
  by_cases hb : v < 0 ∨ 4611686018427387904 ≤ v
  · have H1 := Lib.hid (fun W => num_bad v W hb)
    have H2 := Lib.hid (fun W => refNum_bad v W hb)
    clear hb hv
    go_enter Try.func4, Try.ntmps4
    go_wp2_with fail
    refine (aliveNum_ok _).mono ?_
    rintro e w1 ⟨rfl, hb1⟩
    go_wp2_with fail
    refine (H1.out _).mono ?_
    rintro e w2 ⟨rfl, rfl⟩
    go_wp2_with fail
    refine (H2.out _).mono ?_
    rintro e w2 ⟨rfl, rfl⟩
    go_wp2_with fail
    refine (sameBytes_any none none 0 0 0 0 _ [] [] (Rd.nil_ _ _) (Rd.nil_ _ _) (by simp [maxLen])).mono ?_
    rintro e w3 ⟨rfl, k, rfl⟩
    go_wp2_with fail
    go_ret
    exact ⟨rfl, below_drewN hb1 k⟩
  · obtain ⟨u, rfl⟩ : ∃ u : Nat, v = u := ⟨v.toNat, by omega⟩
    have hu : u < 4611686018427387904 := by omega
    have H1 := Lib.hid (fun W => num_ok u W hu)
    have H2 := Lib.hid (fun W => refNum_ok u W hu)
    clear hb hv
    have hlen := Lib.hid (encN_len9 hu)
    clear hu
    go_enter Try.func4, Try.ntmps4
    go_wp2_with fail
    refine (aliveNum_ok _).mono ?_
    rintro e w1 ⟨rfl, hb1⟩
    go_wp2_with fail
    refine (H1.out _).mono ?_
    rintro e w2 ⟨A, n, c, rfl, ho, hb2⟩
    go_wp2_with fail
    refine (H2.out _).mono ?_
    rintro e w3 ⟨A2, n2, c2, rfl, ho2, hb3⟩
    go_wp2_with fail
    have hd := Lib.hid (show decide (encN u = encN u) = true by simp)
    refine (sameBytes_any A A2 n n2 c c2 _ (encN u) (encN u) (ho.below hb3).rd ho2.rd (by have := hlen.out; have := OwnB.len ho; simp only [maxLen]; omega)).mono ?_
    rintro e w4 ⟨rfl, k, rfl⟩
    rw [hd.out]
    go_wp2_with fail
    go_ret
    exact ⟨rfl, below_drewN (hb1.trans ((hb2.mono hb1.size).trans (hb3.mono (Nat.le_trans hb1.size hb2.size)))) k⟩
end Go.Proofs.Ytgniocgcfldiaaa
