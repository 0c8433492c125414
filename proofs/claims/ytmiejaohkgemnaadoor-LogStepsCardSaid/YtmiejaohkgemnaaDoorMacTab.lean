import Derived.Test.YtmiejaohkgemnaaDoorRows
import Derived.Test.YtmiejaohkgemnaaDoorMix
import Derived.Test.YtmiejaohkgemnaaDoorMOpen
import Derived.Lib.LaidTab
namespace Go.Proofs.YtmiejaohkgemnaaDoor
open Go.RowKit
open Sh
set_option linter.unusedVariables false

theorem laid_is : (Rows.laid_stanchion_sha_roundWords : DataW Unit) = Lib.tabData .u32 (K.map fun x => (x.toNat : Int)) := by rfl
/-- what the row's condition on the laid variable gives: its words stand in block 0 -/
theorem tab_of_laid {W : World} (h : laidMetH Tryd.prog [("stanchion/sha.roundWords", Rows.laid_stanchion_sha_roundWords)] W) : Tab W := by
  have h' : laidMet Tryd.prog [("stanchion/sha.roundWords", Rows.laid_stanchion_sha_roundWords)] W := h
  rw [laid_is] at h'
  have hg : Tryd.prog.globalNamed "stanchion/sha.roundWords" = some 0 := by kernel_rfl
  have h1 := Lib.tabIs_of_head hg (by kernel_rfl) Tryd.underlying123 Tryd.underlying122 (by kernel_rfl) (by kernel_rfl) h'
  have hc : ∀ k, k < 64 → W.cell? ⟨0, k, none⟩ = some (.int .u32 ((K.getD k 0).toNat : Int)) := by
    intro k hk
    have hk' : k < K.length := hk
    have := h1.cell hg k (by rw [List.length_map]; exact hk')
    rw [this]
    simp [List.getD, hk']
  exact ⟨Nat.lt_of_le_of_lt (Nat.zero_le _) (cell_lt (hc 0 (by omega))), hc⟩
end Go.Proofs.YtmiejaohkgemnaaDoor
