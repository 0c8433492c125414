/-
  The law PathJoins, walked. No statement.
-/
import Derived.Test.YtclnbggehefbeaaDoorPathLaw
import Derived.Test.YtclnbggehefbeaaDoorPathRef4
import Derived.Test.YtclnbggehefbeaaDoorPathTab
namespace Go.Proofs.YtclnbggehefbeaaDoor
set_option maxRecDepth 100000
open Go.RowKit
set_option linter.unusedVariables false

set_option maxHeartbeats 6400000 in
theorem pathJoins_walk (w : World) (hE : Env w) (sa : ByteArray) (ha : sa.size ≤ maxLen) (v : Value) (ps : List (List UInt8)) (hv : InT w v ps) : Calls Tryd.prog 4 #[.string sa, v] w (Tr w) := by
  obtain ⟨a, rfl⟩ : ∃ l : List UInt8, sa = ⟨l.toArray⟩ := ⟨sa.data.toList, (sv_of sa).symm⟩
  obtain ⟨A, n, c, rfl, hr, hn, hsz⟩ := hv
  have HL := Lib.hid (alive_ok w hE)
  have HE := Lib.hid hE
  by_cases hbig : (5000 : Int) < (a.length : Int)
  · clear hE ha hr hsz
    go_enter Tryd.func4, Tryd.ntmps4
    go_wp2_with fail
    refine (HL.out).mono ?_
    rintro e w1 ⟨rfl, hb1⟩
    go_wp2_with fail
    go_ret
    exact ⟨rfl, hb1⟩
  · by_cases hbig2 : (200 : Int) < (n : Int)
    · clear hE ha hr hsz
      go_enter Tryd.func4, Tryd.ntmps4
      go_wp2_with fail
      refine (HL.out).mono ?_
      rintro e w1 ⟨rfl, hb1⟩
      go_wp2_with fail
      go_ret
      exact ⟨rfl, hb1⟩
    · have hn2 : n ≤ 200 := by omega
      have HCP := Lib.hid (fun W (h : RdT W A n ps) => copyTexts_any A n c ps W h (by omega))
      have HJ := Lib.hid (fun W (h : Env W) B m d (hb : RdT W B m ps) (hm : m ≤ maxLen) => show Calls _ _ _ W (Ans (optV (joinsP a ps)) W) from join_any ⟨a.toArray⟩ B m d ps W h hb hm)
      have HR := Lib.hid (fun W (h : RdT W A n ps) => show Calls _ _ _ W (Ans (optV (joinsP a ps)) W) from refJoin_any ⟨a.toArray⟩ A n c ps W ha h hn hsz)
      have H0 := Lib.hid hr
      have HN := Lib.hid hn
      clear hE ha hr hsz hn
      rcases opt_cases (joinsP a ps) with ⟨ho, hv⟩ | ⟨x, ho, hv⟩ <;> rw [hv] at HJ HR <;> clear ho hv
      all_goals
        go_enter Tryd.func4, Tryd.ntmps4
        go_wp2_with fail
        refine (HL.out).mono ?_
        rintro e w1 ⟨rfl, hb1⟩
        go_wp2_with fail
        refine (HCP.out _ (H0.out.below hb1)).mono ?_
        rintro e w2 ⟨B, m, d, rfl, ho, hp⟩
        have hb2 := hb1.trans (hp.mono hb1.size)
        have hm : m ≤ 200 := by have h1 := ho.len; have h2 := H0.out.len; omega
        have HO := Lib.hid ho
        have hmm : m ≤ maxLen := by unfold maxLen; omega
        clear ho
        go_wp2_with fail
        refine (HJ.out _ (HE.out.below hb2) _ _ _ HO.out.rd hmm).mono ?_
        rintro e w3 ⟨rfl, hq3⟩
        have hb3 := hb2.trans (hq3.mono hb2.size)
        go_wp2_with fail
        refine (HR.out _ (H0.out.below hb3)).mono ?_
        rintro e w4 ⟨rfl, hq4⟩
        have hb4 := hb3.trans (hq4.mono hb3.size)
        go_wp2_with fail
        refine (sameTexts_any _ _ _ _ _ _ _ ps ps ((HO.out.rd.below hq3).below hq4) (H0.out.below hb4) hmm).mono ?_
        rintro e w5 ⟨rfl, q5, rfl⟩
        rw [decide_eq_true rfl]
        go_wp2_with fail
        go_ret
        exact ⟨rfl, below_drewN hb4 _⟩
end Go.Proofs.YtclnbggehefbeaaDoor
