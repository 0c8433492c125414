import Derived.Test.YtbppokdaehaocaaDoorPathLem
import Derived.Test.YtbppokdaehaocaaDoorMBase
import Derived.Test.YtbppokdaehaocaaDoorShelf
import Derived.Deep.CutRange
import Derived.Deep.RegionHeld3

/-
  Bytes and texts that are parts. Walks; no statement.
-/
namespace Go.Proofs.YtbppokdaehaocaaDoor
set_option maxRecDepth 100000
open Go.RowKit
set_option linter.unusedVariables false

set_option maxHeartbeats 1600000 in
theorem inPart_any (x : UInt8) (w : World) : Calls Tryd.prog 65 #[.int .u8 (x.toNat : Int)] w fun e w' => e = .returned (.bool (pchar x)) ∧ w' = w := by
  have hP := Lib.hid (show pchar x = decide ((97 ≤ x.toNat ∧ x.toNat ≤ 122) ∨ (48 ≤ x.toNat ∧ x.toNat ≤ 57) ∨ x.toNat = 45 ∨ x.toNat = 95) from rfl)
  have hx : x.toNat < 256 := x.toNat_lt
  generalize hz : ((x.toNat : Nat) : Int) = z
  have h1 : (97 ≤ x.toNat) = (97 ≤ z) := by rw [← hz]; simp; omega
  have H1 := Lib.hid (show pchar x = decide ((97 ≤ z ∧ z ≤ 122) ∨ (48 ≤ z ∧ z ≤ 57) ∨ z = 45 ∨ z = 95) by
    rw [hP.out]; subst hz; congr 1; apply propext; omega)
  have hz0 : 0 ≤ z := by omega
  have hz1 : z < 256 := by omega
  clear h1 hz hP
  by_cases hv : (97 ≤ z ∧ z ≤ 122) ∨ (48 ≤ z ∧ z ≤ 57) ∨ z = 45 ∨ z = 95
  · have HF := Lib.hid (show pchar x = true by rw [H1.out]; exact decide_eq_true hv)
    clear H1
    by_cases c1 : 97 ≤ z <;> by_cases c2 : z ≤ 122 <;> by_cases c3 : 48 ≤ z <;> by_cases c4 : z ≤ 57 <;> by_cases c5 : z = 45 <;> by_cases c6 : z = 95 <;>
    first
    | (exfalso; omega)
    | (have c5' : (z == 45) = decide (z = 45) := rfl
       have c6' : (z == 95) = decide (z = 95) := rfl
       simp only [c5, c6, decide_false] at c5' c6'
       clear hv
       go_enter Tryd.func65, Tryd.ntmps65
       go_wp2_with fail
       go_ret
       exact ⟨ret_bool HF.out.symm, rfl⟩)
  · have HF := Lib.hid (show pchar x = false by rw [H1.out]; exact decide_eq_false hv)
    clear H1
    by_cases c1 : 97 ≤ z <;> by_cases c2 : z ≤ 122 <;> by_cases c3 : 48 ≤ z <;> by_cases c4 : z ≤ 57 <;> by_cases c5 : z = 45 <;> by_cases c6 : z = 95 <;>
    first
    | (exfalso; omega)
    | (have c5' : (z == 45) = decide (z = 45) := rfl
       have c6' : (z == 95) = decide (z = 95) := rfl
       simp only [c5, c6, decide_false] at c5' c6'
       clear hv
       go_enter Tryd.func65, Tryd.ntmps65
       go_wp2_with fail
       go_ret
       exact ⟨ret_bool HF.out.symm, rfl⟩)
set_option maxHeartbeats 1600000 in
theorem isPart_any (s : ByteArray) (w : World) : Calls Tryd.prog 60 #[.string s] w fun e w' => e = .returned (.bool (isPart s.data.toList)) ∧ w' = w := by
  obtain ⟨l, rfl⟩ : ∃ l : List UInt8, s = ⟨l.toArray⟩ := ⟨s.data.toList, (sv_of s).symm⟩
  show Calls _ _ _ _ fun e w' => e = .returned (.bool (isPart l)) ∧ w' = w
  by_cases hsz : 1 ≤ l.length ∧ l.length ≤ 16
  · have HP := Lib.hid (show isPart l = l.all pchar by rw [isPart_eq, decide_eq_true hsz, Bool.and_true])
    obtain ⟨hs1, hs2⟩ := hsz
    go_enter Tryd.func60, Tryd.ntmps60
    go_wp2_with fail
    go_loop [14] (fun i => ∃ k : Nat, k ≤ l.length ∧ i = .int .i64 k ∧ (l.take k).all pchar = true) (fun i => l.length - (intOf i).toNat)
    case atStart => exact ⟨0, by omega, rfl, by simp⟩
    case round =>
      obtain ⟨k, hk, rfl, hall⟩ := hrel
      have HA := Lib.hid hall
      clear hall
      by_cases hlt : k < l.length
      · have HS := Lib.hid (show l.take (k + 1) = l.take k ++ [l[k]] from List.take_succ_eq_append_getElem hlt)
        have HC := Lib.hid (fun W => inPart_any l[k] W)
        cases hp : pchar l[k] with
        | true =>
          have HPC := Lib.hid hp
          rw [hp] at HC
          clear hp
          go_wp2_with (first | (go_at_call 65; refine (HC.out _).mono ?_; rintro e w' ⟨rfl, rfl⟩))
          refine ⟨⟨k + 1, by omega, by go_num, ?_⟩, by simp [intOf]; omega⟩
          rw [HS.out, List.all_append, HA.out]
          simp [HPC.out]
        | false =>
          have HF := Lib.hid (show isPart l = false by
            rw [HP.out, List.all_eq_false]
            exact ⟨l[k], List.getElem_mem hlt, by rw [hp]; simp⟩)
          rw [hp] at HC
          clear hp
          go_wp2_with (first | (go_at_call 65; refine (HC.out _).mono ?_; rintro e w' ⟨rfl, rfl⟩))
          go_ret
          exact ⟨ret_bool HF.out.symm, rfl⟩
      · obtain rfl : k = l.length := by omega
        have HF := Lib.hid (show isPart l = true by have := HA.out; rw [List.take_length] at this; rw [HP.out, this])
        go_wp2_with fail
        go_ret
        exact ⟨ret_bool HF.out.symm, rfl⟩
  · have HP := Lib.hid (show isPart l = false by rw [isPart_eq, decide_eq_false hsz, Bool.and_false])
    have h2 : l.length < 1 ∨ 16 < l.length := by omega
    clear hsz
    rcases h2 with h2 | h2
    · go_enter Tryd.func60, Tryd.ntmps60
      go_wp2_with fail
      go_ret
      exact ⟨ret_bool HP.out.symm, rfl⟩
    · have h3 : ¬ l.length < 1 := by omega
      go_enter Tryd.func60, Tryd.ntmps60
      go_wp2_with fail
      go_ret
      exact ⟨ret_bool HP.out.symm, rfl⟩
set_option maxHeartbeats 1600000 in
theorem areParts_any (A : Option Addr) (n c : Nat) (ls : List (List UInt8)) (w : World) (h : RdT w A n ls) (hn : n ≤ maxLen) :
    Calls Tryd.prog 50 #[.slice A n c] w fun e w' => e = .returned (.bool (ls.all isPart)) ∧ w' = w := by
  unfold maxLen at hn
  have HL := Lib.hid h.len
  go_enter Tryd.func50, Tryd.ntmps50
  go_wp2_with fail
  go_loop [7] (fun i => ∃ k : Nat, k ≤ n ∧ i = .int .i64 k ∧ (ls.take k).all isPart = true) (fun i => n - (intOf i).toNat)
  case atStart => exact ⟨0, by omega, rfl, by simp⟩
  case round =>
    obtain ⟨k, hk, rfl, hall⟩ := hrel
    have HA := Lib.hid hall
    clear hall
    by_cases hlt : k < n
    · obtain ⟨a, rfl, hb, hc⟩ := h.at_ hlt
      have HS := Lib.hid (show ls.take (k + 1) = ls.take k ++ [ls.getD k []] from take_snocD ls [] k (by rw [HL.out]; exact hlt))
      have HM := Lib.hid (show ls.getD k [] ∈ ls from getD_mem (by rw [HL.out]; exact hlt))
      generalize ls.getD k [] = x at *
      have HC := Lib.hid (fun W => isPart_any ⟨x.toArray⟩ W)
      have e1 : (0 : Int) ≤ (k : Int) := by omega
      have e2 : (k : Int) < (n : Int) := by omega
      cases hp : isPart x with
      | true =>
        have HPC := Lib.hid hp
        replace HC := Lib.hid (fun W => show Calls _ _ _ W fun e w' => e = .returned (.bool true) ∧ w' = W by rw [← HPC.out]; exact HC.out W)
        clear hp
        go_wp2_with (first | (go_at_call 60; refine (HC.out _).mono ?_; rintro e w' ⟨rfl, rfl⟩))
        refine ⟨⟨k + 1, by omega, by go_num, ?_⟩, by simp [intOf]; omega⟩
        rw [HS.out, List.all_append, HA.out]
        simp [HPC.out]
      | false =>
        have HPC := Lib.hid hp
        replace HC := Lib.hid (fun W => show Calls _ _ _ W fun e w' => e = .returned (.bool false) ∧ w' = W by rw [← HPC.out]; exact HC.out W)
        have HF := Lib.hid (show ls.all isPart = false by
          rw [List.all_eq_false]
          exact ⟨x, HM.out, by rw [hp]; simp⟩)
        clear hp
        go_wp2_with (first | (go_at_call 60; refine (HC.out _).mono ?_; rintro e w' ⟨rfl, rfl⟩))
        go_ret
        exact ⟨ret_bool HF.out.symm, rfl⟩
    · obtain rfl : k = n := by omega
      have HF := Lib.hid (show ls.all isPart = true by have := HA.out; rw [List.take_of_length_le (by rw [HL.out]; exact Nat.le_refl _)] at this; exact this)
      go_wp2_with fail
      go_ret
      exact ⟨ret_bool HF.out.symm, rfl⟩
end Go.Proofs.YtbppokdaehaocaaDoor

/-
  Splitting at slashes; what is a path. Walks; no statement.
-/
namespace Go.Proofs.YtbppokdaehaocaaDoor
set_option maxRecDepth 100000
open Go.RowKit
set_option linter.unusedVariables false

def SplitP (ls : List (List UInt8)) (w : World) (e : Ending) (w' : World) : Prop :=
  Below w.heap.size w w' ∧ ∃ A n c, e = .returned (.slice A n c) ∧ n ≤ 4294967296 ∧ OwnT w' w.heap.size A n c ls
theorem splits_any (x : ByteArray) (r : List UInt8) (w : World) (hE : Env w) (hx : x.data.toList = r) (hr : r.length < 64) : Calls Tryd.prog 61 #[.string x, .string ⟨#[47]⟩] w (SplitP (pieces r) w) := by
  obtain ⟨⟨m, hm⟩, _⟩ := hE
  have hsz : x.size < 4294967281 := by rw [Lib.size_eq, hx]; omega
  refine (Tryd.strings_Split x ⟨#[47]⟩ m w hsz hm (by decide)).mono ?_
  rintro e w' ⟨he, rfl⟩
  have hp := splitB_pieces x
  have hn := Lib.splitB_all ⟨#[47]⟩ (by decide) 0 _ x rfl
  have hle := Lib.countB_le ⟨#[47]⟩ (by decide) _ x (Nat.le_refl _)
  have hpl : (pieces r).length = Lib.countB x ⟨#[47]⟩ + 1 := by rw [← hx, ← hp, List.length_map, hn]
  have ho := own_new w (pieces r) (by unfold maxLen; omega)
  rw [texts_of, hp, hx]
  rw [hpl] at ho
  exact ⟨(Below.refl _ _).alloc (Nat.le_refl _) _, _, _, _, he, by omega, ho⟩
set_option maxHeartbeats 1600000 in
theorem split_any (r : List UInt8) (w : World) (hE : Env w) (hr : r.length < 64) : Calls Tryd.prog 51 #[.string ⟨(47 :: r).toArray⟩] w (SplitP (parted r) w) := by
  by_cases h0 : r = []
  · subst h0
    go_enter Tryd.func51, Tryd.ntmps51
    go_wp2_with fail
    go_ret
    exact ⟨Below.refl _ _, none, 0, 0, rfl, by omega, OwnT.nil_ _ _⟩
  · have he : r.isEmpty = false := by simpa using h0
    have HP := Lib.hid (show parted r = pieces r by unfold parted; rw [if_neg h0])
    have HS := Lib.hid (fun (x : ByteArray) (hx : x.data.toList = r) => splits_any x r w hE hx hr)
    have HX := Lib.hid (show ((⟨(47 :: r).toArray⟩ : ByteArray).extract 1 (r.length + 1)).data.toList = r by rw [Lib.extract_data]; simp)
    clear h0
    go_enter Tryd.func51, Tryd.ntmps51
    go_wp2_with (first | (go_at_call 61; refine (HS.out _ HX.out).mono ?_; rintro e w' ⟨hb, A, n, c, rfl, hn, ho⟩))
    go_ret
    rw [HP.out]
    exact ⟨hb, A, n, c, rfl, hn, ho⟩
set_option maxHeartbeats 1600000 in
theorem check_any (s : ByteArray) (w : World) (hE : Env w) : Calls Tryd.prog 36 #[.string s] w (Ans (.int .i64 (errB (partsOf s.data.toList).isSome)) w) := by
  obtain ⟨l, rfl⟩ : ∃ l : List UInt8, s = ⟨l.toArray⟩ := ⟨s.data.toList, (sv_of s).symm⟩
  show Calls _ _ _ _ (Ans (.int .i64 (errB (partsOf l).isSome)) w)
  by_cases h64 : 64 < l.length
  · have HF := Lib.hid (show partsOf l = none by
      cases l with
      | nil => rfl
      | cons c r =>
        show (if c = 47 ∧ r.length < 64 then _ else _) = none
        rw [if_neg]
        simp only [List.length_cons] at h64
        omega)
    go_enter Tryd.func36, Tryd.ntmps36
    go_wp2_with fail
    go_ret
    rw [HF.out]
    exact ⟨rfl, Below.refl _ _⟩
  · have HH := Lib.hid (Tryd.strings_HasPrefix ⟨l.toArray⟩ ⟨#[47]⟩ w)
    have h64' : l.length ≤ 64 := by omega
    clear h64
    rcases l with _ | ⟨c, r⟩
    · go_enter Tryd.func36, Tryd.ntmps36
      go_wp2_with (first | (go_at_call 49; refine (HH.out).mono ?_; rintro e w' ⟨rfl, rfl⟩))
      go_ret
      exact ⟨rfl, Below.refl _ _⟩
    · by_cases hc : c = 47
      · subst hc
        have hr : r.length < 64 := by simp only [List.length_cons] at h64'; omega
        have HPO := Lib.hid (partsOf_eq r)
        have HSP := Lib.hid (split_any r w hE hr)
        have HAP := Lib.hid (fun A n c W (h : RdT W A n (parted r)) (hn : n ≤ maxLen) => areParts_any A n c (parted r) W h hn)
        have HHH := Lib.hid (show Lib.hasPrefix (⟨(47 :: r).toArray⟩ : ByteArray).data.toList (⟨#[47]⟩ : ByteArray).data.toList = true by exact hasPrefix_slash 47 r)
        have HR := Lib.hid hr
        clear h64'
        cases hall : (parted r).all isPart with
        | true =>
          have HALL := Lib.hid hall
          rw [hall] at HAP
          clear hall
          go_enter Tryd.func36, Tryd.ntmps36
          go_wp2_with (first
            | (go_at_call 49; refine (HH.out).mono ?_; rw [HHH.out]; rintro e w' ⟨rfl, rfl⟩)
            | (go_at_call 51; refine (HSP.out).mono ?_; rintro e w1 ⟨hb, A, n, c, rfl, hn, ho⟩)
            | (go_at_call 50; refine (HAP.out A n c w1 ho.rd (by unfold maxLen; omega)).mono ?_; rintro e w2 ⟨rfl, rfl⟩))
          go_ret
          rw [HPO.out, if_pos ⟨HR.out, HALL.out⟩]
          exact ⟨rfl, hb⟩
        | false =>
          have HALL := Lib.hid hall
          rw [hall] at HAP
          clear hall
          go_enter Tryd.func36, Tryd.ntmps36
          go_wp2_with (first
            | (go_at_call 49; refine (HH.out).mono ?_; rw [HHH.out]; rintro e w' ⟨rfl, rfl⟩)
            | (go_at_call 51; refine (HSP.out).mono ?_; rintro e w1 ⟨hb, A, n, c, rfl, hn, ho⟩)
            | (go_at_call 50; refine (HAP.out A n c w1 ho.rd (by unfold maxLen; omega)).mono ?_; rintro e w2 ⟨rfl, rfl⟩))
          go_ret
          rw [HPO.out, if_neg (by rw [HALL.out]; simp)]
          exact ⟨rfl, hb⟩
      · have HHH := Lib.hid (show Lib.hasPrefix (⟨(c :: r).toArray⟩ : ByteArray).data.toList (⟨#[47]⟩ : ByteArray).data.toList = false by
          refine (hasPrefix_slash c r).trans ?_
          simpa using hc)
        have HF := Lib.hid (show partsOf (c :: r) = none by
          show (if c = 47 ∧ r.length < 64 then _ else _) = none
          rw [if_neg (fun e => hc e.1)])
        have hr : r.length < 64 := by simp only [List.length_cons] at h64'; omega
        clear hc h64'
        go_enter Tryd.func36, Tryd.ntmps36
        go_wp2_with (first
            | (go_at_call 49; refine (HH.out).mono ?_; rw [HHH.out]; rintro e w' ⟨rfl, rfl⟩))
        go_ret
        rw [HF.out]
        exact ⟨rfl, Below.refl _ _⟩
end Go.Proofs.YtbppokdaehaocaaDoor

/-
  Parts, and what is a path that isn't the root. Walks; no statement.
-/
namespace Go.Proofs.YtbppokdaehaocaaDoor
set_option maxRecDepth 100000
open Go.RowKit
set_option linter.unusedVariables false

theorem cloneS_any (s : ByteArray) (w : World) (hs : s.size ≤ 64) : Calls Tryd.prog 48 #[.string s] w (Ans (.string s) w) := by
  have HC := Lib.hid (Tryd.stringslite_Clone s w (by omega))
  go_enter Tryd.func48, Tryd.ntmps48
  go_wp2_with (first | (go_at_call 58; refine (HC.out).mono ?_; rintro e w' ⟨rfl, hb⟩))
  go_ret
  exact ⟨rfl, hb⟩
end Go.Proofs.YtbppokdaehaocaaDoor

/-
  A path's parent and its name. Walks; no statement.
-/
namespace Go.Proofs.YtbppokdaehaocaaDoor
set_option maxRecDepth 100000
open Go.RowKit
set_option linter.unusedVariables false

end Go.Proofs.YtbppokdaehaocaaDoor

/-
  Within; Numbered; Join. Walks; no statement.
-/
namespace Go.Proofs.YtbppokdaehaocaaDoor
set_option maxRecDepth 100000
open Go.RowKit
set_option linter.unusedVariables false

theorem below_grew (w : World) (k : Nat) (os : Array Obj) : Below w.heap.size w (Sort.grow (w.drewN k) os) := by
  refine ⟨rfl, rfl, rfl, by simp [Sort.grow], fun i hi => ?_⟩
  show (w.heap ++ os)[i]? = w.heap[i]?
  rw [Array.getElem?_append_left hi]
end Go.Proofs.YtbppokdaehaocaaDoor

/-
  Numbered; Join. Walks; no statement.
-/
namespace Go.Proofs.YtbppokdaehaocaaDoor
set_option maxRecDepth 100000
open Go.RowKit
set_option linter.unusedVariables false

end Go.Proofs.YtbppokdaehaocaaDoor
