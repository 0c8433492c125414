import Derived.Test.YtbppokdaehaocaaDoorPathLem
import Derived.Test.YtbppokdaehaocaaDoorMBase
import Derived.Deep.CutRange
import Derived.Handy
import Derived.Laws.IdiomStrings

/-
  The reference's part. Walks; no statement.
-/
namespace Go.Proofs.YtbppokdaehaocaaDoor
set_option maxRecDepth 100000
open Go.RowKit
set_option linter.unusedVariables false

set_option maxHeartbeats 6400000 in
theorem refPart_any (s : ByteArray) (w : World) (hs : s.size ≤ maxLen) : Calls Tryd.prog 62 #[.string s] w fun e w' => e = .returned (.bool (isPart s.data.toList)) ∧ w' = w := by
  obtain ⟨l, rfl⟩ : ∃ l : List UInt8, s = ⟨l.toArray⟩ := ⟨s.data.toList, (sv_of s).symm⟩
  show Calls _ _ _ _ fun e w' => e = .returned (.bool (isPart l)) ∧ w' = w
  have hl : l.length ≤ 9223372036854775807 := hs
  clear hs
  have HP := Lib.hid (isPart_eq l)
  go_enter Tryd.func62, Tryd.ntmps62
  go_wp2_with fail
  go_loop [3] (fun i => ∃ k : Nat, k ≤ l.length ∧ i = .int .i64 k ∧ (l.take k).all pchar = true) (fun i => l.length - (intOf i).toNat)
  case atStart => exact ⟨0, by omega, rfl, by simp⟩
  case round =>
    obtain ⟨k, hk, rfl, hall⟩ := hrel
    have HA := Lib.hid hall
    clear hall
    by_cases hlt : k < l.length
    · have HS := Lib.hid (show l.take (k + 1) = l.take k ++ [l[k]] from List.take_succ_eq_append_getElem hlt)
      have HM := Lib.hid (List.getElem_mem hlt)
      go_upto_region 5 with fail
      have HC := Lib.hid (show ∀ z : Int, z = (((⟨l.toArray⟩ : ByteArray)[k]'hlt).toNat : Int) → pchar l[k] = decide ((97 ≤ z ∧ z ≤ 122) ∨ (48 ≤ z ∧ z ≤ 57) ∨ z = 45 ∨ z = 95) by
        rintro z rfl
        show decide ((97 ≤ l[k].toNat ∧ l[k].toNat ≤ 122) ∨ (48 ≤ l[k].toNat ∧ l[k].toNat ≤ 57) ∨ l[k].toNat = 45 ∨ l[k].toNat = 95) = decide ((97 ≤ (l[k].toNat : Int) ∧ (l[k].toNat : Int) ≤ 122) ∨ (48 ≤ (l[k].toNat : Int) ∧ (l[k].toNat : Int) ≤ 57) ∨ (l[k].toNat : Int) = 45 ∨ (l[k].toNat : Int) = 95)
        congr 1; apply propext; omega)
      have hz0 : (0 : Int) ≤ (((⟨l.toArray⟩ : ByteArray)[k]'hlt).toNat : Int) := by omega
      have hz1 : (((⟨l.toArray⟩ : ByteArray)[k]'hlt).toNat : Int) < 256 := by have := ((⟨l.toArray⟩ : ByteArray)[k]'hlt).toNat_lt; omega
      replace HC := Lib.hid (HC.out _ rfl)
      generalize (((⟨l.toArray⟩ : ByteArray)[k]'hlt).toNat : Int) = z at *
      by_cases hv : (97 ≤ z ∧ z ≤ 122) ∨ (48 ≤ z ∧ z ≤ 57) ∨ z = 45 ∨ z = 95
      · have HF := Lib.hid (show pchar l[k] = true by rw [HC.out]; exact decide_eq_true hv)
        by_cases c1 : 97 ≤ z <;> by_cases c2 : z ≤ 122 <;> by_cases c3 : 48 ≤ z <;> by_cases c4 : z ≤ 57 <;> by_cases c5 : z = 45 <;> by_cases c6 : z = 95 <;>
        first
        | (exfalso; omega)
        | (have c5' : (z == 45) = decide (z = 45) := rfl
           have c6' : (z == 95) = decide (z = 95) := rfl
           simp only [c5, c6, decide_false] at c5' c6'
           clear hv HC
           go_wp2_with fail
           refine ⟨⟨k + 1, by omega, by go_num, ?_⟩, by simp [intOf]; omega⟩
           rw [HS.out, List.all_append, HA.out]
           simp [HF.out])
      · have HF := Lib.hid (show pchar l[k] = false by rw [HC.out]; exact decide_eq_false hv)
        by_cases c1 : 97 ≤ z <;> by_cases c2 : z ≤ 122 <;> by_cases c3 : 48 ≤ z <;> by_cases c4 : z ≤ 57 <;> by_cases c5 : z = 45 <;> by_cases c6 : z = 95 <;>
        first
        | (exfalso; omega)
        | (have c5' : (z == 45) = decide (z = 45) := rfl
           have c6' : (z == 95) = decide (z = 95) := rfl
           simp only [c5, c6, decide_false] at c5' c6'
           clear hv HC
           go_wp2_with fail
           have HG : isPart l = false := by
             rw [HP.out, List.all_eq_false.2 ⟨l[k], HM.out, by rw [HF.out]; simp⟩, Bool.false_and]
           go_ret
           exact ⟨ret_bool HG.symm, rfl⟩)
    · obtain rfl : k = l.length := by omega
      have HF := Lib.hid (show isPart l = decide (1 ≤ l.length ∧ l.length ≤ 16) by have := HA.out; rw [List.take_length] at this; rw [HP.out, this, Bool.true_and])
      by_cases h1 : 1 ≤ l.length
      · by_cases h2 : l.length ≤ 16
        · have HG := Lib.hid (show isPart l = true by rw [HF.out]; simp; omega)
          go_wp2_with fail
          go_ret
          exact ⟨ret_bool (by rw [HG.out]; simp; try omega), rfl⟩
        · have HG := Lib.hid (show isPart l = false by rw [HF.out]; simp; omega)
          go_wp2_with fail
          go_ret
          exact ⟨ret_bool (by rw [HG.out]; simp; try omega), rfl⟩
      · have HG := Lib.hid (show isPart l = false by rw [HF.out]; simp; omega)
        go_wp2_with fail
        go_ret
        exact ⟨ret_bool HG.out.symm, rfl⟩
end Go.Proofs.YtbppokdaehaocaaDoor

/-
  The reference's Parts. Walks; no statement.
-/
namespace Go.Proofs.YtbppokdaehaocaaDoor
set_option maxRecDepth 100000
open Go.RowKit
set_option linter.unusedVariables false

theorem partsOf_none_of {r : List UInt8} {x : List UInt8} (hr : r ≠ []) (hx : x ∈ pieces r) (hp : isPart x = false) : partsOf (47 :: r) = none := by
  rw [partsOf_eq, if_neg]
  rintro ⟨_, h⟩
  unfold parted at h
  rw [if_neg hr, List.all_eq_true] at h
  rw [h x hx] at hp
  cases hp
theorem partsOf_some_of {r : List UInt8} (hr : r ≠ []) (h64 : r.length < 64) (h : (pieces r).all isPart = true) : partsOf (47 :: r) = some (pieces r) := by
  rw [partsOf_eq, if_pos]
  · unfold parted; rw [if_neg hr]
  · refine ⟨h64, ?_⟩
    unfold parted; rw [if_neg hr]; exact h
/-- where the reference's loop stands: parts found, where the next begins, where it looks -/
def PAt (l : List UInt8) (ls : List (List UInt8)) (f i : Nat) : Prop :=
  1 ≤ f ∧ f ≤ i ∧ ls.all isPart = true ∧ ls.length ≤ l.length ∧
  ((i ≤ l.length ∧ ls.length < f ∧ (47 : UInt8) ∉ (l.drop f).take (i - f) ∧ pieces (l.drop 1) = ls ++ pieces (l.drop f)) ∨ (f = l.length + 1 ∧ i = l.length + 1 ∧ pieces (l.drop 1) = ls))
theorem PAt.start (l : List UInt8) (h : 1 ≤ l.length) : PAt l [] 1 1 := ⟨by omega, by omega, rfl, by simp, .inl ⟨h, by simp, by simp, rfl⟩⟩
theorem PAt.on {l : List UInt8} {ls : List (List UInt8)} {f i : Nat} (h : PAt l ls f i) (hi : i < l.length) (hc : l[i] ≠ 47) : PAt l ls f (i + 1) := by
  obtain ⟨h1, h2, h3, h4, ⟨h5, h6, h7, h8⟩ | ⟨h5, h6, _⟩⟩ := h
  · refine ⟨h1, by omega, h3, h4, .inl ⟨by omega, h6, ?_, h8⟩⟩
    have hlt : i - f < (l.drop f).length := by rw [List.length_drop]; omega
    rw [show i + 1 - f = i - f + 1 by omega, List.take_succ_eq_append_getElem hlt]
    simp only [List.mem_append, List.mem_singleton, not_or]
    refine ⟨h7, ?_⟩
    rw [List.getElem_drop]
    simp only [show f + (i - f) = i by omega]
    exact fun e => hc e.symm
  · omega
theorem PAt.cut {l : List UInt8} {ls : List (List UInt8)} {f i : Nat} (h : PAt l ls f i) (hi : i ≤ l.length) (hc : i = l.length ∨ l[i]? = some 47) :
    (l.drop f).take (i - f) ∈ pieces (l.drop 1) ∧ (isPart ((l.drop f).take (i - f)) = true → PAt l (ls ++ [(l.drop f).take (i - f)]) (i + 1) (i + 1)) := by
  obtain ⟨h1, h2, h3, h4, ⟨h5, h6, h7, h8⟩ | ⟨h5, h6, _⟩⟩ := h
  · rcases hc with rfl | hc
    · have e : (l.drop f).take (l.length - f) = l.drop f := List.take_of_length_le (by rw [List.length_drop]; omega)
      rw [e] at h7 ⊢
      have hp := pieces_none h7
      rw [hp] at h8
      refine ⟨by rw [h8]; simp, fun hq => ⟨by omega, by omega, by rw [List.all_append, h3]; simp [hq], by simp; omega, .inr ⟨rfl, rfl, h8⟩⟩⟩
    · have hlt : i < l.length := by
        rcases Nat.lt_or_ge i l.length with h | h
        · exact h
        · rw [List.getElem?_eq_none h] at hc; cases hc
      have e : l.drop f = (l.drop f).take (i - f) ++ 47 :: l.drop (i + 1) := by
        conv => lhs; rw [← List.take_append_drop (i - f) (l.drop f)]
        rw [List.drop_drop, show f + (i - f) = i by omega]
        congr 1
        rw [List.drop_eq_getElem_cons hlt]
        rw [List.getElem?_eq_getElem hlt] at hc
        rw [Option.some.inj hc]
      have hp := pieces_cut (r := l.drop (i + 1)) h7
      rw [← e] at hp
      rw [hp] at h8
      refine ⟨by rw [h8]; simp, fun hq => ⟨by omega, by omega, by rw [List.all_append, h3]; simp [hq], by simp; omega, .inl ⟨by omega, by simp; omega, by simp, by rw [h8]; simp⟩⟩⟩
  · omega
theorem PAt.done {l : List UInt8} {ls : List (List UInt8)} {f i : Nat} (h : PAt l ls f i) (hi : l.length < i) : pieces (l.drop 1) = ls ∧ ls.all isPart = true := by
  obtain ⟨h1, h2, h3, h4, ⟨h5, _⟩ | ⟨h5, h6, h7⟩⟩ := h
  · omega
  · exact ⟨h7, h3⟩
theorem PAt.bounds {l : List UInt8} {ls : List (List UInt8)} {f i : Nat} (h : PAt l ls f i) : 1 ≤ f ∧ f ≤ i ∧ i ≤ l.length + 1 ∧ ls.length ≤ l.length := by
  obtain ⟨h1, h2, h3, h4, ⟨h5, _⟩ | ⟨h5, h6, h7⟩⟩ := h <;> exact ⟨by omega, by omega, by omega, h4⟩
theorem ext_list (l : List UInt8) (f i : Nat) (h : i ≤ l.length) : (⟨l.toArray⟩ : ByteArray).extract f i = ⟨((l.drop f).take (i - f)).toArray⟩ := by
  rw [← sv_of (ByteArray.extract _ _ _), Lib.extract_data]
set_option maxHeartbeats 6400000 in
theorem refParts_walk (r l : List UInt8) (w : World) (hr : r ≠ []) (h64 : r.length < 64) (hl : l = 47 :: r) : Calls Tryd.prog 52 #[.string ⟨l.toArray⟩] w (PartsP (partsOf l) w) := by
  obtain ⟨i0, hi, hz0, hz1, hz2⟩ := info_parts info_str
  have hd : l.drop 1 = r := by rw [hl]; rfl
  have HNone := Lib.hid (fun x hx hp => by have := partsOf_none_of (r := r) (x := x) hr hx hp; rwa [← hl] at this)
  have HSome := Lib.hid (fun h => by have := partsOf_some_of hr h64 h; rwa [← hl] at this)
  have hre : (l == [47]) = false := by rw [hl]; simpa using hr
  have hll : l.length = r.length + 1 := by rw [hl]; rfl
  have h1 : 1 ≤ l.length := by omega
  have h2 : l.length ≤ 64 := by omega
  have HS0 := Lib.hid (PAt.start l h1)
  have b1 : decide ((l.length : Int) < 1) = false := by simp; omega
  have b2 : decide (64 < (l.length : Int)) = false := by simp; omega
  have h0 : 0 < (⟨l.toArray⟩ : ByteArray).size := h1
  have b3 : (((((⟨l.toArray⟩ : ByteArray)[0]'h0).toNat : Nat) : Int) != 47) = false := by
    subst hl; rfl
  have HO := Lib.hid (ownT_empty w)
  rw [← hd] at HNone HSome
  clear hr h64 hl hd hll
  go_enter Tryd.func52, Tryd.ntmps52
  go_wp2_with fail
  go_loopw [4, 5, 6] (fun s f i wr => ∃ (A : Option Addr) (n c p q : Nat) (ls : List (List UInt8)), s = .slice A n c ∧ f = .int .i64 p ∧ i = .int .i64 q ∧ OwnT wr w.heap.size A n c ls ∧ PAt l ls p q ∧ Below w.heap.size w wr) (fun _ _ i _ => l.length + 2 - (intOf i).toNat)
  case atStart => exact ⟨_, 0, 0, 1, 1, [], rfl, rfl, rfl, HO.out, HS0.out, (Below.refl _ _).alloc (Nat.le_refl _) _⟩
  case round =>
    obtain ⟨A, n, c, p, q, ls, rfl, rfl, rfl, ho, hat, hb⟩ := hrel
    have hbd := hat.bounds
    have HAT := Lib.hid hat
    clear hat HS0 HO b1 b2 b3
    obtain ⟨hp1, hp2, hp3, hp4⟩ := hbd
    by_cases hq : l.length < q
    · have hdone := HAT.out.done hq
      have HV := Lib.hid (show partsOf l = some ls by have := HSome.out (by rw [hdone.1]; exact hdone.2); rw [hdone.1] at this; exact this)
      clear hdone
      go_wp2_with fail
      go_ret2
      refine ⟨hb, ?_⟩
      rw [HV.out]
      exact ⟨A, n, c, rfl, ho⟩
    · have e0 : (0 : Int) ≤ (p : Int) := by omega
      have e1 : (p : Int) ≤ (q : Int) := by omega
      have e2 : (q : Int) ≤ (l.length : Int) := by omega
      have hql : q ≤ l.length := by omega
      by_cases hc : q = l.length ∨ l[q]? = some 47
      · have hcut := HAT.out.cut hql hc
        have hxe := ext_list l p q hql
        have hxl : ((l.drop p).take (q - p)).length ≤ 64 := by rw [List.length_take, List.length_drop]; omega
        generalize (l.drop p).take (q - p) = x at *
        have hn := ho.len
        have hn64 : n ≤ 64 := by omega
        have hsz := hb.size
        rcases hc with hc | hc
        · have eq1 : ((q : Int) == (l.length : Int)) = true := by rw [hc]; simp
          clear hc
          (cases hpx : isPart x with
         | true =>
           have HN := Lib.hid (hcut.2 hpx)
           have HP := Lib.hid (fun W => show Calls Tryd.prog 62 #[.string ⟨x.toArray⟩] W fun e w' => e = .returned (.bool true) ∧ w' = W by
             rw [← hpx]; exact refPart_any ⟨x.toArray⟩ W (by show x.length ≤ _; unfold maxLen; omega))
           clear hcut hpx
           go_wp2_with (first
             | (go_at_call 62; refine (HP.out _).mono ?_; rintro e w' ⟨rfl, rfl⟩)
             | (at_builtin
                refine wpList_append_rd _ rfl (.tmp 46) (.tmp 51) 32 rfl w.heap.size 9 i0 _ 16 Tryd.underlying32 hi hz0 hz1 hz2 rfl A n c (ls.map sv) rfl (World.ownsRow.alloc ho _) (some ⟨_, 0, none⟩) 1 1 [sv x] rfl
                  (Rd.new _ [sv x] _) (by intro u hu; rw [List.mem_singleton.1 hu]; rfl) (by simp only [maxLen]; omega) (by omega) (by simp; omega) ?_
                intro A3 c3 w3 hown3 hg3 hrow3))
           go_roundw
           case rel =>
             refine ⟨A3, n + 1, c3, q + 1, q + 1, ls ++ [x], rfl, by go_num, by go_num, ?_, HN.out, ?_⟩
             · unfold OwnT
               rw [List.map_append]
               exact hown3
             · exact (hb.alloc hsz _).grown hg3 (by simp; omega) (OwnT.block ho)
           case measure => simp [intOf]; omega
         | false =>
           have HV := Lib.hid (HNone.out x hcut.1 hpx)
           have HP := Lib.hid (fun W => show Calls Tryd.prog 62 #[.string ⟨x.toArray⟩] W fun e w' => e = .returned (.bool false) ∧ w' = W by
             rw [← hpx]; exact refPart_any ⟨x.toArray⟩ W (by show x.length ≤ _; unfold maxLen; omega))
           clear hcut hpx
           go_wp2_with (first
             | (go_at_call 62; refine (HP.out _).mono ?_; rintro e w' ⟨rfl, rfl⟩))
           go_ret2
           refine ⟨hb, ?_⟩
           rw [HV.out]
           exact rfl)
        · have hlt : q < l.length := by
            rcases Nat.lt_or_ge q l.length with h | h
            · exact h
            · rw [List.getElem?_eq_none h] at hc; cases hc
          have eq1 : ((q : Int) == (l.length : Int)) = false := by simp; omega
          have hqs : q < (⟨l.toArray⟩ : ByteArray).size := hlt
          have e3 : (q : Int) < (l.length : Int) := by omega
          have eq2 : (((((⟨l.toArray⟩ : ByteArray)[q]'hqs).toNat : Nat) : Int) == 47) = true := by
            rw [List.getElem?_eq_getElem hlt] at hc
            have hc' := Option.some.inj hc
            show (((l[q].toNat : Nat) : Int) == 47) = true
            rw [hc']; rfl
          clear hc
          (cases hpx : isPart x with
         | true =>
           have HN := Lib.hid (hcut.2 hpx)
           have HP := Lib.hid (fun W => show Calls Tryd.prog 62 #[.string ⟨x.toArray⟩] W fun e w' => e = .returned (.bool true) ∧ w' = W by
             rw [← hpx]; exact refPart_any ⟨x.toArray⟩ W (by show x.length ≤ _; unfold maxLen; omega))
           clear hcut hpx
           go_wp2_with (first
             | (go_at_call 62; refine (HP.out _).mono ?_; rintro e w' ⟨rfl, rfl⟩)
             | (at_builtin
                refine wpList_append_rd _ rfl (.tmp 46) (.tmp 51) 32 rfl w.heap.size 9 i0 _ 16 Tryd.underlying32 hi hz0 hz1 hz2 rfl A n c (ls.map sv) rfl (World.ownsRow.alloc ho _) (some ⟨_, 0, none⟩) 1 1 [sv x] rfl
                  (Rd.new _ [sv x] _) (by intro u hu; rw [List.mem_singleton.1 hu]; rfl) (by simp only [maxLen]; omega) (by omega) (by simp; omega) ?_
                intro A3 c3 w3 hown3 hg3 hrow3))
           go_roundw
           case rel =>
             refine ⟨A3, n + 1, c3, q + 1, q + 1, ls ++ [x], rfl, by go_num, by go_num, ?_, HN.out, ?_⟩
             · unfold OwnT
               rw [List.map_append]
               exact hown3
             · exact (hb.alloc hsz _).grown hg3 (by simp; omega) (OwnT.block ho)
           case measure => simp [intOf]; omega
         | false =>
           have HV := Lib.hid (HNone.out x hcut.1 hpx)
           have HP := Lib.hid (fun W => show Calls Tryd.prog 62 #[.string ⟨x.toArray⟩] W fun e w' => e = .returned (.bool false) ∧ w' = W by
             rw [← hpx]; exact refPart_any ⟨x.toArray⟩ W (by show x.length ≤ _; unfold maxLen; omega))
           clear hcut hpx
           go_wp2_with (first
             | (go_at_call 62; refine (HP.out _).mono ?_; rintro e w' ⟨rfl, rfl⟩))
           go_ret2
           refine ⟨hb, ?_⟩
           rw [HV.out]
           exact rfl)
      · have hlt : q < l.length := by omega
        have HN := Lib.hid (HAT.out.on hlt (fun e => hc (.inr (by rw [List.getElem?_eq_getElem hlt, e]))))
        have eq1 : ((q : Int) == (l.length : Int)) = false := by simp; omega
        have hqs : q < (⟨l.toArray⟩ : ByteArray).size := hlt
        have e3 : (q : Int) < (l.length : Int) := by omega
        have eq2 : (((((⟨l.toArray⟩ : ByteArray)[q]'hqs).toNat : Nat) : Int) == 47) = false := by
          rw [beq_eq_false_iff_ne]
          intro e
          apply hc
          right
          rw [List.getElem?_eq_getElem hlt]
          congr 1
          exact UInt8.toNat_inj.1 (Int.ofNat_inj.1 e)
        clear hc
        go_wp2_with fail
        go_roundw
        case rel => exact ⟨A, n, c, p, q + 1, ls, rfl, rfl, by go_num, ho, HN.out, hb⟩
        case measure => simp [intOf]; omega
set_option maxHeartbeats 1600000 in
theorem refParts_any (s : ByteArray) (w : World) (hs : s.size ≤ maxLen) : Calls Tryd.prog 52 #[.string s] w (PartsP (partsOf s.data.toList) w) := by
  obtain ⟨l, rfl⟩ : ∃ l : List UInt8, s = ⟨l.toArray⟩ := ⟨s.data.toList, (sv_of s).symm⟩
  show Calls _ _ _ _ (PartsP (partsOf l) w)
  have hl : l.length ≤ 9223372036854775807 := hs
  clear hs
  by_cases h1 : 1 ≤ l.length
  · by_cases h2 : l.length ≤ 64
    · obtain ⟨c, r, rfl⟩ : ∃ c r, l = c :: r := by cases l with | nil => exact absurd h1 (by simp) | cons c r => exact ⟨c, r, rfl⟩
      have h3 : r.length < 64 := by simp only [List.length_cons] at h2; omega
      by_cases hc : c = 47
      · subst hc
        by_cases hr : r = []
        · subst hr
          have HO := Lib.hid (ownT_empty w)
          clear hl h1 h2 h3
          go_enter Tryd.func52, Tryd.ntmps52
          go_wp2_with fail
          go_ret2
          exact ⟨(Below.refl _ _).alloc (Nat.le_refl _) _, _, _, _, rfl, HO.out⟩
        · exact refParts_walk r _ w hr h3 rfl
      · have HV := Lib.hid (show partsOf (c :: r) = none by
          show (if c = 47 ∧ r.length < 64 then _ else _) = none
          rw [if_neg (fun e => hc e.1)])
        obtain ⟨m, hm⟩ : ∃ m, m = c :: r := ⟨_, rfl⟩
        rw [← hm] at HV hl h1 h2 ⊢
        have b1 : decide ((m.length : Int) < 1) = false := by simp; omega
        have b2 : decide (64 < (m.length : Int)) = false := by simp; omega
        have h0 : 0 < (⟨m.toArray⟩ : ByteArray).size := h1
        have b3 : (((((⟨m.toArray⟩ : ByteArray)[0]'h0).toNat : Nat) : Int) != 47) = true := by
          subst hm
          show (((c.toNat : Nat) : Int) != 47) = true
          rw [bne_iff_ne]
          intro e
          exact hc (UInt8.toNat_inj.1 (Int.ofNat_inj.1 e))
        clear hm hc h3
        go_enter Tryd.func52, Tryd.ntmps52
        go_wp2_with fail
        go_ret2
        refine ⟨Below.refl _ _, ?_⟩
        rw [HV.out]
        exact rfl
    · have HV := Lib.hid (show partsOf l = none by
        cases l with
        | nil => rfl
        | cons c r =>
          show (if c = 47 ∧ r.length < 64 then _ else _) = none
          rw [if_neg]
          simp only [List.length_cons] at h2
          omega)
      have b1 : decide ((l.length : Int) < 1) = false := by simp; omega
      have b2 : decide (64 < (l.length : Int)) = true := by simp; omega
      clear h2
      go_enter Tryd.func52, Tryd.ntmps52
      go_wp2_with fail
      go_ret2
      refine ⟨Below.refl _ _, ?_⟩
      rw [HV.out]
      exact rfl
  · obtain rfl : l = [] := List.eq_nil_of_length_eq_zero (by omega)
    clear hl h1
    go_enter Tryd.func52, Tryd.ntmps52
    go_wp2_with fail
    go_ret2
    exact ⟨Below.refl _ _, rfl⟩
theorem refCheck_any (s : ByteArray) (w : World) (hs : s.size ≤ maxLen) : Calls Tryd.prog 37 #[.string s] w (Ans (.int .i64 (errB (partsOf s.data.toList).isSome)) w) := by
  have HP := Lib.hid (refParts_any s w hs)
  cases ho : partsOf s.data.toList with
  | none =>
    rw [ho] at HP
    clear ho hs
    go_enter Tryd.func37, Tryd.ntmps37
    go_wp2_with fail
    refine (HP.out).mono ?_
    rintro e w1 ⟨hb, rfl⟩
    go_wp2_with fail
    go_ret
    exact ⟨rfl, hb⟩
  | some ls =>
    rw [ho] at HP
    clear ho hs
    go_enter Tryd.func37, Tryd.ntmps37
    go_wp2_with fail
    refine (HP.out).mono ?_
    rintro e w1 ⟨hb, A, n, c, rfl, ho⟩
    go_wp2_with fail
    go_ret
    exact ⟨rfl, hb⟩
end Go.Proofs.YtbppokdaehaocaaDoor

/-
  The reference's whole, Parent, Name, Within. Walks; no statement.
-/
namespace Go.Proofs.YtbppokdaehaocaaDoor
set_option maxRecDepth 100000
open Go.RowKit
set_option linter.unusedVariables false

end Go.Proofs.YtbppokdaehaocaaDoor

/-
  The reference's Numbered. Walks; no statement.
-/
namespace Go.Proofs.YtbppokdaehaocaaDoor
set_option maxRecDepth 100000
open Go.RowKit
set_option linter.unusedVariables false

/-- the five digits, cell by cell -/
theorem digit_cells (z : Int) (h0 : 0 ≤ z) : #[Value.int .u8 (48 + z / 10 / 10 / 10 / 10 % 10), .int .u8 (48 + z / 10 / 10 / 10 % 10), .int .u8 (48 + z / 10 / 10 % 10), .int .u8 (48 + z / 10 % 10), .int .u8 (48 + z % 10)] = ((digits5 z.toNat).map bv).toArray := by
  obtain ⟨u, rfl⟩ : ∃ u : Nat, z = u := ⟨z.toNat, by omega⟩
  have hd : ∀ (k : Nat) (y : Int), y % 10 = ((k % 10 : Nat) : Int) → Value.int .u8 (48 + y % 10) = bv (UInt8.ofNat (48 + k % 10)) := by
    intro k y h
    unfold bv
    rw [h]
    congr 1
    have : (UInt8.ofNat (48 + k % 10)).toNat = 48 + k % 10 := by
      rw [UInt8.toNat_ofNat']
      omega
    rw [this]
    omega
  rw [Int.toNat_natCast]
  unfold digits5
  simp only [List.map_cons, List.map_nil]
  rw [hd (u / 10000) _ (by omega), hd (u / 1000) _ (by omega), hd (u / 100) _ (by omega), hd (u / 10) _ (by omega), hd u _ (by omega)]
theorem digits_text (z : Int) (h0 : 0 ≤ z) (W : World) :
    (convert 89 9 (.slice (some ⟨W.heap.size, 0, none⟩) 5 5)).run Tryd.prog (W.alloc (.cells #[Value.int .u8 (48 + z / 10 / 10 / 10 / 10 % 10), .int .u8 (48 + z / 10 / 10 / 10 % 10), .int .u8 (48 + z / 10 / 10 % 10), .int .u8 (48 + z / 10 % 10), .int .u8 (48 + z % 10)] 5))
      = .ok (.string ⟨(digits5 z.toNat).toArray⟩) (W.alloc (.cells #[Value.int .u8 (48 + z / 10 / 10 / 10 / 10 % 10), .int .u8 (48 + z / 10 / 10 / 10 % 10), .int .u8 (48 + z / 10 / 10 % 10), .int .u8 (48 + z / 10 % 10), .int .u8 (48 + z % 10)] 5)) := by
  rw [digit_cells z h0]
  have hl : (digits5 z.toNat).length = 5 := rfl
  have := run_convert_bytes_back (P := Tryd.prog) (W.alloc (.cells ((digits5 z.toNat).map bv).toArray 5)) 89 9 5 ⟨W.heap.size, 0, none⟩ 5 (digits5 z.toNat) Tryd.underlying89 Tryd.underlying5 Tryd.underlying9
    (fun j hj => by
      have h := (Rd.new W ((digits5 z.toNat).map bv) 5).2 j (bv (digits5 z.toNat)[j]) (by rw [List.getElem?_map, List.getElem?_eq_getElem hj]; rfl)
      obtain ⟨a, ea, _, hc⟩ := h
      injection ea with ea
      rw [← ea] at hc
      exact hc)
  rw [hl] at this
  exact this
end Go.Proofs.YtbppokdaehaocaaDoor
