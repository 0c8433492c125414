/-
  The reference's with. Walks; no statement.
-/
import Derived.Test.YtgppclmofphlfaaGreatDoorTreeRef1
namespace Go.Proofs.YtgppclmofphlfaaGreatDoor
set_option maxRecDepth 100000
open Go.RowKit
set_option linter.unusedVariables false

theorem tGo_len (l : Lf) : ∀ (put : Bool) (t : List Lf), (tGo l put t).length ≤ t.length + 1
  | put, [] => by unfold tGo; split <;> simp
  | put, x :: r => by
    have h1 := tGo_len l put r
    have h2 := tGo_len l true r
    unfold tGo
    split
    · simp only [List.length_cons]; omega
    · split
      · simp only [List.length_cons]
        have h3 : (tGo l true r).length ≤ r.length := tGo_put l r
        omega
      · simp only [List.length_cons]; omega
where tGo_put (l : Lf) : ∀ t : List Lf, (tGo l true t).length ≤ t.length
  | [] => by simp [tGo]
  | x :: r => by
    have h1 := tGo_put l r
    unfold tGo
    split
    · simp only [List.length_cons]; omega
    · rw [if_neg (by simp)]; simp only [List.length_cons]; omega
/-- what the tree's with answers: old data, a new row -/
def FreshW (F : Nat → Prop) (t : List Lf) (w : World) (e : Ending) (w' : World) : Prop :=
  Below w.heap.size w w' ∧ ∃ A c, e = .returned (.agg #[.slice A t.length c]) ∧ RdS RLf (fun b => F b ∨ w.heap.size ≤ b) w' A c t
theorem info_tree1 : (Tryz.prog.info? 30).map (·.size) = some 1 := by kernel_rfl
set_option maxHeartbeats 6400000 in
theorem refWith_any (l : Lf) (LA : Option Addr) (LC : Nat) (A : Option Addr) (c : Nat) (t : List Lf) (F : Nat → Prop) (w : World) (h : RdS RLf F w A c t) (hl : BF F w LA LC l.data) (hn : t.length ≤ 1000) :
    Calls Tryz.prog 46 #[.agg #[.slice A t.length c], .agg #[.string ⟨l.path.toArray⟩, .slice LA l.data.length LC, .int .i64 l.ver, .int .i64 l.own, .int .i64 l.next, .int .i64 l.born]] w (FreshW F (tWith l t) w) := by
  obtain ⟨i0, hi, hz0, hz1, hz2⟩ := info_parts info_leaf
  obtain ⟨W3, hW3⟩ : ∃ W3, W3 = ((w.alloc (.cells #[.slice A t.length c] 30)).alloc (.cells #[.string ⟨l.path.toArray⟩, .slice LA l.data.length LC, .int .i64 l.ver, .int .i64 l.own, .int .i64 l.next, .int .i64 l.born] 50)).alloc (.cells #[.slice none 0 0] 30) := ⟨_, rfl⟩
  have hB3 : Below w.heap.size w W3 := by
    rw [hW3]
    exact (((Below.refl w.heap.size w).alloc (Nat.le_refl _) _).alloc (by simp) _).alloc (by simp; omega) _
  have hs3 : W3.heap.size = w.heap.size + 3 := by rw [hW3]; simp
  have hk0 : Bk W3 w.heap.size 30 [.slice A t.length c] := by rw [hW3]; exact ((Bk.new w 30 [.slice A t.length c]).alloc _).alloc _
  have hk1 : Bk W3 (w.heap.size + 1) 50 (lfC l LA LC) := by
    rw [hW3]
    have := Bk.new (w.alloc (.cells #[.slice A t.length c] 30)) 50 (lfC l LA LC)
    rw [show (w.alloc (.cells #[.slice A t.length c] 30)).heap.size = w.heap.size + 1 by simp] at this
    exact this.alloc _
  have hk2 : Bk W3 (w.heap.size + 2) 30 [.slice none 0 0] := by
    rw [hW3]
    have := Bk.new ((w.alloc (.cells #[.slice A t.length c] 30)).alloc (.cells #[.string ⟨l.path.toArray⟩, .slice LA l.data.length LC, .int .i64 l.ver, .int .i64 l.own, .int .i64 l.next, .int .i64 l.born] 50)) 30 [.slice none 0 0]
    rw [show ((w.alloc (.cells #[.slice A t.length c] 30)).alloc (.cells #[.string ⟨l.path.toArray⟩, .slice LA l.data.length LC, .int .i64 l.ver, .int .i64 l.own, .int .i64 l.next, .int .i64 l.born] 50)).heap.size = w.heap.size + 2 by simp] at this
    exact this
  have HBB := Lib.hid hB3
  have HK0 := Lib.hid hk0
  have HK1 := Lib.hid hk1
  have HK2 := Lib.hid hk2
  have HS3 := Lib.hid hs3
  have HR := Lib.hid (h.keep (F' := fun b => F b ∧ b < w.heap.size) (w' := w) ⟨Nat.le_refl _, fun _ _ _ => rfl⟩ fun b hb hlt => ⟨hb, hlt⟩)
  have HL := Lib.hid (hl.keep (F' := fun b => F b ∧ b < w.heap.size) (w' := w) ⟨Nat.le_refl _, fun _ _ _ => rfl⟩ fun b hb hlt => ⟨hb, hlt⟩)
  have HE := Lib.hid (show OwnS RLf 50 (fun b => F b ∧ b < w.heap.size ∨ w.heap.size + 3 ≤ b) (w.heap.size + 3) (W3.alloc (.cells #[] 50)) (some ⟨w.heap.size + 3, 0, none⟩) 0 0 [] by
    have := OwnS.empty RLf 50 (fun b => F b ∧ b < w.heap.size ∨ w.heap.size + 3 ≤ b) W3
    rw [hs3] at this
    exact this)
  have HWE := Lib.hid hW3
  have hml : t.length ≤ 1000 := hn
  clear h hl hB3 hk0 hk1 hk2 hn hW3 hs3
  go_enter Tryz.func46, Tryz.ntmps46
  go_wp2_with fail
  rw [← HWE.out]
  go_loopw [5, 6, 7] (fun s u i wr => ∃ (A' : Option Addr) (n' c' k : Nat) (put : Bool) (dn : List Lf), k ≤ t.length ∧ s = .slice A' n' c' ∧ u = .bool put ∧ i = .int .i64 k ∧ OwnS RLf 50 (fun b => F b ∧ b < w.heap.size ∨ w.heap.size + 3 ≤ b) (w.heap.size + 3) wr A' n' c' dn ∧ dn ++ tGo l put (t.drop k) = tWith l t ∧ n' ≤ k + put.toNat ∧ Below (w.heap.size + 3) W3 wr) (fun _ _ i _ => t.length - (intOf i).toNat)
  case atStart => exact ⟨_, 0, 0, 0, false, [], by omega, rfl, rfl, rfl, HE.out, rfl, by simp, (Below.refl _ _).alloc (by rw [HS3.out]; exact Nat.le_refl _) _⟩
  case round =>
    obtain ⟨A', n', c', k, put, dn, hk, rfl, rfl, rfl, ho, hdn, hnk, hb⟩ := hrel
    have hn1 : n' ≤ 1001 := by cases put <;> simp at hnk <;> omega
    have HBwr := Lib.hid hb
    have HBwn := Lib.hid (show Below w.heap.size w wr from HBB.out.trans (hb.mono (by omega)))
    have HO := Lib.hid ho
    have HDN := Lib.hid hdn
    have j0 : wr.cell? ⟨w.heap.size, 0, none⟩ = some (.slice A t.length c) := (HK0.out.below hb (by omega)).at_ rfl
    have g0 : wr.cell? ⟨w.heap.size + 1, 0, none⟩ = some (.string ⟨l.path.toArray⟩) := (HK1.out.below hb (by omega)).at_ rfl
    have g1 : wr.cell? ⟨w.heap.size + 1, 1, none⟩ = some (.slice LA l.data.length LC) := (HK1.out.below hb (by omega)).at_ rfl
    have g2 : wr.cell? ⟨w.heap.size + 1, 2, none⟩ = some (.int .i64 l.ver) := (HK1.out.below hb (by omega)).at_ rfl
    have g3 : wr.cell? ⟨w.heap.size + 1, 3, none⟩ = some (.int .i64 l.own) := (HK1.out.below hb (by omega)).at_ rfl
    have g4 : wr.cell? ⟨w.heap.size + 1, 4, none⟩ = some (.int .i64 l.next) := (HK1.out.below hb (by omega)).at_ rfl
    have g5 : wr.cell? ⟨w.heap.size + 1, 5, none⟩ = some (.int .i64 l.born) := (HK1.out.below hb (by omega)).at_ rfl
    have hszr : w.heap.size + 3 ≤ wr.heap.size := by have h1 := hb.size; have h2 := HS3.out; omega
    clear ho hdn hb
    by_cases hlt : k < t.length
    · obtain ⟨x, hx⟩ : ∃ x, t[k]? = some x := ⟨_, List.getElem?_eq_getElem hlt⟩
      have HD := Lib.hid (show t.drop k = x :: t.drop (k + 1) by
        obtain ⟨hh, rfl⟩ := List.getElem?_eq_some_iff.1 hx
        exact List.drop_eq_getElem_cons hh)
      obtain ⟨y, XA, XC, rfl, hyb, u0, u1, u2, u3, u4, u5, hxb⟩ := HR.out.lf6 hx
      have HCW := Lib.hid (fun w' (hb : Below w.heap.size w w') => show _ ∧ _ ∧ _ ∧ _ ∧ _ ∧ _ from ⟨cell_kept u0 hb, cell_kept u1 hb, cell_kept u2 hb, cell_kept u3 hb, cell_kept u4 hb, cell_kept u5 hb⟩)
      have HXW := Lib.hid (fun w' (hb : Below w.heap.size w w') => hxb.below hb)
      have HXB := Lib.hid (HXW.out wr HBwn.out)
      obtain ⟨c0, c1, c2, c3, c4, c5⟩ := HCW.out wr HBwn.out
      clear u0 u1 u2 u3 u4 u5
      have HLB := Lib.hid (HL.out.below HBwn.out)
      have y1 : (0 : Int) ≤ (k : Int) := by omega
      have y2 : (k : Int) < (t.length : Int) := by omega
      clear hx hyb hxb
      by_cases e : x.path = l.path
      · have b1 : (x.path == l.path) = true := by simpa using e
        have HN := Lib.hid (show dn ++ tGo l put (t.drop (k + 1)) = tWith l t by
          have := HDN.out
          rw [HD.out] at this
          unfold tGo at this
          rwa [if_pos e] at this)
        clear e
        go_wp2_with fail
        go_quiet (fail)
        go_wp2_with fail
        go_roundw
        case rel => exact ⟨A', n', c', k + 1, put, dn, by omega, rfl, rfl, by go_num, HO.out, HN.out, by omega, below_drewN HBwr.out _⟩
        case measure => simp [intOf]; omega
      · have b1 : (x.path == l.path) = false := by simpa using e
        have HN0 := Lib.hid (show dn ++ (if put = false ∧ Op.bytesLess l.path x.path = true then l :: x :: tGo l true (t.drop (k + 1)) else x :: tGo l put (t.drop (k + 1))) = tWith l t by
          have := HDN.out
          rw [HD.out] at this
          unfold tGo at this
          rwa [if_neg e] at this)
        clear e
        cases put with
        | true =>
          have HN := Lib.hid (show (dn ++ [x]) ++ tGo l true (t.drop (k + 1)) = tWith l t by
            have := HN0.out
            rw [if_neg (by simp)] at this
            rw [← this]; simp)
          clear HN0
          go_wp2_with fail
          go_quiet (fail)
          go_wp2_with fail
          go_quiet (fail)
          go_wp2_with (first
            | (at_builtin
               obtain ⟨hl4, css4, hcl4, hou4, hin4⟩ := HO.out
               refine wpList_append_own_at _ rfl (.tmp 42) (.tmp 48) 28 rfl (w.heap.size + 3) 50 i0 _ 6 72 Tryz.underlying28 hi hz0 hz1 hz2 rfl (by omega) (.slice A' (n') c') (n') css4.flatten rfl (World.ownsRow.alloc hou4 _) ⟨wr.heap.size, 0, none⟩ 1 1 (lfC x XA XC) rfl rfl
                 (news_row _ (lfC x XA XC) 50) (by simp [lfC, Value.oneCell']) (by simp only [maxLen]; omega) (by omega) (by simp; omega) ?_
               intro v4 w4 hown4 hg4 hnil4 hrow4
               obtain ⟨A4, C4, rfl⟩ := form_row hown4
               have hal4 : ∀ q, Below wr.heap.size wr ((wr.drewN q).alloc (.cells #[.string ⟨x.path.toArray⟩, .slice XA x.data.length XC, .int .i64 x.ver, .int .i64 x.own, .int .i64 x.next, .int .i64 x.born] 50)) := fun q => (below_drewN (Below.refl _ _) q).alloc (Nat.le_refl _) _
               have HO4 := Lib.hid (show OwnS RLf 50 (fun b => F b ∧ b < w.heap.size ∨ w.heap.size + 3 ≤ b) (w.heap.size + 3) w4 A4 (n' + 1) C4 (dn ++ [x]) from
                 OwnS.push (R := RLf) (G := fun b => F b ∧ b < w.heap.size ∨ w.heap.size + 3 ≤ b) (F := fun b => F b ∧ b < w.heap.size) hl4 hcl4
                   (fun j y cs hy hc => RLf.below (hin4 j y cs hy hc) (hal4 _)) (RLf.below (show RLf.rd (fun b => F b ∧ b < w.heap.size) wr (lfC x XA XC) x from ⟨XA, XC, rfl, HXB.out⟩) (hal4 _))
                   (fun b hb _ => ⟨.inl hb, fun e => by have := HO.out.block b e.symm; omega⟩) hg4 hown4 hrow4)
               have HBw4 := Lib.hid (show Below (w.heap.size + 3) W3 w4 from ((below_drewN HBwr.out _).alloc (by have := HBwr.out.size; have := HS3.out; simp; omega) (.cells #[.string ⟨x.path.toArray⟩, .slice XA x.data.length XC, .int .i64 x.ver, .int .i64 x.own, .int .i64 x.next, .int .i64 x.born] 50)).grown hg4 (by have := HBwr.out.size; have := HS3.out; simp; omega) (fun g hg => HO.out.block g hg))
               have hsz4 : w.heap.size + 3 ≤ w4.heap.size := by have := HBw4.out.size; have := HS3.out; omega
               clear hl4 hcl4 hou4 hin4 hown4 hg4 hnil4 hrow4 hal4))
          go_roundw
          case rel => exact ⟨A4, n' + 1, C4, k + 1, true, dn ++ [x], by omega, rfl, rfl, by go_num, HO4.out, HN.out, by simp at hnk ⊢; omega, HBw4.out⟩
          case measure => simp [intOf]; omega
        | false =>
          cases hls : Op.bytesLess l.path x.path with
          | false =>
            have HN := Lib.hid (show (dn ++ [x]) ++ tGo l false (t.drop (k + 1)) = tWith l t by
              have := HN0.out
              rw [if_neg (by rw [hls]; simp)] at this
              rw [← this]; simp)
            clear HN0
            go_wp2_with fail
            go_quiet (fail)
            go_wp2_with fail
            go_quiet (fail)
            go_wp2_with (first
              | (at_builtin
                 obtain ⟨hl4, css4, hcl4, hou4, hin4⟩ := HO.out
                 refine wpList_append_own_at _ rfl (.tmp 42) (.tmp 48) 28 rfl (w.heap.size + 3) 50 i0 _ 6 72 Tryz.underlying28 hi hz0 hz1 hz2 rfl (by omega) (.slice A' (n') c') (n') css4.flatten rfl (World.ownsRow.alloc hou4 _) ⟨wr.heap.size, 0, none⟩ 1 1 (lfC x XA XC) rfl rfl
                   (news_row _ (lfC x XA XC) 50) (by simp [lfC, Value.oneCell']) (by simp only [maxLen]; omega) (by omega) (by simp; omega) ?_
                 intro v4 w4 hown4 hg4 hnil4 hrow4
                 obtain ⟨A4, C4, rfl⟩ := form_row hown4
                 have hal4 : ∀ q, Below wr.heap.size wr ((wr.drewN q).alloc (.cells #[.string ⟨x.path.toArray⟩, .slice XA x.data.length XC, .int .i64 x.ver, .int .i64 x.own, .int .i64 x.next, .int .i64 x.born] 50)) := fun q => (below_drewN (Below.refl _ _) q).alloc (Nat.le_refl _) _
                 have HO4 := Lib.hid (show OwnS RLf 50 (fun b => F b ∧ b < w.heap.size ∨ w.heap.size + 3 ≤ b) (w.heap.size + 3) w4 A4 (n' + 1) C4 (dn ++ [x]) from
                   OwnS.push (R := RLf) (G := fun b => F b ∧ b < w.heap.size ∨ w.heap.size + 3 ≤ b) (F := fun b => F b ∧ b < w.heap.size) hl4 hcl4
                     (fun j y cs hy hc => RLf.below (hin4 j y cs hy hc) (hal4 _)) (RLf.below (show RLf.rd (fun b => F b ∧ b < w.heap.size) wr (lfC x XA XC) x from ⟨XA, XC, rfl, HXB.out⟩) (hal4 _))
                     (fun b hb _ => ⟨.inl hb, fun e => by have := HO.out.block b e.symm; omega⟩) hg4 hown4 hrow4)
                 have HBw4 := Lib.hid (show Below (w.heap.size + 3) W3 w4 from ((below_drewN HBwr.out _).alloc (by have := HBwr.out.size; have := HS3.out; simp; omega) (.cells #[.string ⟨x.path.toArray⟩, .slice XA x.data.length XC, .int .i64 x.ver, .int .i64 x.own, .int .i64 x.next, .int .i64 x.born] 50)).grown hg4 (by have := HBwr.out.size; have := HS3.out; simp; omega) (fun g hg => HO.out.block g hg))
                 have hsz4 : w.heap.size + 3 ≤ w4.heap.size := by have := HBw4.out.size; have := HS3.out; omega
                 clear hl4 hcl4 hou4 hin4 hown4 hg4 hnil4 hrow4 hal4))
            go_roundw
            case rel => exact ⟨A4, n' + 1, C4, k + 1, false, dn ++ [x], by omega, rfl, rfl, by go_num, HO4.out, HN.out, by simp at hnk ⊢; omega, HBw4.out⟩
            case measure => simp [intOf]; omega
          | true =>
            have HN := Lib.hid (show (dn ++ [l] ++ [x]) ++ tGo l true (t.drop (k + 1)) = tWith l t by
              have := HN0.out
              rw [if_pos ⟨rfl, hls⟩] at this
              rw [← this]; simp)
            clear HN0
            go_wp2_with fail
            go_quiet (fail)
            go_wp2_with fail
            go_quiet (fail)
            go_wp2_with (first
              | (at_builtin
                 obtain ⟨hl3, css3, hcl3, hou3, hin3⟩ := HO.out
                 refine wpList_append_own_at _ rfl (.tmp 38) (.tmp 40) 28 rfl (w.heap.size + 3) 50 i0 _ 6 72 Tryz.underlying28 hi hz0 hz1 hz2 rfl (by omega) (.slice A' (n') c') (n') css3.flatten rfl (World.ownsRow.alloc hou3 _) ⟨wr.heap.size, 0, none⟩ 1 1 (lfC l LA LC) rfl rfl
                   (news_row _ (lfC l LA LC) 50) (by simp [lfC, Value.oneCell']) (by simp only [maxLen]; omega) (by omega) (by simp; omega) ?_
                 intro v3 w3 hown3 hg3 hnil3 hrow3
                 obtain ⟨A3, C3, rfl⟩ := form_row hown3
                 have hal3 : ∀ q, Below wr.heap.size wr ((wr.drewN q).alloc (.cells #[.string ⟨l.path.toArray⟩, .slice LA l.data.length LC, .int .i64 l.ver, .int .i64 l.own, .int .i64 l.next, .int .i64 l.born] 50)) := fun q => (below_drewN (Below.refl _ _) q).alloc (Nat.le_refl _) _
                 have HO3 := Lib.hid (show OwnS RLf 50 (fun b => F b ∧ b < w.heap.size ∨ w.heap.size + 3 ≤ b) (w.heap.size + 3) w3 A3 (n' + 1) C3 (dn ++ [l]) from
                   OwnS.push (R := RLf) (G := fun b => F b ∧ b < w.heap.size ∨ w.heap.size + 3 ≤ b) (F := fun b => F b ∧ b < w.heap.size) hl3 hcl3
                     (fun j y cs hy hc => RLf.below (hin3 j y cs hy hc) (hal3 _)) (RLf.below (show RLf.rd (fun b => F b ∧ b < w.heap.size) wr (lfC l LA LC) l from ⟨LA, LC, rfl, HLB.out⟩) (hal3 _))
                     (fun b hb _ => ⟨.inl hb, fun e => by have := HO.out.block b e.symm; omega⟩) hg3 hown3 hrow3)
                 have HBw3 := Lib.hid (show Below (w.heap.size + 3) W3 w3 from ((below_drewN HBwr.out _).alloc (by have := HBwr.out.size; have := HS3.out; simp; omega) (.cells #[.string ⟨l.path.toArray⟩, .slice LA l.data.length LC, .int .i64 l.ver, .int .i64 l.own, .int .i64 l.next, .int .i64 l.born] 50)).grown hg3 (by have := HBwr.out.size; have := HS3.out; simp; omega) (fun g hg => HO.out.block g hg))
                 have hsz3 : w.heap.size + 3 ≤ w3.heap.size := by have := HBw3.out.size; have := HS3.out; omega
                 clear hl3 hcl3 hou3 hin3 hown3 hg3 hnil3 hrow3 hal3
                 have HBn3 : Below w.heap.size w w3 := HBB.out.trans (HBw3.out.mono (by omega))
                 have j3 : w3.cell? ⟨w.heap.size, 0, none⟩ = some (.slice (some y) t.length c) := (HK0.out.below HBw3.out (by omega)).at_ rfl
                 obtain ⟨p0, p1, p2, p3, p4, p5⟩ := HCW.out w3 HBn3
                 have HXB3 := Lib.hid (HXW.out w3 HBn3)
                 clear HBn3)
              | (at_builtin
                 obtain ⟨hl4, css4, hcl4, hou4, hin4⟩ := HO3.out
                 refine wpList_append_own_at _ rfl (.tmp 42) (.tmp 48) 28 rfl (w.heap.size + 3) 50 i0 _ 6 72 Tryz.underlying28 hi hz0 hz1 hz2 rfl (by omega) (.slice A3 (n' + 1) C3) (n' + 1) css4.flatten rfl (World.ownsRow.alloc hou4 _) ⟨w3.heap.size, 0, none⟩ 1 1 (lfC x XA XC) rfl rfl
                   (news_row _ (lfC x XA XC) 50) (by simp [lfC, Value.oneCell']) (by simp only [maxLen]; omega) (by omega) (by simp; omega) ?_
                 intro v4 w4 hown4 hg4 hnil4 hrow4
                 obtain ⟨A4, C4, rfl⟩ := form_row hown4
                 have hal4 : Below w3.heap.size w3 (w3.alloc (.cells #[.string ⟨x.path.toArray⟩, .slice XA x.data.length XC, .int .i64 x.ver, .int .i64 x.own, .int .i64 x.next, .int .i64 x.born] 50)) := (Below.refl _ _).alloc (Nat.le_refl _) _
                 have HO4 := Lib.hid (show OwnS RLf 50 (fun b => F b ∧ b < w.heap.size ∨ w.heap.size + 3 ≤ b) (w.heap.size + 3) w4 A4 (n' + 1 + 1) C4 (dn ++ [l] ++ [x]) from
                   OwnS.push (R := RLf) (G := fun b => F b ∧ b < w.heap.size ∨ w.heap.size + 3 ≤ b) (F := fun b => F b ∧ b < w.heap.size) hl4 hcl4
                     (fun j y cs hy hc => RLf.below (hin4 j y cs hy hc) (hal4)) (RLf.below (show RLf.rd (fun b => F b ∧ b < w.heap.size) w3 (lfC x XA XC) x from ⟨XA, XC, rfl, HXB3.out⟩) (hal4))
                     (fun b hb _ => ⟨.inl hb, fun e => by have := HO3.out.block b e.symm; omega⟩) hg4 hown4 hrow4)
                 have HBw4 := Lib.hid (show Below (w.heap.size + 3) W3 w4 from (HBw3.out.alloc (by have := HBw3.out.size; have := HS3.out; simp; omega) (.cells #[.string ⟨x.path.toArray⟩, .slice XA x.data.length XC, .int .i64 x.ver, .int .i64 x.own, .int .i64 x.next, .int .i64 x.born] 50)).grown hg4 (by have := HBw3.out.size; have := HS3.out; simp; omega) (fun g hg => HO3.out.block g hg))
                 have hsz4 : w.heap.size + 3 ≤ w4.heap.size := by have := HBw4.out.size; have := HS3.out; omega
                 clear hl4 hcl4 hou4 hin4 hown4 hg4 hnil4 hrow4 hal4))
            go_roundw
            case rel => exact ⟨A4, n' + 1 + 1, C4, k + 1, true, dn ++ [l] ++ [x], by omega, rfl, rfl, by go_num, HO4.out, HN.out, by simp at hnk ⊢; omega, HBw4.out⟩
            case measure => simp [intOf]; omega
    · obtain rfl : k = t.length := by omega
      have HFIN := Lib.hid (show put = true → dn = tWith l t from fun e => by
        have := HDN.out
        rw [List.drop_length, e] at this
        simpa [tGo] using this)
      have HFIN2 := Lib.hid (show put = false → dn ++ [l] = tWith l t from fun e => by
        have := HDN.out
        rw [List.drop_length, e] at this
        simpa [tGo] using this)
      have HLB := Lib.hid (HL.out.below HBwn.out)
      clear hnk
      cases put with
      | true =>
        have HT := Lib.hid (HFIN.out rfl)
        clear HFIN HFIN2
        have z0 := (HK0.out.below HBwr.out (by omega)).frozen 0
        have z2 := (HK2.out.below HBwr.out (by omega)).frozen 0
        have j0e : wr.cell? ⟨w.heap.size, 0, none⟩ = some (.slice A t.length c) := (HK0.out.below HBwr.out (by omega)).at_ rfl
        have j2 : wr.cell? ⟨w.heap.size + 2, 0, none⟩ = some (.slice none 0 0) := (HK2.out.below HBwr.out (by omega)).at_ rfl
        have hze : w.heap.size + 3 ≤ wr.heap.size := by have := HBwr.out.size; have := HS3.out; omega
        have hlt2 : w.heap.size + 2 < wr.heap.size := by omega
        have hlt0 : w.heap.size < wr.heap.size := by omega
        have HK2e := Lib.hid (HK2.out.below HBwr.out (by omega))
        go_wp2_with fail
        have kk := (HK2e.out.far (p := ⟨w.heap.size, 0, none⟩) (by show w.heap.size + 2 ≠ w.heap.size; omega) (.slice A' (n') c')).set 0 (.slice A' (n') c')
        have g1 := grown_set (grown_refl wr (some w.heap.size)) 0 (.slice A' (n') c')
        have g2 := grown_set (grown_refl (wr.setCell ⟨w.heap.size, 0, none⟩ (.slice A' (n') c')) (some (w.heap.size + 2))) 0 (.slice A' (n') c')
        have hbe : Below w.heap.size w wr := HBB.out.trans (HBwr.out.mono (by omega))
        have hbf := (hbe.grown g1 hbe.size (fun g hg => by cases hg; omega)).grown g2 (by simp; omega) (fun g hg => by cases hg; omega)
        have hrr := (((HO.out.rds (fun b hb => .inr hb)).keep (F' := fun b => F b ∧ b < w.heap.size ∨ w.heap.size + 3 ≤ b) (Kp.of_grown g1 fun b hb e => by injection e with e; omega) fun _ h _ => h).keep (F' := fun b => F b ∨ w.heap.size ≤ b) (Kp.of_grown g2 fun b hb e => by injection e with e; omega) fun b hb _ => hb.elim (fun h => .inl h.1) (fun h => .inr (by omega)))
        have hlen := HO.out.len
        rw [HT.out] at hrr hlen
        refine bodyPost_ret_by (results_row1 rfl _ _ (w.heap.size + 2) 30 _ _ rfl kk Tryz.underlying30 rfl info_tree1) rfl ?_
        exact ⟨hbf, A', c', by rw [hlen]; rfl, hrr⟩
      | false =>
        have HT := Lib.hid (HFIN2.out rfl)
        clear HFIN HFIN2
        go_wp2_with (first
          | (at_builtin
             obtain ⟨hl5, css5, hcl5, hou5, hin5⟩ := HO.out
             refine wpList_append_own_at _ rfl (.tmp 52) (.tmp 54) 28 rfl (w.heap.size + 3) 50 i0 _ 6 72 Tryz.underlying28 hi hz0 hz1 hz2 rfl (by omega) (.slice A' (n') c') (n') css5.flatten rfl (World.ownsRow.alloc hou5 _) ⟨wr.heap.size, 0, none⟩ 1 1 (lfC l LA LC) rfl rfl
               (news_row _ (lfC l LA LC) 50) (by simp [lfC, Value.oneCell']) (by simp only [maxLen]; omega) (by omega) (by simp; omega) ?_
             intro v5 w5 hown5 hg5 hnil5 hrow5
             obtain ⟨A5, C5, rfl⟩ := form_row hown5
             have hal5 : Below wr.heap.size wr (wr.alloc (.cells #[.string ⟨l.path.toArray⟩, .slice LA l.data.length LC, .int .i64 l.ver, .int .i64 l.own, .int .i64 l.next, .int .i64 l.born] 50)) := (Below.refl _ _).alloc (Nat.le_refl _) _
             have HO5 := Lib.hid (show OwnS RLf 50 (fun b => F b ∧ b < w.heap.size ∨ w.heap.size + 3 ≤ b) (w.heap.size + 3) w5 A5 (n' + 1) C5 (dn ++ [l]) from
               OwnS.push (R := RLf) (G := fun b => F b ∧ b < w.heap.size ∨ w.heap.size + 3 ≤ b) (F := fun b => F b ∧ b < w.heap.size) hl5 hcl5
                 (fun j y cs hy hc => RLf.below (hin5 j y cs hy hc) (hal5)) (RLf.below (show RLf.rd (fun b => F b ∧ b < w.heap.size) wr (lfC l LA LC) l from ⟨LA, LC, rfl, HLB.out⟩) (hal5))
                 (fun b hb _ => ⟨.inl hb, fun e => by have := HO.out.block b e.symm; omega⟩) hg5 hown5 hrow5)
             have HBw5 := Lib.hid (show Below (w.heap.size + 3) W3 w5 from (HBwr.out.alloc (by have := HBwr.out.size; have := HS3.out; simp; omega) (.cells #[.string ⟨l.path.toArray⟩, .slice LA l.data.length LC, .int .i64 l.ver, .int .i64 l.own, .int .i64 l.next, .int .i64 l.born] 50)).grown hg5 (by have := HBwr.out.size; have := HS3.out; simp; omega) (fun g hg => HO.out.block g hg))
             have hsz5 : w.heap.size + 3 ≤ w5.heap.size := by have := HBw5.out.size; have := HS3.out; omega
             clear hl5 hcl5 hou5 hin5 hown5 hg5 hnil5 hrow5 hal5
             have z0 := (HK0.out.below HBw5.out (by omega)).frozen 0
             have z2 := (HK2.out.below HBw5.out (by omega)).frozen 0
             have j0e : w5.cell? ⟨w.heap.size, 0, none⟩ = some (.slice A t.length c) := (HK0.out.below HBw5.out (by omega)).at_ rfl
             have j2 : w5.cell? ⟨w.heap.size + 2, 0, none⟩ = some (.slice none 0 0) := (HK2.out.below HBw5.out (by omega)).at_ rfl
             have hlt2 : w.heap.size + 2 < w5.heap.size := by omega
             have hlt0 : w.heap.size < w5.heap.size := by omega))
        have z0 := (HK0.out.below HBw5.out (by omega)).frozen 0
        have z2 := (HK2.out.below HBw5.out (by omega)).frozen 0
        have j0e : w5.cell? ⟨w.heap.size, 0, none⟩ = some (.slice A t.length c) := (HK0.out.below HBw5.out (by omega)).at_ rfl
        have j2 : w5.cell? ⟨w.heap.size + 2, 0, none⟩ = some (.slice none 0 0) := (HK2.out.below HBw5.out (by omega)).at_ rfl
        have hze : w.heap.size + 3 ≤ w5.heap.size := by have := HBw5.out.size; have := HS3.out; omega
        have hlt2 : w.heap.size + 2 < w5.heap.size := by omega
        have hlt0 : w.heap.size < w5.heap.size := by omega
        have HK2e := Lib.hid (HK2.out.below HBw5.out (by omega))
        have kk := (HK2e.out.far (p := ⟨w.heap.size, 0, none⟩) (by show w.heap.size + 2 ≠ w.heap.size; omega) (.slice A5 (n' + 1) C5)).set 0 (.slice A5 (n' + 1) C5)
        have g1 := grown_set (grown_refl w5 (some w.heap.size)) 0 (.slice A5 (n' + 1) C5)
        have g2 := grown_set (grown_refl (w5.setCell ⟨w.heap.size, 0, none⟩ (.slice A5 (n' + 1) C5)) (some (w.heap.size + 2))) 0 (.slice A5 (n' + 1) C5)
        have hbe : Below w.heap.size w w5 := HBB.out.trans (HBw5.out.mono (by omega))
        have hbf := (hbe.grown g1 hbe.size (fun g hg => by cases hg; omega)).grown g2 (by simp; omega) (fun g hg => by cases hg; omega)
        have hrr := (((HO5.out.rds (fun b hb => .inr hb)).keep (F' := fun b => F b ∧ b < w.heap.size ∨ w.heap.size + 3 ≤ b) (Kp.of_grown g1 fun b hb e => by injection e with e; omega) fun _ h _ => h).keep (F' := fun b => F b ∨ w.heap.size ≤ b) (Kp.of_grown g2 fun b hb e => by injection e with e; omega) fun b hb _ => hb.elim (fun h => .inl h.1) (fun h => .inr (by omega)))
        have hlen := HO5.out.len
        rw [HT.out] at hrr hlen
        refine bodyPost_ret_by (results_row1 rfl _ _ (w.heap.size + 2) 30 _ _ rfl kk Tryz.underlying30 rfl info_tree1) rfl ?_
        exact ⟨hbf, A5, C5, by rw [hlen]; rfl, hrr⟩
end Go.Proofs.YtgppclmofphlfaaGreatDoor
