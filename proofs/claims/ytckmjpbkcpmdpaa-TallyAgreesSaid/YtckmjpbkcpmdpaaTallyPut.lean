/-
  tally: Put of a vote that is taken. A walk over the plain words; no statement.
-/
import Derived.Test.YtckmjpbkcpmdpaaTallyPut3
import Derived.Deep.CutRange
import Derived.Deep.RegionLaw
namespace Go.Proofs.Ytckmjpbkcpmdpaa
open Go.RowKit Go.Sort Go.Shelf
set_option linter.unusedVariables false
set_option maxRecDepth 100000

set_option maxHeartbeats 6400000 in
theorem put_yes (a r : Int) (key load : List UInt8) (K : Option Addr) (kn kc : Nat) (L : Option Addr) (ln lc : Nat) (F : Nat → Prop) (g : Nat) (N : Int) (vs : List Vo) (w : World) (h : Tl w F g N vs) (ht : tyTakes N vs a r = true)
    (hK : Rd w K kn (key.map bv)) (hKF : ∀ b, K = some b → ¬ F b.block) (hL : Rd w L ln (load.map bv)) (hLF : ∀ b, L = some b → ¬ F b.block) (hkl : key.length ≤ 1099511627776) (hll : load.length ≤ 1099511627776) (hr : r ≤ 9223372036854775807) :
    Calls Try.prog 15 #[.pointer (some ⟨g, 0, none⟩), .int .i64 a, .int .i64 r, .slice K kn kc, .slice L ln lc] w (PutP F g N vs ⟨a, r, key, load⟩ w) := by
  have HTK := Lib.hid ht
  obtain ⟨hgd, xs, A, n, c, h, rfl⟩ := h
  have HGD := Lib.hid hgd
  rw [takes_iff] at ht
  have hb1 := (Below.refl w.heap.size w).alloc (Nat.le_refl _) (.cells #[.int .i64 a] 3)
  have HF0 := find_any a F g N xs A n c _ (h.kept hb1)
  unfold FoundP at HF0
  have HF := Lib.hid HF0
  have HB1 := Lib.hid hb1
  have HK1 := Lib.hid (Bk.new w 3 [.int .i64 a])
  have HT := Lib.hid h
  have HLTF := Lib.hid h.lt
  have HRK := Lib.hid (And.intro hK hKF)
  have HRL := Lib.hid (And.intro hL hLF)
  have HLN := Lib.hid (And.intro hkl (And.intro hll (show kn ≤ 1099511627776 ∧ ln ≤ 1099511627776 by have := hK.1; have := hL.1; simp only [List.length_map] at *; omega)))
  have hcs : 0 ≤ a ∧ a < N ∧ 0 ≤ r ∧ ((vcKnown xs a).isSome = false ∨ ((vcKnown xs a).isSome = true ∧ ((vcKnown xs a).getD default).v.rank < r)) := by
    simp only [Bool.and_eq_true, decide_eq_true_eq] at ht
    refine ⟨ht.1.1.1, ht.1.1.2, ht.1.2, ?_⟩
    cases e : vcKnown xs a with
    | none => exact .inl rfl
    | some x =>
      have h4 := ht.2
      rw [e] at h4
      exact .inr ⟨rfl, by simpa using h4⟩
  have HCS := Lib.hid (show 0 ≤ a ∧ a < N ∧ 0 ≤ r ∧ r ≤ 9223372036854775807 from ⟨hcs.1, hcs.2.1, hcs.2.2.1, hr⟩)
  have hn64 : (vcOthers a xs).length ≤ 64 := by have h1 := hgd.len; have h2 := vcOthers_len xs a; rw [List.length_map] at h1; omega
  have HN64 := Lib.hid hn64
  generalize (vcKnown xs a).getD default = x at *
  generalize (vcKnown xs a).isSome = b at *
  clear ht hgd HF0 hb1 h hK hKF hL hLF hkl hll hn64 hr
  go_enter Try.func15, Try.ntmps15
  go_wp2_with fail
  refine HF.out.mono ?_
  rintro e w2 ⟨rfl, hb2⟩
  have hk2 := HK1.out.kept hb2
  have hb3 := (below_next HB1.out hb2 HB1.out.size).alloc (below_next HB1.out hb2 HB1.out.size).size (.cells #[.int .i64 x.v.voter, .int .i64 x.v.rank, .slice x.ka x.kn x.kc, .slice x.la x.ln x.lc] 55)
  have hk3 := hk2.alloc (.cells #[.int .i64 x.v.voter, .int .i64 x.v.rank, .slice x.ka x.kn x.kc, .slice x.la x.ln x.lc] 55)
  have ho3 := Bk.new w2 55 [.int .i64 x.v.voter, .int .i64 x.v.rank, .slice x.ka x.kn x.kc, .slice x.la x.ln x.lc]
  have ht3 := HT.out.kept hb3
  obtain ⟨q0, q1⟩ := ht3.bk.two
  have hB := hk3.at_ (i := 0) rfl
  obtain ⟨_, o1, _, _⟩ := ho3.four
  have HB3 := Lib.hid hb3
  have HK3 := Lib.hid hk3
  have HT3 := Lib.hid ht3
  go_upto_region 2 with (fail)
  generalize hW : w2.alloc (.cells #[.int .i64 x.v.voter, .int .i64 x.v.rank, .slice x.ka x.kn x.kc, .slice x.la x.ln x.lc] 55) = W at q0 q1 hB o1 HB3 HK3 HT3 ⊢
  clear hW hb2 hk2 hb3 hk3 ho3 ht3 HF HT HB1 HK1
  have HDEL := Lib.hid (fun q => delete_votes a w.heap.size A n c xs (W.drewN q) HT3.out.row (HK3.out.at_ (i := 0) rfl) HK3.out.lt (fun b e e2 => by
    have h1 := (HT3.out.frow b e).1
    have hlt : b < w.heap.size := HLTF.out b h1
    omega))
  obtain ⟨h1, h2, h3, hcs⟩ := hcs
  have d1 : decide (a < 0) = false := by simp; omega
  have d2 : decide (N ≤ a) = false := by simp; omega
  have d3 : decide (r < 0) = false := by simp; omega
  clear h1 h2 h3
  go_cut [41] from 19 to 41 (fun s wx => s = .bool false ∧ ∃ q, wx = W.drewN q)
  case first =>
    rcases hcs with h4 | ⟨h4, h5⟩
    · subst h4
      go_wp2_with fail
      go_quiet (fail)
      go_wp2_with fail
      go_meet
      exact ⟨rfl, nq, rfl⟩
    · subst h4
      have d4 : decide (r ≤ x.v.rank) = false := by simp; omega
      clear h5
      go_wp2_with fail
      go_quiet (fail)
      go_wp2_with fail
      go_meet
      exact ⟨rfl, nq, rfl⟩
  case rest =>
    obtain ⟨rfl, nq, rfl⟩ := hcut
    clear hcs d1 d2 d3 q0 o1
    go_wp2_with fail
    refine (HDEL.out nq).mono ?_
    rintro e w4 ⟨n', rfl, ho4, hg4⟩
    have hl4 : (vcOthers a xs).length = n' := ho4.len
    have hg4' : W.grownBy w4 (Value.slice A n c).ownBlock := ⟨hg4.os, hg4.tape, hg4.output, hg4.size, hg4.block⟩
    have hne : ∀ b, (Value.slice A n c).ownBlock = some b → b ≠ g := fun b e => (HT3.out.frow b e).2
    have hbk4 := HT3.out.bk.grown hg4' (fun e => hne g e.symm rfl)
    have hk4 := HK3.out.grown hg4' (fun e => by
      have h1 := (HT3.out.frow _ e.symm).1
      have h2 := HLTF.out _ h1
      omega)
    have hne4 : (Value.slice A n' c).ownBlock = (Value.slice A n c).ownBlock := by cases A <;> rfl
    have c4 := hbk4.at_ (i := 1) rfl
    have f4 := hbk4.frozen 1
    have l4 := hbk4.lt
    have hbk5 := hbk4.set 1 (.slice A n' c)
    have hk5 := hk4.far (p := ⟨g, 1, none⟩) (fun e => by have h1 := HLTF.out g HT3.out.mine; have h2 : w.heap.size = g := e; omega) (.slice A n' c)
    have hc5 : Chg (fun i => i = g ∨ (Value.slice A n c).ownBlock = some i) W (w4.setCell ⟨g, 1, none⟩ (.slice A n' c)) :=
      Chg.set (Chg.grown (Chg.refl _ W) hg4' (fun b e => .inl (.inr e))) (.inl (.inl rfl)) 1 _
    have ho5 : OwnV (w4.setCell ⟨g, 1, none⟩ (.slice A n' c)) 0 A n' c (vcOthers a xs) :=
      Chg.ownV (F := fun i => i = g) (Chg.set (F := fun i => i = g) (g := g) (Chg.refl _ w4) (.inl rfl) 1 _) ho4 (fun b e e2 => hne b (by rw [← hne4]; exact e) e2)
    have HC5 := Lib.hid hc5
    have HO5 := Lib.hid ho5
    have HBK5 := Lib.hid hbk5
    have HK5 := Lib.hid hk5
    have HN := Lib.hid (And.intro hl4 (And.intro hne hne4))
    have hn' : n' ≤ 64 := by have := HN64.out; omega
    clear ho4 hg4 hg4' hk4 hc5 ho5 hl4 hne hbk4 hne4 hB q1 hbk5 hk5
    go_upto_region 5 with (fail)
    generalize hW5 : w4.setCell ⟨g, 1, none⟩ (.slice A n' c) = w5 at HC5 HO5 HBK5 HK5 ⊢
    clear hW5 c4 f4 l4
    have q5 : w5.cell? ⟨g, 1, none⟩ = some (.slice A n' c) := HBK5.out.at_ rfl
    have b5 : w5.cell? ⟨w.heap.size, 0, none⟩ = some (.int .i64 a) := HK5.out.at_ rfl
    have l5 := HBK5.out.lt
    have m5 := HK5.out.lt
    have hrk5 : Rd w5 K kn (key.map bv) := HC5.out.rd (HRK.out.1.below HB3.out) (fun b e _ q => by
      have h1 := HRK.out.2 b e
      rcases q with q | q
      · exact h1 (by rw [q]; exact HT3.out.mine)
      · exact h1 (HT3.out.frow _ q).1)
    have hrl5 : Rd w5 L ln (load.map bv) := HC5.out.rd (HRL.out.1.below HB3.out) (fun b e _ q => by
      have h1 := HRL.out.2 b e
      rcases q with q | q
      · exact h1 (by rw [q]; exact HT3.out.mine)
      · exact h1 (HT3.out.frow _ q).1)
    have HCK := Lib.hid (show ∀ X, Below w5.heap.size w5 X → Calls Try.prog 32 #[.slice K kn kc] X (fun e w' => ∃ A n c, e = .returned (.slice A n c) ∧ OwnB w' w5.heap.size A n c key ∧ Below w5.heap.size w5 w' ∧ Below X.heap.size X w') from
      fun X hX => (clone_any K kn kc key X (hrk5.below hX) HLN.out.2.2.1).mono fun e w' ⟨A, n, c, he, ho, hb⟩ => ⟨A, n, c, he, ho.more hX.size, below_next hX hb hX.size, hb⟩)
    have HCL := Lib.hid (show ∀ X, Below w5.heap.size w5 X → Calls Try.prog 32 #[.slice L ln lc] X (fun e w' => ∃ A n c, e = .returned (.slice A n c) ∧ OwnB w' w5.heap.size A n c load ∧ Below w5.heap.size w5 w' ∧ Below X.heap.size X w') from
      fun X hX => (clone_any L ln lc load X (hrl5.below hX) HLN.out.2.2.2).mono fun e w' ⟨A, n, c, he, ho, hb⟩ => ⟨A, n, c, he, ho.more hX.size, below_next hX hb hX.size, hb⟩)
    have hw := Below.refl w5.heap.size w5
    have HMID := Lib.hid (fun (w7 w8 : World) A6 n6 c6 A7 n7 c7 A8 c8 hw fo6 fo7 hown hg8 hrow => mid_put (w7 := w7) (w8 := w8) (A6 := A6) (n6 := n6) (c6 := c6) (A7 := A7) (n7 := n7) (c7 := c7) (A8 := A8) (c8 := c8) (v := ⟨a, r, key, load⟩) HT3.out HB3.out HC5.out HBK5.out HN.out.1 HN.out.2.2 hw fo6 fo7 hown hg8 hrow)
    have HNG := Lib.hid (show some g ≠ (Value.slice A n' c).ownBlock from fun e => HN.out.2.1 g (by rw [← HN.out.2.2]; exact e.symm) rfl)
    have HNB := Lib.hid (show some w.heap.size ≠ (Value.slice A n' c).ownBlock from fun e => by
      rw [HN.out.2.2] at e
      have h1 := HLTF.out _ (HT3.out.frow _ e.symm).1
      omega)
    have HNGB := Lib.hid (show w.heap.size ≠ (⟨g, 1, none⟩ : Addr).block from fun e => by have h1 := HLTF.out g HT3.out.mine; have h2 : w.heap.size = g := e; omega)
    clear hrk5 hrl5 HDEL HRK HRL HT3 HC5 HN HB3 HLTF HK3
    go_cut [] from 51 to 66 (fun wx => MidP F g N xs ⟨a, r, key, load⟩ w wx)
    case first =>
      clear HTK HGD HLN HCS HNB HNGB HN64
      obtain ⟨i0, hi, hz0, hz1, hz2⟩ := info_parts info_vote
      go_region_law (first
        | (refine step_append_own rfl (.tmp 55) (.tmp 63) 49 rfl 0 55 i0 _ 4 64 Try.underlying49 hi hz0 hz1 hz2 rfl (by omega) A n' c (vcc (vcOthers a xs)) rfl (World.ownsRow.alloc (HO5.out.below hw) _) ⟨w7.heap.size, 0, none⟩ 1 1 [.int .i64 a, .int .i64 r, .slice A6 n6 c6, .slice A7 n7 c7] rfl rfl
             (vote_cells w7 ⟨⟨a, r, key, load⟩, A6, n6, c6, A7, n7, c7⟩ 55) (by simp [Value.oneCell']) (by simp only [maxLen]; omega) (by omega) (Nat.zero_le _) (by omega) ?_
           intro A8 c8 w8 hown8 hg8 hrow8
           have hk8 := ((HBK5.out.kept hw).alloc (.cells #[.int .i64 a, .int .i64 r, .slice A6 n6 c6, .slice A7 n7 c7] 55)).grown hg8.out HNG.out
           have u8 := hk8.frozen 1
           have y8 : w8.cell? ⟨g, 1, none⟩ = some (.slice A n' c) := hk8.at_ rfl
           have HM := Lib.hid (HMID.out w7 w8 A6 n6 c6 A7 n7 c7 A8 c8 hw fo6 fo7 (by unfold OwnV; rw [vcc_append]; exact hown8.out) hg8.out (by simpa using hrow8.out))
           clear hk8 hown8 hg8 hrow8 fo6 fo7)
        | (go_simp
           go_at_call 32
           with_reducible refine (HCK.out _ ?_).mono ?_
           focus first | with_reducible exact hw | with_reducible exact below_drew hw
           rintro e w6 ⟨A6, n6, c6, rfl, fo6, hw', hx6⟩
           have q6 : w6.cell? ⟨g, 1, none⟩ = some (.slice A n' c) := (HBK5.out.kept hw').at_ rfl
           have b6 : w6.cell? ⟨w.heap.size, 0, none⟩ = some (.int .i64 a) := (HK5.out.kept hw').at_ rfl
           have l6 := (HBK5.out.kept hw').lt
           have m6 := (HK5.out.kept hw').lt
           replace hw := hw'
           clear hw' hx6 q5 b5 l5 m5)
        | (go_simp
           go_at_call 32
           with_reducible refine (HCL.out _ ?_).mono ?_
           focus first | with_reducible exact hw | with_reducible exact below_drew hw
           rintro e w7 ⟨A7, n7, c7, rfl, fo7, hw', hx7⟩
           replace fo6 := fo6.below hx7
           have q7 : w7.cell? ⟨g, 1, none⟩ = some (.slice A n' c) := (HBK5.out.kept hw').at_ rfl
           have b7 : w7.cell? ⟨w.heap.size, 0, none⟩ = some (.int .i64 a) := (HK5.out.kept hw').at_ rfl
           have l7 := (HBK5.out.kept hw').lt
           have m7 := (HK5.out.kept hw').lt
           replace hw := hw'
           clear hw' hx7 q6 b6 l6 m6))
      all_goals
        go_wp2_with fail
        go_meet
        exact HM.out
    case rest =>
      obtain ⟨A6, n6, c6, A7, n7, c7, A8, c8, F9, hT9, hc9, hF9⟩ := hcut
      have HAR := Lib.hid (arrange_any F9 g N _ A8 _ c8 wc hT9 (by omega) (by have := HN64.out; show (vcOthers a xs).length + 1 < _; omega) (ids_more (x := ⟨⟨a, r, key, load⟩, A6, n6, c6, A7, n7, c7⟩) HGD.out.ids))
      have HC9 := Lib.hid (And.intro hc9 hF9)
      clear hT9 hc9 hF9 HMID HCK HCL hw HBK5 HK5 HO5 q5 b5 l5 m5
      go_wp2_with fail
      refine HAR.out.mono ?_
      rintro e w10 ⟨rfl, ys, hp, hso, hT10, hc10⟩
      have HEND := Lib.hid (put_end (x := ⟨⟨a, r, key, load⟩, A6, n6, c6, A7, n7, c7⟩) HGD.out HTK.out ⟨HCS.out.1, HCS.out.2.1, HCS.out.2.2.1, HCS.out.2.2.2, HLN.out.1, HLN.out.2.1⟩ HC9.out.1 HC9.out.2 hp hso hT10 hc10)
      clear hp hso hT10 hc10
      go_wp2_with fail
      go_ret
      exact HEND.out
theorem put_any (a r : Int) (key load : List UInt8) (K : Option Addr) (kn kc : Nat) (L : Option Addr) (ln lc : Nat) (F : Nat → Prop) (g : Nat) (N : Int) (vs : List Vo) (w : World) (h : Tl w F g N vs)
    (hK : Rd w K kn (key.map bv)) (hKF : ∀ b, K = some b → ¬ F b.block) (hL : Rd w L ln (load.map bv)) (hLF : ∀ b, L = some b → ¬ F b.block) (hkl : key.length ≤ 1099511627776) (hll : load.length ≤ 1099511627776) (hr : r ≤ 9223372036854775807) :
    Calls Try.prog 15 #[.pointer (some ⟨g, 0, none⟩), .int .i64 a, .int .i64 r, .slice K kn kc, .slice L ln lc] w (PutP F g N vs ⟨a, r, key, load⟩ w) := by
  cases ht : tyTakes N vs a r with
  | true => exact put_yes a r key load K kn kc L ln lc F g N vs w h ht hK hKF hL hLF hkl hll hr
  | false => exact put_no a r key load K kn kc L ln lc F g N vs w h ht
end Go.Proofs.Ytckmjpbkcpmdpaa
