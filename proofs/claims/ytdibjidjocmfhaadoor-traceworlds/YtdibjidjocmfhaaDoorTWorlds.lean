/- For all lists of numbers and counts: a world tells its numbers, then noughts, however often it is asked: the statement TraceWorlds returns true. Conditions: the three tables of the library that the row lists start as the program's text lays them (the card ties them). -/
import Derived.Test.YtdibjidjocmfhaaDoorTFrame
import Derived.Deep.DeepCutAuto
import Derived.Laws.AppendOwnNone
namespace Go.Proofs.YtdibjidjocmfhaaDoor
open Go.ChangeShapes Go.WideShapes Go.ChangeAt Go.RowKit Go.Joins Go.Deep Pl
set_option linter.unusedSimpArgs false
set_option linter.unusedVariables false

set_option maxHeartbeats 4000000 in
theorem traceWorlds_long (a : Option Addr) (n cap : Nat) (m : Int) (w : World) (HT : Hid (Tab w)) (hn : (n : Int) ≤ 9223372036854775807) (h : 1000 < (n : Int) ∨ m < 0 ∨ 2000 < m) :
    Calls Tryd.prog 4 #[.slice a n cap, .int .i64 m] w (retP (.bool true) w) := by
  by_cases h1 : 1000 < (n : Int)
  · clear h
    go_enter Tryd.func4, Tryd.ntmps4
    go_wp2_with fail
    refine (awake_any _ HT.out).mono ?_
    rintro e w1 ⟨rfl, hb1⟩
    go_wp2
    go_ret
    exact ⟨rfl, hb1⟩
  by_cases h2 : m < 0
  · clear h
    go_enter Tryd.func4, Tryd.ntmps4
    go_wp2_with fail
    refine (awake_any _ HT.out).mono ?_
    rintro e w1 ⟨rfl, hb1⟩
    go_wp2
    go_ret
    exact ⟨rfl, hb1⟩
  have h3 : 2000 < m := by omega
  clear h
  go_enter Tryd.func4, Tryd.ntmps4
  go_wp2_with fail
  refine (awake_any _ HT.out).mono ?_
  rintro e w1 ⟨rfl, hb1⟩
  go_wp2
  go_ret
  exact ⟨rfl, hb1⟩
/-- A store into an older block leaves a world of numbers as it is. -/
theorem WorldAt.other {B p g o : Nat} {w : World} {l : List Int} {u : Int} {v : Value} (h : WorldAt B w p l u) (hg : g < B) : WorldAt B (w.setCell ⟨g, o, none⟩ v) p l u := by
  obtain ⟨h1, v1, h2, h3, h4⟩ := h
  have one : ∀ k, B ≤ k → (w.setCell ⟨g, o, none⟩ v).heap[k]? = w.heap[k]? := fun k hk => Below.heap_setCell _ _ _ _ (fun e => by have : k = g := e; omega)
  refine ⟨h1, v1, by rw [one p h1]; exact h2, ⟨h3.1, ?_⟩, h4⟩
  rcases h3.2 with h5 | ⟨g', cap, cur, e1, e2, e3, e4⟩
  · exact Or.inl h5
  · exact Or.inr ⟨g', cap, cur, e1, e2, by rw [one g' e2]; exact e3, e4⟩
set_option maxHeartbeats 8000000 in
theorem traceWorlds_short (a : Option Addr) (n cap m : Nat) (l : List Int) (w : World) (HT : Hid (Tab w)) (HN : Hid (l.length = n)) (hn : n ≤ 1000) (hm : m ≤ 2000) (HC : Hid (InL w a l)) (hz : a = none → n = 0 ∧ cap = 0) :
    Calls Tryd.prog 4 #[.slice a n cap, .int .i64 m] w (retP (.bool true) w) := by
  obtain ⟨i0, hi, hz0, hz1, hz2⟩ : ∃ i0, Tryd.prog.info? 2 = some i0 ∧ i0.zero = some (.int .i64 0) ∧ i0.size = 1 ∧ i0.bytes = 8 := info_parts (by kernel_rfl)
  have h1 : ¬ 1000 < (n : Int) := by omega
  have h2 : ¬ (m : Int) < 0 := by omega
  have h3 : ¬ 2000 < (m : Int) := by omega
  have HZ : Hid (a = none → n = 0 ∧ cap = 0) := hz
  clear hz
  go_enter Tryd.func4, Tryd.ntmps4
  go_wp2_with fail
  refine (awake_any _ HT.out).mono ?_
  rintro e w1 ⟨rfl, hb1⟩
  have HB1 : Hid (Below w.heap.size w w1) := hb1
  clear hb1
  go_upto_region 5 with fail
  go_cut [5] (fun c wx => ∃ g cap', c = .slice (some ⟨g, 0, none⟩) n cap' ∧ Hid (wx.ownsRow w1.heap.size 2 1 (.slice (some ⟨g, 0, none⟩) n cap') n (intC l)) ∧ Hid (Below w1.heap.size w1 wx))
  case first =>
    cases a with
    | none =>
      obtain ⟨rfl, rfl⟩ := HZ.out rfl
      have hl : l = [] := List.eq_nil_of_length_eq_zero HN.out
      subst hl
      go_wp2_with (at_builtin; refine wpList_append_own_none rfl _ _ 31 rfl w1.heap.size 2 i0 1 Tryd.underlying31 hi _ 0 [] rfl (World.ownsRow_made w1 #[] 0 (Nat.le_refl _) (by simp) rfl) rfl ?_)
      go_meet
      case rel => exact ⟨_, 0, rfl, World.ownsRow_made w1 #[] 0 (Nat.le_refl _) (by simp) rfl, by show Below _ _ _; exact (Below.refl w1.heap.size w1).alloc (Nat.le_refl _) _⟩
    | some ad =>
      go_wp2_with (at_builtin; refine wpList_append_own _ rfl _ _ 31 rfl w1.heap.size 2 i0 (.int .i64 0) 1 8 Tryd.underlying31 hi hz0 hz1 hz2 rfl (by decide) _ 0 [] rfl (World.ownsRow_made w1 #[] 0 (Nat.le_refl _) (by simp) rfl) ad n cap (intC l) rfl (by rw [intC_length, Nat.mul_one]; exact HN.out) ?c1 ?c2 ?c3 ?c4 ?c5 ?_)
      case c1 =>
        intro j u hj
        simp only [intC, List.getElem?_map, Option.map_eq_some_iff] at hj
        obtain ⟨x, hx, rfl⟩ := hj
        obtain ⟨b, off, e, hc⟩ := HC.out (fun e => by rw [e] at hx; simp at hx)
        obtain rfl := Option.some.inj e
        rw [add_plain]
        exact keep_alloc (keep_cell HB1.out (hc j x hx)) _
      case c2 => intro u hu; simp only [intC, List.mem_map] at hu; obtain ⟨x, _, rfl⟩ := hu; rfl
      case c3 => unfold maxLen; omega
      case c4 => omega
      case c5 => simp
      intro c w2 hown' hgrow hnn
      obtain ⟨g, cap', hc⟩ : ∃ g cap', c = .slice (some ⟨g, 0, none⟩) n cap' := by
        rcases hown'.2 with ⟨e1, _⟩ | ⟨g, cap', cur, e1, _⟩
        · exact absurd e1 hnn
        · exact ⟨g, cap', e1⟩
      subst hc
      have HO : Hid (w2.ownsRow w1.heap.size 2 1 (.slice (some ⟨g, 0, none⟩) n cap') n (intC l)) := hown'
      have HB2 : Hid (Below w1.heap.size w1 w2) := by
        show Below _ _ _
        exact ((Below.refl w1.heap.size w1).alloc (Nat.le_refl _) _).grown hgrow (by simp) (fun k hk => by simp [Value.ownBlock] at hk; omega)
      clear hown' hgrow hnn
      go_wp2
      go_meet
      case rel => exact ⟨g, cap', rfl, HO, HB2⟩
  case rest =>
    obtain ⟨g, cap', rfl, HO, HB2⟩ := hcut
    rename World => w2
    have HW2 : Hid (Below w.heap.size w w2) := bel_trans HB1.out HB2.out
    have HI : Hid (InAt w2 (.slice (some ⟨g, 0, none⟩) n cap') l) := by
      show InAt _ _ _
      have h := HO.out
      rw [← HN.out] at h ⊢
      exact own_ints h
    have HCU : Hid (∃ cur, w2.heap[g]? = some (.cells cur 2 (0, 0)) ∧ n ≤ cur.size) := by
      rcases HO.out.2 with ⟨e1, _⟩ | ⟨g', cap2, cur, e1, e2, e3, e4, e5, e6, e7⟩
      · cases e1
      · cases e1
        exact ⟨cur, e3, by omega⟩
    have hg1 : w1.heap.size ≤ g ∧ g < w2.heap.size := HO.out.lt g rfl
    have z1 := HB1.out.size
    clear HO HZ
    go_wp2_with fail
    refine (new_any HI.out (by rw [HN.out]; omega) (by simp)).mono ?_
    rintro e w3 ⟨p, rfl, hw3, hb3⟩
    have HP3 : Hid (WorldAt w2.heap.size w3 p l 0) := hw3
    have HB3 : Hid (Below w.heap.size w w3) := bel_trans HW2.out hb3
    have HC3 : Hid (∃ cur, w3.heap[g]? = some (.cells cur 2 (0, 0)) ∧ n ≤ cur.size) := by
      obtain ⟨cur, h1, h2⟩ := HCU.out
      exact ⟨cur, heap_keep hb3 h1, h2⟩
    have z2 := HW2.out.size
    clear hw3 hb3 HI HCU HW2 HB1 HB2
    go_wp2
    go_loopw [7] (fun v wr => ∃ i : Nat, i ≤ n ∧ v = .int .i64 i ∧ Hid (WorldAt w2.heap.size wr p l 0) ∧ Hid (Below w.heap.size w wr) ∧ Hid (∃ cur, wr.heap[g]? = some (.cells cur 2 (0, 0)) ∧ n ≤ cur.size)) (fun v _ => n - (intOf v).toNat)
    case atStart => exact ⟨0, by omega, rfl, HP3, HB3, HC3⟩
    case round =>
      clear HP3 HB3 HC3
      obtain ⟨i, hin, rfl, HP, HB, HCU⟩ := hrel
      by_cases hlt : i < n
      · have j0 : (0 : Int) ≤ i := by omega
        have j1 : (i : Int) < n := by omega
        obtain ⟨cur, c1, c2⟩ := HCU.out
        obtain ⟨old, ho⟩ : ∃ old, wr.cell? ⟨g, i, none⟩ = some old := by
          rw [Lib.cell_of_heap c1]
          exact ⟨cur[i]'(by omega), Array.getElem?_eq_getElem (by omega)⟩
        have hf : wr.frozen? ⟨g, i, none⟩ = false := Lib.frozen_of_heap c1 i
        have HC1 : Hid (∃ cur, (wr.setCell ⟨g, i, none⟩ (.int .i64 99)).heap[g]? = some (.cells cur 2 (0, 0)) ∧ n ≤ cur.size) := ⟨_, heap_setCell_same wr g i _ _ _ c1, by simpa using c2⟩
        clear c1 c2 cur HCU
        go_wp2
        go_roundw
        case rel => exact ⟨i + 1, by omega, by simp, WorldAt.other HP.out hg1.2, by show Below _ _ _; exact HB.out.setCell (p := ⟨g, i, none⟩) (by show _ ≤ g; omega) _, HC1⟩
        case measure => simp [intOf]; omega
      · clear HCU
        go_wp2
        clear hlt hin
        go_loopw [8] (fun v wr => ∃ i : Nat, i ≤ m ∧ v = .int .i64 i ∧ Hid (WorldAt w2.heap.size wr p l i) ∧ Hid (Below w.heap.size w wr)) (fun v _ => m - (intOf v).toNat)
        case atStart => exact ⟨0, by omega, rfl, HP, HB⟩
        case round =>
          clear HP HB
          obtain ⟨i, him, rfl, HP, HB⟩ := hrel
          by_cases hlt : i < m
          · have j0 : (0 : Int) ≤ i := by omega
            have j1 : (i : Int) < m := by omega
            have hnx := next_any HP.out (by omega) (by rw [HN.out]; omega)
            obtain ⟨x, hx⟩ : ∃ x, l.getD i 0 = x := ⟨_, rfl⟩
            rw [hx] at hnx
            have HNX : Hid (Calls Tryd.prog 16 #[.pointer (some ⟨p, 0, none⟩)] wr fun e w' => e = .returned (.int .i64 x) ∧ WorldAt w2.heap.size w' p l ((i + 1 : Nat) : Int) ∧ w' = wr.setCell ⟨p, 1, none⟩ (.int .i64 ((i : Int) + 1))) := hnx
            have HX : Hid (l.getD i 0 = x) := hx
            clear hnx hx
            have hpw : w.heap.size ≤ p := by have := HP.out.1; omega
            by_cases hil : i < n
            · have j2 : (i : Int) < n := by omega
              have hget := List.getElem?_eq_getElem (l := l) (show i < l.length by rw [HN.out]; exact hil)
              obtain ⟨b, off, rfl, hc⟩ := HC.out (fun e => by have := HN.out; rw [e] at this; simp at this; omega)
              have c0 : wr.cell? ⟨b, off + i, none⟩ = some (.int .i64 x) := by
                have := keep_cell HB.out (hc i _ hget)
                rw [this, ← HX.out, List.getD_eq_getElem?_getD, hget]; rfl
              clear hc hget
              go_wp2_with fail
              refine (used_any HP.out).mono ?_
              rintro e w' ⟨rfl, hw'⟩
              replace hw' := hw'.symm
              subst hw'
              go_wp2_with fail
              refine HNX.out.mono ?_
              rintro e w5 ⟨rfl, hw5, hs5⟩
              have HB5 : Hid (Below w.heap.size w w5) := by show Below _ _ _; rw [hs5]; exact HB.out.setCell (p := ⟨p, 1, none⟩) hpw _
              have HP5 : Hid (WorldAt w2.heap.size w5 p l ((i + 1 : Nat) : Int)) := hw5
              clear hw5 hs5 HNX
              go_wp2
              go_roundw
              case rel => exact ⟨i + 1, by omega, by simp, HP5, HB5⟩
              case measure => simp [intOf]; omega
            · have j2 : ¬ (i : Int) < n := by omega
              have hx0 : x = 0 := by rw [← HX.out, List.getD_eq_getElem?_getD, List.getElem?_eq_none (by rw [HN.out]; omega)]; rfl
              subst hx0
              go_wp2_with fail
              refine (used_any HP.out).mono ?_
              rintro e w' ⟨rfl, hw'⟩
              replace hw' := hw'.symm
              subst hw'
              go_wp2_with fail
              refine HNX.out.mono ?_
              rintro e w5 ⟨rfl, hw5, hs5⟩
              have HB5 : Hid (Below w.heap.size w w5) := by show Below _ _ _; rw [hs5]; exact HB.out.setCell (p := ⟨p, 1, none⟩) hpw _
              have HP5 : Hid (WorldAt w2.heap.size w5 p l ((i + 1 : Nat) : Int)) := hw5
              clear hw5 hs5 HNX
              go_wp2
              go_roundw
              case rel => exact ⟨i + 1, by omega, by simp, HP5, HB5⟩
              case measure => simp [intOf]; omega
          · have hie : i = m := by omega
            subst hie
            go_wp2_with fail
            refine (used_any HP.out).mono ?_
            rintro e w' ⟨rfl, hw'⟩
            replace hw' := hw'.symm
            subst hw'
            go_wp2
            go_ret
            exact ⟨by simp, HB.out⟩
theorem open_ints1 {H : Type} {enc : TypeId × Value → H} {w : World} {a0 : Option Addr} {len cap : Nat} {d : DataW H} {p : List MemPlace} (h : DataW.Trod enc Tryd.prog w 0 (fun _ => true) true 31 (.slice a0 len cap) d p) :
    (len : Int) ≤ 9223372036854775807 ∧ (a0 = none → len = 0 ∧ cap = 0) ∧ ∃ l : List Int, l.length = len ∧ InL w a0 l := by
  obtain ⟨fuel, hf⟩ := h
  rcases open_slice Tryd.underlying31 hf with ⟨hcs, _⟩ | ⟨a, len', cap', m, n, D, Pl, hcs, hb, hl, hm, hmm, hx, hall⟩
  · simp [Value.cells] at hcs
    obtain ⟨rfl, rfl, rfl⟩ := hcs
    exact ⟨by omega, fun _ => ⟨rfl, rfl⟩, [], rfl, fun h => absurd rfl h⟩
  · simp [Value.cells] at hcs
    obtain ⟨rfl, rfl, rfl⟩ := hcs
    have hlm : len ≤ m := by rw [hmm]; split <;> omega
    have each : ∀ i, i < m → ∃ x : Int, w.cell? (a.add i) = some (.int .i64 x) := fun i hi => by
      obtain ⟨cs', h1, h2⟩ := hall i hi
      rw [cells2', Nat.mul_one] at h1
      obtain ⟨_, hlen, hcell⟩ := World.cells?_some h1
      have q0 := hcell 0 (by omega)
      rw [add_add, Nat.add_zero] at q0
      match cs', hlen with
      | [c], _ =>
        obtain ⟨x, e, _, _⟩ := DataW.trod_int Tryd.underlying2 h2
        simp at e
        subst e
        exact ⟨x, q0⟩
    obtain ⟨E, hE⟩ := choose_lt each
    refine ⟨by unfold maxLen at hm; omega, (fun h => by cases h), (List.range len).map E, by simp, fun hne => ?_⟩
    have hpos : 0 < len := by
      rcases Nat.eq_zero_or_pos len with h0 | h0
      · exact absurd (by rw [h0]; rfl) hne
      · exact h0
    have ha := spot_none (hE 0 (by omega))
    refine ⟨a.block, a.off, by rw [← ha], fun i y hy => ?_⟩
    obtain ⟨hi, rfl⟩ := getElem?_map_range E hy
    have := hE i (by omega)
    rw [ha, add_plain] at this
    exact this
theorem traceWorlds_walk {H : Type} {enc : TypeId × Value → H} {W : World} {base : Nat} {v0 : Value} {d0 : DataW H} {p0 : List MemPlace} (hv : Value.okWide Tryd.prog W .any base 31 v0) (h0 : DataW.Trod enc Tryd.prog W 0 (fun _ => true) true 31 v0 d0 p0) (m : Int) (ht : Tab W) :
    Calls Tryd.prog 4 #[v0, .int .i64 m] W (retP (.bool true) W) := by
  obtain ⟨a, n, cap, rfl⟩ := okWide_slice Tryd.underlying31 hv
  obtain ⟨hn, hz, l, hl, hi⟩ := open_ints1 h0
  by_cases h : 1000 < (n : Int) ∨ m < 0 ∨ 2000 < m
  · exact traceWorlds_long a n cap m W ht hn h
  · obtain ⟨k, rfl⟩ : ∃ k : Nat, m = k := ⟨m.toNat, by omega⟩
    exact traceWorlds_short a n cap k l W ht hl (by omega) (by omega) hi hz

set_option maxRecDepth 100000 in
theorem traceWorlds_lifted (os : Os) (started : os.Started) (H : Type) (enc : TypeId × Value → H) :
    ReturnsInHanded {} Tryd.checked os 4 .any (fun w args => (Rows.traceWorldsSpec.pre enc Tryd.prog Tryd.f4 [] false w args ∧ laidMetH Tryd.prog laid3 w) ∧ sizedMet enc Tryd.prog Tryd.f4 (OpenSpec.ofChange Rows.traceWorldsSpec) false w args)
      (Rows.traceWorldsSpec.post enc Tryd.prog Tryd.f4 false true false false) := by
  refine returnsInHanded_of_change_and (C := Tryd.checked) (X := fun w _ => laidMetH Tryd.prog laid3 w) (fun _ _ _ hh h => h.of_heap hh) own started (by kernel_rfl) Tryd.func4
    (ChangeSpec.witness_shaped (enc := enc) (C := Tryd.checked) (os := os) (X := fun w _ => laidMetH Tryd.prog laid3 w) false (World.doorLaid Tryd.prog 400 os) #[.slice none 0 0, .int .i64 0] 8 rfl (World.shaped_of_RefB (by kernel_rfl) (by kernel_rfl)) (by kernel_rfl) (by kernel_rfl) (by kernel_rfl) (door_met os _)) ?_
  intro W base args ds gs before hval0 hW _ _ hL _
  have hval : ∀ (j : Nat) t v, Tryd.f4.params[j]? = some t → args[j]? = some v → Value.okWide Tryd.prog W .any base t v := hval0
  have hW' := hW
  obtain ⟨p, q, hA0, hV, rfl, hfz, hnd⟩ := hW
  have hA : DataW.TrodAll enc Tryd.prog W 0 (fun _ => true) true Tryd.f4.params.toList args.toList ds p := hA0
  rw [Tryd.params4] at hA hval
  obtain ⟨v0, vs0, d0, ds0, p0, q0, hargs, rfl, rfl, h0, r0⟩ := trodAll_cons hA
  obtain ⟨v1, vs1, d1, ds1, p1, q1, rfl, rfl, rfl, h1, r1⟩ := trodAll_cons r0
  obtain ⟨rfl, rfl, rfl⟩ := trodAll_nil r1
  obtain rfl : args = #[v0, v1] := by cases args; simp_all
  obtain ⟨rfl, rfl⟩ := trodVars_none hV
  have hlt0 : ∀ x ∈ p0, x.block < W.heap.size := fun x hx => by simpa using hW'.lt x (by simp [hx])
  have hargs0 : ∀ (W' : World), Below W.heap.size W W' → DataW.Trod enc Tryd.prog W' 0 (fun b => decide (b < W.heap.size)) true 31 v0 d0 p0 := fun W' hn => Below.trod laidOut (by kernel_rfl) (of_decide_eq_true (by kernel_rfl)) h0 hn hlt0
  obtain ⟨a1, rfl, rfl, rfl, x1⟩ := open_int Tryd.underlying3 (hval 1 3 v1 rfl rfl) h1
  have hv0 := hval 0 31 v0 rfl rfl
  clear hA0 hval0
  simp only [List.append_nil] at hW'
  refine (traceWorlds_walk hv0 h0 a1 (tab_of_laid hL)).mono fun e W' ⟨he, hb⟩ => ?_
  subst he
  exact ⟨_, rfl, _, _, _, [], _, [], hW', (trodAll_cons_mk (shut_bool Tryd.underlying4 _) trodAll_mk0), (trodAll_cons_mk (hargs0 _ hb) (trodAll_cons_mk (shut_int Tryd.underlying3 x1) trodAll_mk0)), rfl, hb.frame _, fun h => by cases h⟩

theorem traceWorlds_row : Rows.TraceWorldsSaid :=
  OpenClaim.holds_of_wide 4 Tryd.f4 rfl rfl rfl rfl rfl rfl rfl ⟨rfl, rfl, rfl, rfl, rfl⟩ rfl rfl rfl rfl rfl (by kernel_rfl) Tryd.func4 (by kernel_rfl)
    (of_decide_eq_true (by kernel_rfl)) (by unfold Func.isWrapper; first | (rw [if_pos (by decide +kernel)]; kernel_rfl) | (rw [if_neg (by decide +kernel)]; exact ⟨rfl, rfl⟩))
    (fun os started H enc _ => traceWorlds_lifted os started H enc)

/-- THE STATEMENT. -/
theorem traceWorlds_holds : Rows.TraceWorldsCardSaid :=
  Claim7.holds_tied_plain_at .later [] [.data, .data, .data] true (true, "1eda6df1707c50841f6cd8d75dc7a6165e0984391ccf47f29fcd572f8f1e9166") false
    traceWorlds_row (fun _ h => by cases h) (by kernel_rfl) (fun _ h => by cases h) traceWorlds_row_tie rfl ⟨rfl, rfl⟩ (by kernel_rfl) rfl
    (fun f fn hf hfn => by
      obtain rfl : f = 4 := Option.some.inj ((show Tryd.prog.funcNamed "plumbob/plumboblaw3.TraceWorlds" = some 4 by kernel_rfl).symm.trans hf) |>.symm
      obtain rfl : fn = Tryd.f4 := (Option.some.inj (Tryd.func4.symm.trans hfn)).symm
      exact ⟨by kernel_rfl, fun j t ht => by
        rw [Tryd.params4] at ht
        have hm : t ∈ [31, 3] := by simpa using Array.mem_of_getElem? ht
        have hall : ([31, 3].all fun u => !Tryd.prog.wantsStandIn u) = true := by kernel_rfl
        exact (show Tryd.prog.wantsStandIn t = false by simpa using List.all_eq_true.1 hall t hm)⟩)
    (by kernel_rfl)
#print axioms traceWorlds_holds

end Go.Proofs.YtdibjidjocmfhaaDoor
