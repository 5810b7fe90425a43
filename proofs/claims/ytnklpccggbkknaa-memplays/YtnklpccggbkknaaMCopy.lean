/- Contract of Copy. -/
import Derived.Test.YtnklpccggbkknaaMOwn
namespace Go.Proofs.Ytnklpccggbkknaa
open Go.ChangeShapes Go.WideShapes Go.ChangeAt Go.RowKit Pl
set_option linter.unusedSimpArgs false
set_option linter.unusedVariables false

/-- The rounds of Copy: the first i blocks have pages of their own. -/
structure CpR (w : World) (P g cap : Nat) (cur : Array Value) (M : List AB) (i : Nat) (wr : World) (cur2 : Array Value) (R2 : Nat → Option Role) : Prop where
  bel : Below w.heap.size w wr
  hp : wr.heap[P]? = some (.cells #[.slice (some ⟨g, 0, none⟩) M.length cap, .int .i64 (live M)] 64 (0, 0))
  row : wr.heap[g]? = some (.cells cur2 68 (0, 0))
  sz : cur2.size = cap * 4
  done : ∀ k ab, k < i → M[k]? = some ab → BlkOk wr R2 cur2 k ab
  left : ∀ o, i * 4 ≤ o → o < M.length * 4 → cur2[o]? = cur[o]?
  rp : R2 P = some .mem
  rg : R2 g = some .rows
  rng : ∀ x, R2 x ≠ none → w.heap.size ≤ x ∧ x < wr.heap.size
theorem own_step {w wr : World} {base p : Nat} {R R2 : Nat → Option Role} {a : Option Addr} {cap0 g0 P g cap i : Nat} {cur cur2 : Array Value} {M : List AB} {ab : AB} (h : MemIs w base p R a cap0 g0 cur M) (hab : M[i]? = some ab)
    (hc : CpR w P g cap cur M i wr cur2 R2) :
    Calls Try.prog 30 #[.pointer (some ⟨g, i * 4, none⟩)] wr fun e w' => e = .returned (.tuple #[]) ∧ ∃ cur3 R3, CpR w P g cap cur M (i + 1) w' cur3 R3 := by
  have hgw := (hc.rng g (by rw [hc.rg]; simp)).1
  have hPg : P ≠ g := Role.ne_of hc.rp hc.rg (by simp)
  have hil := lt_of_get hab
  have hB := h.blk i ab hab
  obtain ⟨pv, hpv, hpo⟩ := hB.p
  have c3' : cur2[i * 4 + 3]? = some pv := (hc.left _ (by omega) (by omega)).trans hpv
  have c3 := heap_cell hc.row c3'
  have z3 := heap_frozen (o := i * 4 + 3) hc.row
  have hs := h.sz ab (List.mem_of_getElem? hab)
  rcases hpo with ⟨rfl, hb⟩ | ⟨b, cp0, ents, rfl, hbR, hbh, hcp, hes, hall⟩
  · refine (own_nil g (i * 4) wr c3 z3).mono ?_
    rintro e w' ⟨rfl, rfl⟩
    refine ⟨rfl, cur2.setIfInBounds (i * 4 + 3) (.slice none 0 0), R2, hc.bel.trans ⟨rfl, rfl, rfl, by rw [size_set]; exact Nat.le_refl _, fun k hk => heap_set_other (by omega)⟩, by rw [heap_set_other hPg]; exact hc.hp, heap_set_same hc.row _, by simpa using hc.sz, fun k ab' hk hab' => ?_, fun o h1 h2 => by rw [sib_ne (by omega)]; exact hc.left o (by omega) h2, hc.rp, hc.rg, fun x hx => by rw [size_set]; exact hc.rng x hx⟩
    by_cases e : k = i
    · subst e
      rw [hab] at hab'
      cases hab'
      exact ⟨by rw [sib_ne (by omega)]; exact (hc.left _ (by omega) (by omega)).trans hB.s, by rw [sib_ne (by omega)]; exact (hc.left _ (by omega) (by omega)).trans hB.f, by rw [sib_ne (by omega)]; exact (hc.left _ (by omega) (by omega)).trans hB.z, _, sib_eq c3', .inl ⟨rfl, hb⟩⟩
    · exact (hc.done k ab' (by omega) hab').keep (fun o h1 h2 => sib_ne (by omega)) (fun x r hx hat => ⟨hx, heap_set_other (Role.ne_of hx hc.rg (fun e => by subst e; exact hat))⟩)
  · have hnp : ab.np ≤ 1000 := by unfold AB.np AB.nw; omega
    have hbl := (h.rng b (by rw [hbR]; simp)).2
    refine (own_pages g (i * 4) b ab.np cp0 i ab R R2 wr c3 z3 ents hnp ?_ ?_ ?_ ?_).mono ?_
    · intro j hj
      obtain ⟨v, hv, ho⟩ := hall j hj
      exact ⟨v, hv, ho.keep fun q hq => ⟨hq, hc.bel.block q (h.rng q (by rw [hq]; simp)).2⟩⟩
    · intro q hq
      have := (h.rng q hq).2
      have := hc.bel.size
      exact ⟨by omega, by omega⟩
    · exact fun q hq => (hc.rng q hq).2
    · exact clone_pages b ab.np cp0 ents (0, 0) wr ((hc.bel.block b hbl).trans hbh) hcp.1 (by omega) (by show _ ≤ _; omega) (fun o u ho hu => by
        obtain ⟨v, hv, hpo⟩ := hall o (by omega)
        rw [hu] at hv
        cases hv
        rcases hpo with ⟨rfl, _⟩ | ⟨q, rfl, _⟩ <;> rfl)
    · rintro e w' ⟨rfl, w1, B, cp, cur', E, R3, hcl, ho⟩
      have hgs := hcl.bel.size
      have hs1 : (w1.setCell ⟨g, i * 4 + 3, none⟩ (.slice (some ⟨B, 0, none⟩) ab.np cp)).heap.size = w1.heap.size := size_set _ _ _
      have hgl := (hc.rng g (by rw [hc.rg]; simp)).2
      have hgB : g ≠ B := by have := hcl.ge; omega
      have hos := ho.size
      rw [hs1] at hos
      have hold : ∀ x, x < wr.heap.size → x ≠ g → w'.heap[x]? = wr.heap[x]? := fun x hx hne => by
        rw [ho.block x (by rw [hs1]; omega) (by have := hcl.ge; omega), heap_set_other hne, hcl.bel.block x hx]
      have hR3 : ∀ x, x < wr.heap.size → R3 x = R2 x := fun x hx => by
        rw [ho.role x (by rw [hs1]; omega), updR_ne (by have := hcl.ge; omega)]
      have hgrow : w'.heap[g]? = some (.cells (cur2.setIfInBounds (i * 4 + 3) (.slice (some ⟨B, 0, none⟩) ab.np cp)) 68 (0, 0)) := by
        rw [ho.block g (by rw [hs1]; omega) hgB]
        exact heap_set_same ((hcl.bel.block g hgl).trans hc.row) _
      have hPl := (hc.rng P (by rw [hc.rp]; simp)).2
      refine ⟨rfl, cur2.setIfInBounds (i * 4 + 3) (.slice (some ⟨B, 0, none⟩) ab.np cp), R3, ⟨ho.os.trans (hcl.bel.os.trans hc.bel.os), ho.tape.trans (hcl.bel.tape.trans hc.bel.tape), ho.output.trans (hcl.bel.output.trans hc.bel.output), by have := hc.bel.size; omega, fun x hx => (hold x (by have := hc.bel.size; omega) (by omega)).trans (hc.bel.block x hx)⟩,
        by rw [hold P hPl hPg]; exact hc.hp, hgrow, by simpa using hc.sz, fun k ab' hk hab' => ?_, fun o h1 h2 => by rw [sib_ne (by omega)]; exact hc.left o (by omega) h2, by rw [hR3 P hPl]; exact hc.rp, by rw [hR3 g hgl]; exact hc.rg, fun x hx => ?_⟩
      · by_cases e : k = i
        · subst e
          rw [hab] at hab'
          cases hab'
          refine ⟨by rw [sib_ne (by omega)]; exact (hc.left _ (by omega) (by omega)).trans hB.s, by rw [sib_ne (by omega)]; exact (hc.left _ (by omega) (by omega)).trans hB.f, by rw [sib_ne (by omega)]; exact (hc.left _ (by omega) (by omega)).trans hB.z, _, sib_eq c3', .inr ⟨B, cp, E, rfl, ?_, ho.row, ⟨hcp.1, hcl.le⟩, ho.sz, fun j hj => ho.done j hj hj⟩⟩
          rw [ho.role B (by rw [hs1]; exact hcl.lt), updR_same]
        · refine (hc.done k ab' (by omega) hab').keep (fun o h1 h2 => sib_ne (by omega)) (fun x r hx hat => ?_)
          have hxl := (hc.rng x (by rw [hx]; simp)).2
          exact ⟨by rw [hR3 x hxl]; exact hx, hold x hxl (Role.ne_of hx hc.rg (fun e => by subst e; exact hat))⟩
      · rcases ho.rng x hx with h1 | h1
        · by_cases e : x = B
          · subst e
            have := hcl.ge
            have := hcl.lt
            have := hc.bel.size
            exact ⟨by omega, by omega⟩
          · rw [updR_ne e] at h1
            have := hc.rng x h1
            exact ⟨this.1, by omega⟩
        · rw [hs1] at h1
          have := hc.bel.size
          exact ⟨by omega, h1.2⟩
set_option maxHeartbeats 1000000 in
theorem copy_nil (p : Nat) (L : Int) (w : World) (c0 : w.cell? ⟨p, 0, none⟩ = some (.slice none 0 0)) (c1 : w.cell? ⟨p, 1, none⟩ = some (.int .i64 L)) :
    Calls Try.prog 8 #[.pointer (some ⟨p, 0, none⟩)] w fun e w' => e = .returned (.pointer (some ⟨w.heap.size, 0, none⟩)) ∧ w' = (w.alloc (.cells #[.slice none 0 0, .int .i64 L] 64)).drew := by
  have pl : p < w.heap.size := block_lt_of_cell c0
  go_enter Try.func8, Try.ntmps8
  go_wp2
  go_region_held3 (fun w' => w'.cell? ⟨p, 0, none⟩ = some (.slice none 0 0) ∧ w'.cell? ⟨p, 1, none⟩ = some (.int .i64 L)) ((go_simp; done))
    (first | (go_at_call 29; refine (clone_blocks_nil _).mono ?_; rintro e w' ⟨rfl, hw'⟩; subst hw'))
  all_goals
    go_wp2
    go_loopw [21] (fun i wr => i = .int .i64 0 ∧ wr = (w.alloc (.cells #[.slice none 0 0, .int .i64 L] 64)).drew) (fun i _ => 0)
    case atStart => exact ⟨rfl, rfl⟩
    case round =>
      obtain ⟨rfl, rfl⟩ := hrel
      go_wp2
      go_ret
      exact ⟨rfl, rfl⟩
set_option maxHeartbeats 1000000 in
theorem copy_some (p n cap0 g0 : Nat) (L : Int) (w : World) (c0 : w.cell? ⟨p, 0, none⟩ = some (.slice (some ⟨g0, 0, none⟩) n cap0)) (c1 : w.cell? ⟨p, 1, none⟩ = some (.int .i64 L)) (hn : (n : Int) ≤ 100000) (cells : Nat → Option Value)
    (CP : Nat → Nat → Nat → Nat → World → Prop)
    (CL : Hid (∀ W, Below w.heap.size w W → W.heap.size = w.heap.size → Calls Try.prog 29 #[.slice (some ⟨g0, 0, none⟩) n cap0] W fun e w' => ∃ g cap cur', e = .returned (.slice (some ⟨g, 0, none⟩) n cap) ∧ Cloned w w' 68 4 n cells g cap cur'))
    (ST : Hid (∀ w1 g cap cur', Cloned w w1 68 4 n cells g cap cur' → CP w1.heap.size g cap 0 (w1.alloc (.cells #[.slice (some ⟨g, 0, none⟩) n cap, .int .i64 L] 64))))
    (HC : Hid (∀ P g cap i wr, CP P g cap i wr → wr.cell? ⟨P, 0, none⟩ = some (.slice (some ⟨g, 0, none⟩) n cap)))
    (OW : Hid (∀ P g cap i wr, i < n → CP P g cap i wr → Calls Try.prog 30 #[.pointer (some ⟨g, i * 4, none⟩)] wr fun e w' => e = .returned (.tuple #[]) ∧ CP P g cap (i + 1) w')) :
    Calls Try.prog 8 #[.pointer (some ⟨p, 0, none⟩)] w fun e w' => ∃ P g cap, e = .returned (.pointer (some ⟨P, 0, none⟩)) ∧ CP P g cap n w' := by
  have pl : p < w.heap.size := block_lt_of_cell c0
  go_enter Try.func8, Try.ntmps8
  go_wp2
  go_region_held3 (fun w' => w'.cell? ⟨p, 0, none⟩ = some (.slice (some ⟨g0, 0, none⟩) n cap0) ∧ w'.cell? ⟨p, 1, none⟩ = some (.int .i64 L)) (first | exact ⟨keep_cell hcl.bel c0, keep_cell hcl.bel c1⟩ | ((go_simp; done)))
    (first | (go_at_call 29; refine (CL.out _ (by repeat (first | with_reducible exact Below.refl _ _ | assumption | with_reducible refine bel_alloc ?_ _ | with_reducible refine Below.drew ?_ | with_reducible refine bel_drewN ?_ _ | with_reducible refine bel_set ?_ (by go_light; first | (simp; done) | (simp; omega) | omega) _ | refine bel_trans ?_ (by assumption))) (by rfl)).mono ?_; rintro e w1 ⟨g, cap, cur', rfl, hcl⟩; have pl1 := block_lt_of_cell (keep_cell hcl.bel c0)))
  all_goals
    have HCP : Hid (CP w1.heap.size g cap 0 (w1.alloc (.cells #[.slice (some ⟨g, 0, none⟩) n cap, .int .i64 L] 64))) := ST.out _ _ _ _ hcl
    clear hcl
    go_wp2
    go_loopw [21] (fun i wr => ∃ j : Nat, j ≤ n ∧ i = .int .i64 j ∧ Hid (CP w1.heap.size g cap j wr)) (fun i _ => n - (intOf i).toNat)
    case atStart => exact ⟨0, by omega, rfl, HCP⟩
    case round =>
      obtain ⟨j, hj, rfl, HR⟩ := hrel
      by_cases hjn : j < n
      · have j0 : (0 : Int) ≤ j := by omega
        have j1 : (j : Int) < n := by omega
        have cP := HC.out _ _ _ _ _ HR.out
        go_wp2_with (go_at_call 30; refine (OW.out _ _ _ j _ hjn HR.out).mono ?_; rintro e w2 ⟨rfl, hr2⟩; have HR2 : Hid (CP w1.heap.size g cap (j + 1) w2) := hr2; clear hr2)
        go_roundw
        case rel => exact ⟨j + 1, by omega, by simp, HR2⟩
        case measure => simp [intOf]; omega
      · have hj' : j = n := by omega
        subst hj'
        go_wp2
        go_ret
        exact ⟨w1.heap.size, g, cap, rfl, HR.out⟩
/-- A copy: another memory, the same, in blocks of its own. -/
theorem copy_any {w : World} {base p : Nat} {R : Nat → Option Role} {M : List AB} (h : Mem w base p R M) :
    Calls Try.prog 8 #[.pointer (some ⟨p, 0, none⟩)] w fun e w' => ∃ P R2, e = .returned (.pointer (some ⟨P, 0, none⟩)) ∧ Mem w' w.heap.size P R2 M ∧ Below w.heap.size w w' := by
  obtain ⟨a, cap, g, cur, h⟩ := h
  rcases h.rows with ⟨rfl, rfl, rfl⟩ | ⟨rfl, hgR, hh, h4, h5, h6⟩
  · refine (copy_nil p _ w h.c0 h.c1).mono ?_
    rintro e w' ⟨rfl, rfl⟩
    have hb : Below w.heap.size w (w.alloc (.cells #[.slice none 0 0, .int .i64 (live [])] 64)).drew := ((Below.refl _ w).alloc (Nat.le_refl _) _).drew
    have hm := new_mem w w.heap.size (Nat.le_refl _)
    exact ⟨w.heap.size, _, rfl, hm.keep (w' := (w.alloc (.cells #[.slice none 0 0, .int .i64 (live [])] 64)).drew) (Nat.le_refl _) (fun _ _ => rfl), hb⟩
  · have hpos := h4.1
    have hl := h.len
    let CP : Nat → Nat → Nat → Nat → World → Prop := fun P g2 cap2 i wr => (∃ cur2 R2, CpR w P g2 cap2 cur M i wr cur2 R2) ∧ M.length ≤ cap2 ∧ cap2 ≤ maxLen
    refine (copy_some p M.length cap g (live M) w h.c0 h.c1 (by omega) (fun o => cur[o]?) CP ?_ ?_ ?_ ?_).mono ?_
    · intro W hW hz
      refine (clone_blocks g M.length cap cur (0, 0) W ((hW.block g (h.rng g (by rw [hgR]; simp)).2).trans hh) hpos (by omega) (by show _ ≤ _; omega) ?_).mono ?_
      · intro o u ho hu
        have hk : o / 4 < M.length := by omega
        have hb := h.blk (o / 4) _ (List.getElem?_eq_getElem hk)
        obtain ⟨pv, hpv, hpo⟩ := hb.p
        have e : o / 4 * 4 + o % 4 = o := by omega
        have hr : o % 4 < 4 := by omega
        rw [← e] at hu
        generalize o % 4 = r at hu hr
        match r, hr, hu with
        | 0, _, hu => rw [Nat.add_zero, hb.s] at hu; cases hu; rfl
        | 1, _, hu => rw [hb.f] at hu; cases hu; rfl
        | 2, _, hu => rw [hb.z] at hu; cases hu; rfl
        | 3, _, hu =>
          rw [hpv] at hu
          cases hu
          rcases hpo with ⟨rfl, _⟩ | ⟨b, cp, ents, rfl, _⟩ <;> rfl
      · rintro e w' ⟨g2, cap2, cur2, h1, h2⟩
        exact ⟨g2, cap2, cur2, h1, ⟨hW.trans (by have := h2.bel; rwa [hz] at this), by have := h2.ge; omega, h2.lt, h2.row, h2.le, h2.max, h2.sz, h2.same⟩⟩
    · intro w1 g2 cap2 cur2 hcl
      have hg2 : g2 ≠ w1.heap.size := by have := hcl.lt; omega
      have hbs := hcl.bel.size
      refine ⟨⟨cur2, updR (oneR w1.heap.size .mem) g2 .rows, hcl.bel.alloc hbs _, heap_alloc_new w1 _, by rw [Below.heap_alloc _ _ _ hcl.lt]; exact hcl.row, hcl.sz, fun k ab hk => by omega, fun o _ ho => hcl.same o ho, ?_, updR_same _ _ _, fun x hx => ?_⟩, hcl.le, hcl.max⟩
      · rw [updR_ne hg2.symm]; simp [oneR]
      · rw [World.size_alloc]
        by_cases e : x = g2
        · subst e
          have := hcl.ge
          have := hcl.lt
          exact ⟨by omega, by omega⟩
        · rw [updR_ne e] at hx
          have : x = w1.heap.size := by
            by_cases e : x = w1.heap.size
            · exact e
            · simp [oneR, e] at hx
          subst this
          exact ⟨hbs, by omega⟩
    · rintro P g2 cap2 i wr ⟨⟨cur2, R2, hc⟩, _⟩
      exact heap_cell hc.hp (by simp)
    · rintro P g2 cap2 i wr hi ⟨⟨cur2, R2, hc⟩, h7⟩
      refine (own_step h (List.getElem?_eq_getElem hi) hc).mono ?_
      rintro e w' ⟨h1, h2⟩
      exact ⟨h1, h2, h7⟩
    · rintro e w' ⟨P, g2, cap2, h1, ⟨cur2, R2, hc⟩, h7, h8⟩
      refine ⟨P, R2, h1, ⟨some ⟨g2, 0, none⟩, cap2, g2, cur2, hc.hp, hc.rp, .inr ⟨rfl, hc.rg, hc.row, ⟨hpos, h7⟩, h8, hc.sz⟩, fun k ab hab => hc.done k ab (lt_of_get hab) hab, hc.rng, h.sz, h.len⟩, hc.bel⟩
end Go.Proofs.Ytnklpccggbkknaa
