/- Contract of the document's own Store over its memory. -/
import Derived.Test.YtnklpccggbkknaaNStoreP
namespace Go.Proofs.Ytnklpccggbkknaa
open Go.ChangeShapes Go.WideShapes Go.ChangeAt Go.RowKit Pl
set_option linter.unusedSimpArgs false
set_option linter.unusedVariables false

def isPtrV (v : V) : Bool := goodF v && decide (v.k = 2)
def isIntV (v : V) : Bool := goodF v && decide (v.k = 1)
/-- The bytes that a value is stored as. -/
def byteN (n2 : Nat) (v : V) : Nat → Int := if isPtrV v = true then (fun i => 1000 + 8 * (n2 : Int) + i) else if isIntV v = true then (fun i => bits .and .i64 (v.n / 2 ^ (8 * i)) 255) else fun _ => -1
def storeN (N : RM) (c : Int) (u v : V) : RM × Bool :=
  if rightN N c u = true ∧ ¬ (isPtrV v = true ∧ c ≠ 8) then
    match N.L[(u.b - 1).toNat]? with
    | none => (N, false)
    | some rb => (⟨N.L.set (u.b - 1).toNat ⟨wrt rb.bytes u.n.toNat (byteN N.ptrs.length v) c.toNat, rb.freed⟩, if isPtrV v = true then N.ptrs ++ [v] else N.ptrs⟩, true)
  else (N, false)
theorem rightN_some {N : RM} {c : Int} {u : V} (h : rightN N c u = true) : (c = 1 ∨ c = 4 ∨ c = 8) ∧ goodF u = true ∧ u.k = 2 ∧ ∃ (k : Nat) (rb : RB), u.b = (k : Int) + 1 ∧ N.L[k]? = some rb ∧ rb.freed = false ∧ 0 ≤ u.n ∧ u.n ≤ (rb.bytes.length : Int) - c ∧ u.n.tmod c = 0 := by
  simp only [rightN, Bool.and_eq_true, decide_eq_true_eq] at h
  obtain ⟨h1, h2, h3, h4, h5, h6, h7⟩ := h
  obtain ⟨k, rb, hk, hrb, hf⟩ := isN_true h4
  have e : lenN N u.b = rb.bytes.length := by
    unfold lenN
    rw [show (u.b - 1).toNat = k by omega, hrb]
  rw [e] at h6
  exact ⟨h1, h2, h3, k, rb, hk, hrb, hf, h5, h6, h7⟩
/-- One block's bytes of the document's memory are written. -/
theorem RMemIs.wrote {w w' : World} {base p : Nat} {R : Nat → Option Role} {a a2 : Option Addr} {cap g cap2 g2 : Nat} {cur cur2 : Array Value} {N : RM} {k bb : Nat} {rb : RB} {l : List Int} (h : RMemIs w base p R a cap g cur a2 cap2 g2 cur2 N) (hN : N.L[k]? = some rb)
    (hb1 : cur[k * 2]? = some (.slice (some ⟨bb, 0, none⟩) rb.bytes.length rb.bytes.length)) (hb2 : cur[k * 2 + 1]? = some (.bool rb.freed)) (hb3 : R bb = some (.pages k)) (hr : RowAt w w' bb l) (hl : l.length = rb.bytes.length) :
    RMemIs w' base p R a cap g cur a2 cap2 g2 cur2 ⟨N.L.set k ⟨l, rb.freed⟩, N.ptrs⟩ ∧ MFr R R w w' := by
  have hlt := lt_of_get hN
  have hk : ∀ b r, R b = some r → r ≠ .pages k → w'.heap[b]? = w.heap[b]? := fun b r hR hn => hr.block b (h.rng b (by rw [hR]; simp)).2 (Role.ne_of hR hb3 hn)
  refine ⟨⟨by simp only [List.length_set]; rw [hk p _ h.rp (by simp)]; exact h.hp, h.rp, ?_, ?_, fun i bi hbi => ?_, h.ptr, fun b hb => ⟨(h.rng b hb).1, Nat.lt_of_lt_of_le (h.rng b hb).2 hr.size⟩, fun b hb => ?_, by simp only [List.length_set]; exact h.len⟩, hr.os, hr.tape, hr.output, hr.size, fun b hb hR => hr.block b hb (fun e => by subst e; rw [hb3] at hR; cases hR), fun _ _ => rfl⟩
  · rcases h.rows with ⟨h1, _⟩ | ⟨h1, h2, h3, h4, h5, h6⟩
    · rw [h1] at hlt; simp at hlt
    · exact .inr ⟨h1, h2, by rw [hk g _ h2 (by simp)]; exact h3, by simp only [List.length_set]; exact h4, h5, h6⟩
  · rcases h.pts with h1 | ⟨h1, h2, h3, h4⟩
    · exact .inl h1
    · exact .inr ⟨h1, h2, (hk g2 _ h2 (by simp)).trans h3, h4⟩
  · simp only [List.getElem?_set] at hbi
    by_cases hik : k = i
    · subst hik
      rw [if_pos rfl, if_pos hlt] at hbi
      cases hbi
      exact ⟨bb, by rw [hl]; exact hb1, hb2, hb3, hr.row⟩
    · rw [if_neg hik] at hbi
      refine (h.blk i bi hbi).keep (fun o h1 h2 => rfl) (fun b hb => ⟨hb, hk b _ hb (by simp; omega)⟩)
  · rcases List.mem_or_eq_of_mem_set hb with h1 | rfl
    · exact h.sz _ h1
    · simp only [hl]; exact h.sz rb (List.mem_of_getElem? hN)
/-- A pointer more is stored. -/
theorem RMemIs.pushed {w wa w1 : World} {base p : Nat} {R : Nat → Option Role} {a a2 : Option Addr} {cap g cap2 g2 g' cap' : Nat} {cur cur2 : Array Value} {N : RM} {v : V} {xs : List Value} (h : RMemIs w base p R a cap g cur a2 cap2 g2 cur2 N)
    (hxl : xs.length = N.ptrs.length * 3) (hxs : ∀ o, o < N.ptrs.length * 3 → xs[o]? = cur2[o]?) (hob : ∀ b, (Value.slice a2 N.ptrs.length cap2).ownBlock = some b → R b = some (.page 0 0)) (hbel : Below w.heap.size w wa)
    (hgrow : (wa.alloc (.cells ([.int .i64 v.k, .int .i64 v.n, .int .i64 v.b] : List Value).toArray 32)).grownBy w1 (Value.slice a2 N.ptrs.length cap2).ownBlock)
    (hown : w1.ownsRow 0 32 3 (.slice (some ⟨g', 0, none⟩) (N.ptrs.length + 1) cap') (N.ptrs.length + 1) (xs ++ [.int .i64 v.k, .int .i64 v.n, .int .i64 v.b])) (hat : (Value.slice a2 N.ptrs.length cap2).ownBlock = some g' ∨ g' = wa.heap.size + 1) (hlt : g' < w1.heap.size) :
    ∃ cur', RMemIs (w1.setCell ⟨p, 1, none⟩ (.slice (some ⟨g', 0, none⟩) (N.ptrs.length + 1) cap')) base p (updR R g' (.page 0 0)) a cap g cur (some ⟨g', 0, none⟩) cap' g' cur' ⟨N.L, N.ptrs ++ [v]⟩ ∧ MFr R (updR R g' (.page 0 0)) w (w1.setCell ⟨p, 1, none⟩ (.slice (some ⟨g', 0, none⟩) (N.ptrs.length + 1) cap')) := by
  have hgs := hgrow.size
  rw [World.size_alloc] at hgs
  have hbs := hbel.size
  have hblk : ∀ b, b < w.heap.size → some b ≠ (Value.slice a2 N.ptrs.length cap2).ownBlock → w1.heap[b]? = w.heap[b]? := fun b hb hne =>
    (hgrow.block b (by rw [World.size_alloc]; omega) hne).trans ((Below.heap_alloc wa _ b (by omega)).trans (hbel.block b hb))
  obtain ⟨_, ⟨e, _⟩ | ⟨g3, cp3, cur', e, _, hh', h4, h5, h6, h7⟩⟩ := hown
  · cases e
  cases e
  have hg'R : ∀ b r, R b = some r → r ≠ .page 0 0 → b ≠ g' := fun b r hr hn e => by
    subst e
    rcases hat with h1 | h1
    · have := hob _ h1
      rw [hr] at this
      cases this
      exact hn rfl
    · have := (h.rng _ (by rw [hr]; simp)).2
      omega
  have hpg : p ≠ g' := hg'R p _ h.rp (by simp)
  have hkeep : ∀ b r, R b = some r → r ≠ .page 0 0 → w1.heap[b]? = w.heap[b]? := fun b r hr hn => hblk b (h.rng b (by rw [hr]; simp)).2 (fun e => by have := hob b e.symm; rw [hr] at this; cases this; exact hn rfl)
  have hp1 : w1.heap[p]? = some (.cells #[.slice a N.L.length cap, .slice a2 N.ptrs.length cap2] 30 (0, 0)) := (hkeep p _ h.rp (by simp)).trans h.hp
  have hcur : ∀ o, o < (N.ptrs.length + 1) * 3 → cur'[o]? = (xs ++ [.int .i64 v.k, .int .i64 v.n, .int .i64 v.b])[o]? := fun o ho => by
    have := take_get h7 ho
    rwa [Array.getElem?_toList] at this
  have hR' : ∀ b r, R b = some r → r ≠ .page 0 0 → updR R g' (.page 0 0) b = some r := fun b r hr hn => by
    rw [updR_ne (hg'R b r hr hn)]
    exact hr
  refine ⟨cur', ⟨?_, hR' p _ h.rp (by simp), ?_, .inr ⟨rfl, updR_same _ _ _, ?_, ⟨by simp, by simpa using h4⟩, h5, h6⟩, ?_, ?_, ?_, h.sz, h.len⟩, ?_⟩
  · rw [heap_set_same hp1]
    simp
  · rcases h.rows with h1 | ⟨h1, h2, h3, h4⟩
    · exact .inl h1
    · exact .inr ⟨h1, hR' g _ h2 (by simp), by rw [heap_set_other (Role.ne_of h2 h.rp (by simp)), hkeep g _ h2 (by simp)]; exact h3, h4⟩
  · rw [heap_set_other hpg.symm]; exact hh'
  · intro k rb hk
    refine (h.blk k rb hk).keep (fun o h1 h2 => rfl) (fun b hr => ?_)
    exact ⟨hR' b _ hr (by simp), by rw [heap_set_other (Role.ne_of hr h.rp (by simp))]; exact hkeep b _ hr (by simp)⟩
  · intro k x hk
    by_cases hkl : k < N.ptrs.length
    · simp only [List.getElem?_append_left hkl] at hk
      have := h.ptr k x hk
      have hc : ∀ o, o < 3 → cur'[k * 3 + o]? = cur2[k * 3 + o]? := fun o ho => by
        rw [hcur _ (by omega), List.getElem?_append_left (by omega)]
        exact hxs _ (by omega)
      exact ⟨(hc 0 (by omega)).trans this.1, (hc 1 (by omega)).trans this.2.1, (hc 2 (by omega)).trans this.2.2⟩
    · have hkl' : k = N.ptrs.length := by
        have := lt_of_get hk
        simp at this
        omega
      subst hkl'
      simp only [List.getElem?_append_right (Nat.le_refl _), Nat.sub_self, List.getElem?_cons_zero, Option.some.injEq] at hk
      subst hk
      have hr : ∀ r, r < 3 → cur'[N.ptrs.length * 3 + r]? = ([.int .i64 v.k, .int .i64 v.n, .int .i64 v.b] : List Value)[r]? := fun r hr => by
        rw [hcur _ (by omega), List.getElem?_append_right (by omega), hxl]
        congr 1
        omega
      exact ⟨hr 0 (by omega), hr 1 (by omega), hr 2 (by omega)⟩
  · intro b hb
    simp only [size_set]
    by_cases e : b = g'
    · subst e
      refine ⟨?_, hlt⟩
      rcases hat with h1 | h1
      · exact (h.rng _ (by rw [hob _ h1]; simp)).1
      · have := (h.rng p (by rw [h.rp]; simp)); omega
    · rw [updR_ne e] at hb
      have := h.rng b hb
      exact ⟨this.1, by omega⟩
  · refine ⟨hgrow.os.trans hbel.os, hgrow.tape.trans hbel.tape, hgrow.output.trans hbel.output, by simp only [size_set]; omega, fun b hb hr => ?_, fun b hb => ?_⟩
    · have hbp : b ≠ p := fun e => by subst e; rw [h.rp] at hr; cases hr
      rw [heap_set_other hbp]
      exact hblk b hb (fun e => by have := hob b e.symm; rw [hr] at this; cases this)
    · by_cases e : b = g'
      · subst e
        rw [updR_same]
        rcases hat with h1 | h1
        · exact (hob _ h1).symm
        · omega
      · rw [updR_ne e]
theorem rstore_any {w : World} {base p : Nat} {R : Nat → Option Role} {N : RM} (h : RMem w base p R N) (hp : N.ptrs.length < 100000) (c uk un ub vk vn vb : Int) :
    Calls Try.prog 16 #[.pointer (some ⟨p, 0, none⟩), .int .i64 c, .agg #[.int .i64 uk, .int .i64 un, .int .i64 ub], .agg #[.int .i64 vk, .int .i64 vn, .int .i64 vb]] w (RWrote base p R (storeN N c ⟨uk, un, ub⟩ ⟨vk, vn, vb⟩).1 (.bool (storeN N c ⟨uk, un, ub⟩ ⟨vk, vn, vb⟩).2) w) := by
  have hN := h
  have no : ∀ {e : Ending} {w' : World}, retP (.bool false) w e w' → RWrote base p R N (.bool false) w e w' := fun hr => ⟨hr.1, R, hN.below hr.2, MFr.of_below hr.2⟩
  have hR : ∀ r, rightN N c ⟨uk, un, ub⟩ = r → Hid (∀ W, Below w.heap.size w W → Calls Try.prog 37 #[.pointer (some ⟨p, 0, none⟩), .int .i64 c, .agg #[.int .i64 uk, .int .i64 un, .int .i64 ub]] W (retP (.bool r) W)) := fun r hr => by
    show ∀ W, _
    intro W hW
    have := right_anyN (hN.below hW) c uk un ub
    rw [hr] at this
    exact this
  by_cases hr' : rightN N c ⟨uk, un, ub⟩ = false
  · have e : storeN N c ⟨uk, un, ub⟩ ⟨vk, vn, vb⟩ = (N, false) := by simp [storeN, hr']
    rw [e]
    by_cases hg : goodF ⟨vk, vn, vb⟩ = true
    · by_cases h2 : vk = 2
      · subst h2
        exact (rstore_no_ptr p c uk un ub vn vb w hg (hR _ hr')).mono fun _ _ => no
      · by_cases h1 : vk = 1
        · subst h1
          exact (rstore_no_int p c uk un ub vn vb w hg (hR _ hr')).mono fun _ _ => no
        · exact (rstore_no_un p c uk un ub vk vn vb w hg (by simpa using h2) (by simpa using h1) (hR _ hr')).mono fun _ _ => no
    · exact (rstore_no_bad p c uk un ub vk vn vb w (by show _ = _; simpa using hg) (hR _ hr')).mono fun _ _ => no
  have hr : rightN N c ⟨uk, un, ub⟩ = true := by simpa using hr'
  clear hr'
  obtain ⟨hc, hgu, hku, k, rb, hub, hrb, hfr, n0, n1, n2⟩ := rightN_some hr
  simp only at hub n0 n1 n2 hku
  subst hku
  obtain ⟨cc, hcc⟩ : ∃ cc : Nat, c = cc := ⟨c.toNat, by omega⟩
  obtain ⟨nn, hnn⟩ : ∃ nn : Nat, un = nn := ⟨un.toNat, by omega⟩
  subst hcc hnn
  have ek : (ub - 1).toNat = k := by omega
  obtain ⟨a, cap, g, cur, a2, cap2, g2, cur2, hm⟩ := h
  obtain ⟨rfl, hgR, hh, _⟩ := hm.has hrb
  obtain ⟨bb, b1, b2, b3, b4⟩ := hm.blk k rb hrb
  have hlt := lt_of_get hrb
  have hlen := hm.len
  have hsz := hm.sz rb (List.mem_of_getElem? hrb)
  -- a value that is no pointer
  have wrote : ∀ (f : Nat → Int), byteN N.ptrs.length ⟨vk, vn, vb⟩ = f → isPtrV ⟨vk, vn, vb⟩ = false → ∀ e w', (e = .returned (.bool true) ∧ RowAt w w' bb (wrt rb.bytes nn f cc)) → RWrote base p R (storeN N cc ⟨2, nn, ub⟩ ⟨vk, vn, vb⟩).1 (.bool (storeN N cc ⟨2, nn, ub⟩ ⟨vk, vn, vb⟩).2) w e w' := by
    rintro f hf hip e w' ⟨rfl, hrow⟩
    have e : storeN N cc ⟨2, nn, ub⟩ ⟨vk, vn, vb⟩ = (⟨N.L.set k ⟨wrt rb.bytes nn f cc, rb.freed⟩, N.ptrs⟩, true) := by
      simp [storeN, hr, hip, ek, hrb, hf]
    rw [e]
    obtain ⟨t1, t2⟩ := hm.wrote hrb b1 b2 b3 hrow (wrt_len _ _ _ _)
    exact ⟨rfl, R, ⟨_, _, _, _, _, _, _, _, t1⟩, t2⟩
  by_cases hg : goodF ⟨vk, vn, vb⟩ = true
  · by_cases h2 : vk = 2
    · subst h2
      have hip : isPtrV ⟨2, vn, vb⟩ = true := by simp [isPtrV, hg]
      by_cases h8 : (cc : Int) = 8
      · have h8' : cc = 8 := by omega
        subst h8'
        have e : storeN N (8 : Nat) ⟨2, nn, ub⟩ ⟨2, vn, vb⟩ = (⟨N.L.set k ⟨wrt rb.bytes nn (fun i => 1000 + 8 * (N.ptrs.length : Int) + i) 8, rb.freed⟩, N.ptrs ++ [⟨2, vn, vb⟩]⟩, true) := by
          simp only [storeN, hr, hip, ek, hrb, byteN]
          simp
        rw [e]
        obtain ⟨xs, hxs, hown⟩ : ∃ xs : List Value, (∀ o, o < N.ptrs.length * 3 → xs[o]? = cur2[o]?) ∧ w.ownsRow 0 32 3 (.slice a2 N.ptrs.length cap2) N.ptrs.length xs := by
          rcases hm.pts with ⟨h1, rfl, rfl⟩ | ⟨rfl, hgR, hh, h4, h5, h6⟩
          · rw [h1]
            exact ⟨[], fun o ho => by simp at ho, World.ownsRow_nil _ _ _ _⟩
          · refine ⟨cur2.toList.take (N.ptrs.length * 3), fun o ho => by rw [List.getElem?_take, if_pos ho]; simp, ?_, .inr ⟨g2, cap2, cur2, rfl, Nat.zero_le _, hh, h4.2, h5, h6, rfl⟩⟩
            have : cur2.toList.length = cap2 * 3 := h6
            rw [List.length_take, this]
            omega
        have hob : ∀ b, (Value.slice a2 N.ptrs.length cap2).ownBlock = some b → R b = some (.page 0 0) := by
          intro b hb
          rcases hm.pts with ⟨_, rfl, _⟩ | ⟨rfl, hgR, _⟩
          · simp [Value.ownBlock] at hb
          · simp [Value.ownBlock] at hb
            subst hb
            exact hgR
        refine (rstore_ptr p _ cap g k bb _ nn _ cap2 a2 2 ub vn vb rb.bytes xs w hg (hR _ hr) hm.c0 (heap_cell hh b1) (by omega) (by omega) (by omega) (by omega) (by omega) (by omega) (by omega) b4 rfl hm.c1 (heap_frozen hm.hp) hown (fun e => by have := hob p e; rw [hm.rp] at this; cases this) (fun e => by have := hob bb e; rw [b3] at this; cases this) (Role.ne_of hm.rp b3 (by simp)) (fun b hb => (hm.rng b (by rw [hob b hb]; simp)).2) (by omega)).mono ?_
        rintro e w' ⟨rfl, g', cap', wa, w1, q1, q2, q3, q4, q5, q6⟩
        obtain ⟨cur', t1, t2⟩ := hm.pushed (v := ⟨2, vn, vb⟩) hown.1 hxs hob q1 q2 q3 q4 q5
        have hbg : bb ≠ g' := fun e => by
          rcases q4 with h1 | h1
          · have := hob _ h1
            rw [← e, b3] at this
            cases this
          · have := (hm.rng bb (by rw [b3]; simp)).2
            have := q1.size
            omega
        obtain ⟨s1, s2⟩ := t1.wrote hrb b1 b2 (by rw [updR_ne hbg]; exact b3) q6 (wrt_len _ _ _ _)
        exact ⟨rfl, _, ⟨_, _, _, _, _, _, _, _, s1⟩, t2.trans s2⟩
      · have e : storeN N cc ⟨2, nn, ub⟩ ⟨2, vn, vb⟩ = (N, false) := by
          unfold storeN
          rw [if_neg (fun hh => hh.2 ⟨hip, h8⟩)]
        rw [e]
        exact (rstore_wide p cc 2 nn ub vn vb w hg (by simpa using h8) (hR _ hr)).mono fun _ _ => no
    · have hip : isPtrV ⟨vk, vn, vb⟩ = false := by simp [isPtrV, h2]
      by_cases h1 : vk = 1
      · subst h1
        refine (rstore_int p _ cap g k bb _ nn cc 2 ub vn vb rb.bytes w hg (hR _ hr) hm.c0 (heap_cell hh b1) (by omega) (by omega) (by omega) (by omega) (by omega) (by omega) (by omega) b4 rfl).mono (wrote _ ?_ hip)
        simp [byteN, hip, isIntV, hg]
      · refine (rstore_un p _ cap g k bb _ nn cc 2 ub vk vn vb rb.bytes w hg (by simpa using h2) (by simpa using h1) (hR _ hr) hm.c0 (heap_cell hh b1) (by omega) (by omega) (by omega) (by omega) (by omega) (by omega) (by omega) b4 rfl).mono (wrote _ ?_ hip)
        simp [byteN, hip, isIntV, h1]
  · have hg' : goodF ⟨vk, vn, vb⟩ = false := by simpa using hg
    have hip : isPtrV ⟨vk, vn, vb⟩ = false := by simp [isPtrV, hg']
    refine (rstore_bad p _ cap g k bb _ nn cc 2 ub vk vn vb rb.bytes w hg' (hR _ hr) hm.c0 (heap_cell hh b1) (by omega) (by omega) (by omega) (by omega) (by omega) (by omega) (by omega) b4 rfl).mono (wrote _ ?_ hip)
    simp [byteN, hip, isIntV, hg']
end Go.Proofs.Ytnklpccggbkknaa
