/- Contracts that read a memory: find, page, word of a block; right, Load, Size, Blocks, Live. -/
import Derived.Test.YtnklpccggbkknaaMFind
import Derived.BigQuiet
namespace Go.Proofs.Ytnklpccggbkknaa
open Go.ChangeShapes Go.WideShapes Go.ChangeAt Go.RowKit Pl
set_option linter.unusedSimpArgs false
set_option linter.unusedVariables false

/-- The place of the block of that number, if there is one that is not freed. -/
def findK (M : List AB) (x : Int) : Option Nat :=
  if x < 1 then none else match M[(x - 1).toNat]? with
    | none => none
    | some ab => if ab.freed = true then none else some (x - 1).toNat
def ptrV (g : Nat) : Option Nat → Value
  | none => .pointer none
  | some k => .pointer (some ⟨g, k * 4, none⟩)
theorem findK_some {M : List AB} {x : Int} {k : Nat} (h : findK M x = some k) : x = k + 1 ∧ ∃ ab, M[k]? = some ab ∧ ab.freed = false := by
  unfold findK at h
  split at h
  · cases h
  · split at h
    · cases h
    · rename_i ab hab
      split at h
      · cases h
      · cases h
        exact ⟨by omega, ab, hab, by simp_all⟩
theorem MemIs.c0 {w : World} {base p : Nat} {R : Nat → Option Role} {a : Option Addr} {cap g : Nat} {cur : Array Value} {M : List AB} (h : MemIs w base p R a cap g cur M) :
    w.cell? ⟨p, 0, none⟩ = some (.slice a M.length cap) := heap_cell h.hp (by simp)
theorem MemIs.c1 {w : World} {base p : Nat} {R : Nat → Option Role} {a : Option Addr} {cap g : Nat} {cur : Array Value} {M : List AB} (h : MemIs w base p R a cap g cur M) :
    w.cell? ⟨p, 1, none⟩ = some (.int .i64 (live M)) := heap_cell h.hp (by simp)
theorem lt_of_get {α : Type} {M : List α} {k : Nat} {x : α} (h : M[k]? = some x) : k < M.length := by
  rcases Nat.lt_or_ge k M.length with h1 | h1
  · exact h1
  · rw [List.getElem?_eq_none h1] at h; cases h
/-- Where there is a block there are rows. -/
theorem MemIs.has {w : World} {base p : Nat} {R : Nat → Option Role} {a : Option Addr} {cap g : Nat} {cur : Array Value} {M : List AB} (h : MemIs w base p R a cap g cur M) {k : Nat} {ab : AB} (hM : M[k]? = some ab) :
    a = some ⟨g, 0, none⟩ ∧ R g = some .rows ∧ w.heap[g]? = some (.cells cur 68 (0, 0)) ∧ (0 < M.length ∧ M.length ≤ cap) ∧ cap ≤ maxLen ∧ cur.size = cap * 4 := by
  rcases h.rows with ⟨rfl, _⟩ | h1
  · simp at hM
  · exact h1
theorem wrapN (k : Nat) (h : k ≤ 1000000) : wrap64 (k : Int) = k := by unfold wrap64; omega
theorem find_any {w : World} {base p : Nat} {R : Nat → Option Role} {a : Option Addr} {cap g : Nat} {cur : Array Value} {M : List AB} (h : MemIs w base p R a cap g cur M) (x : Int) :
    Calls Try.prog 31 #[.pointer (some ⟨p, 0, none⟩), .int .i64 x] w fun e w' => e = .returned (ptrV g (findK M x)) ∧ w' = w := by
  have c0 := h.c0
  by_cases h1 : x < 1
  · have e : findK M x = none := by simp [findK, h1]
    rw [e]
    exact find_low p _ cap a x w c0 h1
  by_cases h2 : (M.length : Int) < x
  · have e : findK M x = none := by
      unfold findK
      rw [if_neg h1, List.getElem?_eq_none (by omega)]
    rw [e]
    exact find_high p _ cap a x w c0 h1 h2
  · obtain ⟨k, hk⟩ : ∃ k : Nat, x - 1 = k := ⟨(x - 1).toNat, by omega⟩
    have hkl : k < M.length := by omega
    obtain ⟨ab, hab⟩ : ∃ ab, M[k]? = some ab := ⟨_, List.getElem?_eq_getElem hkl⟩
    obtain ⟨rfl, hg, hh, _⟩ := h.has hab
    have hl := h.len
    have := find_in p _ cap g k x ab.freed w c0 h1 h2 hk (wrapN k (by omega)) (heap_cell hh (h.blk k ab hab).f)
    have e : findK M x = if ab.freed = true then none else some k := by
      unfold findK
      rw [if_neg h1, show (x - 1).toNat = k by omega, hab]
    rw [e]
    cases hf : ab.freed <;> (rw [hf] at this; simpa [ptrV] using this)

/-- The cells of a block's row. -/
theorem BlkOk.cells {w : World} {R : Nat → Option Role} {cur : Array Value} {k g : Nat} {ab : AB} {t : TypeId} (h : BlkOk w R cur k ab) (hg : w.heap[g]? = some (.cells cur t (0, 0))) :
    w.cell? ⟨g, k * 4, none⟩ = some (.int .i64 ab.size) ∧ w.cell? ⟨g, k * 4 + 1, none⟩ = some (.bool ab.freed) ∧ w.cell? ⟨g, k * 4 + 2, none⟩ = some (.bool ab.zeroed) :=
  ⟨heap_cell hg h.s, heap_cell hg h.f, heap_cell hg h.z⟩
/-- What the page of the word i is. -/
def pageV (w : World) (R : Nat → Option Role) (k : Nat) (ab : AB) (i : Nat) (v : Value) : Prop := PageOk w R k ab (i / 64) v
theorem page_blk {w : World} {R : Nat → Option Role} {cur : Array Value} {k g : Nat} {ab : AB} {t : TypeId} (h : BlkOk w R cur k ab) (hg : w.heap[g]? = some (.cells cur t (0, 0))) (i : Nat) (hi : i / 64 < ab.np) (hi2 : i ≤ 1000000) :
    ∃ v, PageOk w R k ab (i / 64) v ∧ ∀ W, (∀ b o u, w.cell? ⟨b, o, none⟩ = some u → W.cell? ⟨b, o, none⟩ = some u) → Calls Try.prog 47 #[.pointer (some ⟨g, k * 4, none⟩), .int .i64 i] W fun e w' => e = .returned v ∧ w' = W := by
  obtain ⟨pv, hp, hpo⟩ := h.p
  have c3 := heap_cell hg hp
  rcases hpo with ⟨rfl, hb⟩ | ⟨b, cap, ents, rfl, hR, hh, h1, h2, h3⟩
  · exact ⟨.pointer none, .inl ⟨rfl, fun r _ => hb _⟩, fun W hW => page_nil g _ _ W (hW _ _ _ c3)⟩
  · obtain ⟨v, hv, ho⟩ := h3 _ hi
    exact ⟨v, ho, fun W hW => page_in g _ b _ cap (i / 64) i v W (hW _ _ _ c3) (quo64 i hi2) hi (hW _ _ _ (heap_cell hh hv))⟩
theorem word_blk {w : World} {R : Nat → Option Role} {cur : Array Value} {k g : Nat} {ab : AB} {t : TypeId} (h : BlkOk w R cur k ab) (hg : w.heap[g]? = some (.cells cur t (0, 0))) (hs : ab.size ≤ 65536) (i : Nat) (hi : i / 64 < ab.np) (hi2 : i ≤ 1000000) :
    Calls Try.prog 34 #[.pointer (some ⟨g, k * 4, none⟩), .int .i64 i] w (retW (ab.wd i) w) := by
  obtain ⟨v, ho, hP⟩ := page_blk h hg i hi hi2
  obtain ⟨c0, c1, c2⟩ := h.cells hg
  have hsplit : i / 64 * 64 + i % 64 = i := by omega
  rcases ho with ⟨rfl, hb⟩ | ⟨q, rfl, hR, hq⟩
  · have e : ab.wd i = blankF ab.size ab.zeroed i := by
      have := hb (i % 64) (by omega)
      rwa [hsplit] at this
    rw [e]
    exact word_nil g _ ab.size i ab.zeroed (.bool true) w c0 c2 hs hi2 (fun W hW => hP W fun b o u hc => keep_cell hW hc)
  · have hx := hq.c (i % 64) (by omega)
    simp only [hsplit] at hx
    exact word_in g _ q i (i % 64) (ab.wd i) w (rem64 i) (by omega) hx (fun W hW => hP W fun b o u hc => keep_cell hW hc)

/-- Is the access right, and which block is it of? -/
def rightK (M : List AB) (c : Int) (v : V) : Option Nat :=
  if (c = 1 ∨ c = 4 ∨ c = 8) ∧ v.k = 2 ∧ goodF v = true then
    match findK M v.b with
    | none => none
    | some k => match M[k]? with
      | none => none
      | some ab => if 0 ≤ v.n ∧ v.n ≤ (ab.size : Int) - c ∧ v.n.tmod c = 0 then some k else none
  else none

set_option maxHeartbeats 1000000 in
theorem right_chunk (p : Nat) (c vk vn vb : Int) (w : World) (h1 : c ≠ 1) (h4 : c ≠ 4) (h8 : c ≠ 8) : Calls Try.prog 33 #[.pointer (some ⟨p, 0, none⟩), .int .i64 c, .agg #[.int .i64 vk, .int .i64 vn, .int .i64 vb]] w (retP (.pointer none) w) := by
  have g1 : (c != 1) = true := by simp [h1]
  have g4 : (c != 4) = true := by simp [h4]
  have g8 : (c != 8) = true := by simp [h8]
  go_enter Try.func33, Try.ntmps33
  go_wp2
  go_ret
  exact ⟨rfl, (by repeat (first | with_reducible exact Below.refl _ _ | with_reducible refine bel_alloc ?_ _ | with_reducible refine bel_set ?_ (by first | exact Nat.le_refl _ | (simp; done) | (simp; omega)) _ | with_reducible refine Below.drew ?_ | refine bel_trans ?_ (by assumption)))⟩

set_option maxHeartbeats 1000000 in
theorem right_kind1 (p : Nat) (vk vn vb : Int) (w : World) (h2 : vk ≠ 2) : Calls Try.prog 33 #[.pointer (some ⟨p, 0, none⟩), .int .i64 1, .agg #[.int .i64 vk, .int .i64 vn, .int .i64 vb]] w (retP (.pointer none) w) := by
  have g2 : (vk != 2) = true := by simp [h2]
  go_enter Try.func33, Try.ntmps33
  go_wp2
  go_ret
  exact ⟨rfl, (by repeat (first | with_reducible exact Below.refl _ _ | with_reducible refine bel_alloc ?_ _ | with_reducible refine bel_set ?_ (by first | exact Nat.le_refl _ | (simp; done) | (simp; omega)) _ | with_reducible refine Below.drew ?_ | refine bel_trans ?_ (by assumption)))⟩
set_option maxHeartbeats 1000000 in
theorem right_good1 (p : Nat) (vn vb : Int) (w : World) (hg : goodF ⟨2, vn, vb⟩ = false) : Calls Try.prog 33 #[.pointer (some ⟨p, 0, none⟩), .int .i64 1, .agg #[.int .i64 2, .int .i64 vn, .int .i64 vb]] w (retP (.pointer none) w) := by
  go_enter Try.func33, Try.ntmps33
  go_wp2_with (go_at_call 39; refine (good_any _ _ _ _).mono ?_; rintro e w1 ⟨rfl, hb1⟩; have hz1 := bsize hb1; (try simp only [World.size_alloc] at hz1); have d0 := keep_cell hb1 (p := ⟨w.heap.size, 0, none⟩) (v := .int .i64 2) (by go_simp); have d1 := keep_cell hb1 (p := ⟨w.heap.size, 1, none⟩) (v := .int .i64 vn) (by go_simp); have d2 := keep_cell hb1 (p := ⟨w.heap.size, 2, none⟩) (v := .int .i64 vb) (by go_simp))
  go_ret
  exact ⟨rfl, (by repeat (first | with_reducible exact Below.refl _ _ | with_reducible refine bel_alloc ?_ _ | with_reducible refine bel_set ?_ (by first | exact Nat.le_refl _ | (simp; done) | (simp; omega)) _ | with_reducible refine Below.drew ?_ | refine bel_trans ?_ (by assumption)))⟩

set_option maxHeartbeats 1000000 in
theorem right_none1 (p : Nat) (vn vb : Int) (w : World) (hg : goodF ⟨2, vn, vb⟩ = true) (hF : ∀ W, Below w.heap.size w W → Calls Try.prog 31 #[.pointer (some ⟨p, 0, none⟩), .int .i64 vb] W fun e w' => e = .returned (.pointer none) ∧ w' = W) : Calls Try.prog 33 #[.pointer (some ⟨p, 0, none⟩), .int .i64 1, .agg #[.int .i64 2, .int .i64 vn, .int .i64 vb]] w (retP (.pointer none) w) := by
  have HF : Hid _ := hF
  clear hF
  go_enter Try.func33, Try.ntmps33
  go_wp2_with (first | (go_at_call 39; refine (good_any _ _ _ _).mono ?_; rintro e w1 ⟨rfl, hb1⟩; have hz1 := bsize hb1; (try simp only [World.size_alloc] at hz1); have d0 := keep_cell hb1 (p := ⟨w.heap.size, 0, none⟩) (v := .int .i64 2) (by go_simp); have d1 := keep_cell hb1 (p := ⟨w.heap.size, 1, none⟩) (v := .int .i64 vn) (by go_simp); have d2 := keep_cell hb1 (p := ⟨w.heap.size, 2, none⟩) (v := .int .i64 vb) (by go_simp)) | (go_at_call 31; refine (HF.out _ (by repeat (first | with_reducible exact Below.refl _ _ | with_reducible refine bel_alloc ?_ _ | with_reducible refine bel_set ?_ (by first | exact Nat.le_refl _ | (simp; done) | (simp; omega)) _ | with_reducible refine Below.drew ?_ | refine bel_trans ?_ (by assumption)))).mono ?_; rintro e w' ⟨rfl, hw'⟩; replace hw' := hw'.symm; subst hw'))
  go_quiet (fail)
  go_wp2
  go_ret
  exact ⟨rfl, (by repeat (first | with_reducible exact Below.refl _ _ | assumption | with_reducible refine bel_alloc ?_ _ | with_reducible refine Below.drew ?_ | with_reducible refine bel_drewN ?_ _ | with_reducible refine bel_set ?_ (by go_light; first | (simp; done) | (simp; omega) | omega) _ | refine bel_trans ?_ (by assumption)))⟩
set_option maxHeartbeats 1000000 in
theorem right_some1 (p g o : Nat) (s : Nat) (vn vb : Int) (ok : Bool) (w : World) (hg : goodF ⟨2, vn, vb⟩ = true) (c0 : w.cell? ⟨g, o, none⟩ = some (.int .i64 s)) (hs : s ≤ 65536)
    (hF : ∀ W, Below w.heap.size w W → Calls Try.prog 31 #[.pointer (some ⟨p, 0, none⟩), .int .i64 vb] W fun e w' => e = .returned (.pointer (some ⟨g, o, none⟩)) ∧ w' = W) (hok : ok = decide (0 ≤ vn ∧ vn ≤ (s : Int) - 1 ∧ vn.tmod 1 = 0)) :
    Calls Try.prog 33 #[.pointer (some ⟨p, 0, none⟩), .int .i64 1, .agg #[.int .i64 2, .int .i64 vn, .int .i64 vb]] w (retP (if ok = true then .pointer (some ⟨g, o, none⟩) else .pointer none) w) := by
  have HF : Hid _ := hF
  clear hF
  have gl : g < w.heap.size := block_lt_of_cell c0
  have hw : IntKind.i64.wrap ((s : Int) - 1) = (s : Int) - 1 := by rw [i64w]; unfold wrap64; omega
  by_cases n0 : vn < 0
  · have e : ok = false := by rw [hok]; simp; omega
    subst e
    clear hok
    go_enter Try.func33, Try.ntmps33
    go_wp2_with (first | (go_at_call 39; refine (good_any _ _ _ _).mono ?_; rintro e w1 ⟨rfl, hb1⟩; have hz1 := bsize hb1; (try simp only [World.size_alloc] at hz1); have d0 := keep_cell hb1 (p := ⟨w.heap.size, 0, none⟩) (v := .int .i64 2) (by go_simp); have d1 := keep_cell hb1 (p := ⟨w.heap.size, 1, none⟩) (v := .int .i64 vn) (by go_simp); have d2 := keep_cell hb1 (p := ⟨w.heap.size, 2, none⟩) (v := .int .i64 vb) (by go_simp); have c0' := keep_cell hb1 (keep_alloc c0 _)) | (go_at_call 31; refine (HF.out _ (by repeat (first | with_reducible exact Below.refl _ _ | with_reducible refine bel_alloc ?_ _ | with_reducible refine bel_set ?_ (by first | exact Nat.le_refl _ | (simp; done) | (simp; omega)) _ | with_reducible refine Below.drew ?_ | refine bel_trans ?_ (by assumption)))).mono ?_; rintro e w' ⟨rfl, hw'⟩; replace hw' := hw'.symm; subst hw'))
    go_quiet (fail)
    go_wp2
    go_ret
    exact ⟨by simp, (by repeat (first | with_reducible exact Below.refl _ _ | assumption | with_reducible refine bel_alloc ?_ _ | with_reducible refine Below.drew ?_ | with_reducible refine bel_drewN ?_ _ | with_reducible refine bel_set ?_ (by go_light; first | (simp; done) | (simp; omega) | omega) _ | refine bel_trans ?_ (by assumption)))⟩
  by_cases n1 : (s : Int) - 1 < vn
  · have e : ok = false := by rw [hok]; simp; omega
    subst e
    clear hok
    go_enter Try.func33, Try.ntmps33
    go_wp2_with (first | (go_at_call 39; refine (good_any _ _ _ _).mono ?_; rintro e w1 ⟨rfl, hb1⟩; have hz1 := bsize hb1; (try simp only [World.size_alloc] at hz1); have d0 := keep_cell hb1 (p := ⟨w.heap.size, 0, none⟩) (v := .int .i64 2) (by go_simp); have d1 := keep_cell hb1 (p := ⟨w.heap.size, 1, none⟩) (v := .int .i64 vn) (by go_simp); have d2 := keep_cell hb1 (p := ⟨w.heap.size, 2, none⟩) (v := .int .i64 vb) (by go_simp); have c0' := keep_cell hb1 (keep_alloc c0 _)) | (go_at_call 31; refine (HF.out _ (by repeat (first | with_reducible exact Below.refl _ _ | with_reducible refine bel_alloc ?_ _ | with_reducible refine bel_set ?_ (by first | exact Nat.le_refl _ | (simp; done) | (simp; omega)) _ | with_reducible refine Below.drew ?_ | refine bel_trans ?_ (by assumption)))).mono ?_; rintro e w' ⟨rfl, hw'⟩; replace hw' := hw'.symm; subst hw'))
    go_quiet (fail)
    go_wp2
    go_ret
    exact ⟨by simp, (by repeat (first | with_reducible exact Below.refl _ _ | assumption | with_reducible refine bel_alloc ?_ _ | with_reducible refine Below.drew ?_ | with_reducible refine bel_drewN ?_ _ | with_reducible refine bel_set ?_ (by go_light; first | (simp; done) | (simp; omega) | omega) _ | refine bel_trans ?_ (by assumption)))⟩
  by_cases n2 : vn.tmod 1 = 0
  · have e : ok = true := by rw [hok]; simp [n2]; omega
    subst e
    clear hok
    go_enter Try.func33, Try.ntmps33
    go_wp2_with (first | (go_at_call 39; refine (good_any _ _ _ _).mono ?_; rintro e w1 ⟨rfl, hb1⟩; have hz1 := bsize hb1; (try simp only [World.size_alloc] at hz1); have d0 := keep_cell hb1 (p := ⟨w.heap.size, 0, none⟩) (v := .int .i64 2) (by go_simp); have d1 := keep_cell hb1 (p := ⟨w.heap.size, 1, none⟩) (v := .int .i64 vn) (by go_simp); have d2 := keep_cell hb1 (p := ⟨w.heap.size, 2, none⟩) (v := .int .i64 vb) (by go_simp); have c0' := keep_cell hb1 (keep_alloc c0 _)) | (go_at_call 31; refine (HF.out _ (by repeat (first | with_reducible exact Below.refl _ _ | with_reducible refine bel_alloc ?_ _ | with_reducible refine bel_set ?_ (by first | exact Nat.le_refl _ | (simp; done) | (simp; omega)) _ | with_reducible refine Below.drew ?_ | refine bel_trans ?_ (by assumption)))).mono ?_; rintro e w' ⟨rfl, hw'⟩; replace hw' := hw'.symm; subst hw'))
    go_quiet (fail)
    go_wp2
    go_ret
    exact ⟨by simp, (by repeat (first | with_reducible exact Below.refl _ _ | assumption | with_reducible refine bel_alloc ?_ _ | with_reducible refine Below.drew ?_ | with_reducible refine bel_drewN ?_ _ | with_reducible refine bel_set ?_ (by go_light; first | (simp; done) | (simp; omega) | omega) _ | refine bel_trans ?_ (by assumption)))⟩
  · exact absurd (Int.tmod_one vn) n2

set_option maxHeartbeats 1000000 in
theorem right_kind4 (p : Nat) (vk vn vb : Int) (w : World) (h2 : vk ≠ 2) : Calls Try.prog 33 #[.pointer (some ⟨p, 0, none⟩), .int .i64 4, .agg #[.int .i64 vk, .int .i64 vn, .int .i64 vb]] w (retP (.pointer none) w) := by
  have g2 : (vk != 2) = true := by simp [h2]
  go_enter Try.func33, Try.ntmps33
  go_wp2
  go_ret
  exact ⟨rfl, (by repeat (first | with_reducible exact Below.refl _ _ | with_reducible refine bel_alloc ?_ _ | with_reducible refine bel_set ?_ (by first | exact Nat.le_refl _ | (simp; done) | (simp; omega)) _ | with_reducible refine Below.drew ?_ | refine bel_trans ?_ (by assumption)))⟩
set_option maxHeartbeats 1000000 in
theorem right_good4 (p : Nat) (vn vb : Int) (w : World) (hg : goodF ⟨2, vn, vb⟩ = false) : Calls Try.prog 33 #[.pointer (some ⟨p, 0, none⟩), .int .i64 4, .agg #[.int .i64 2, .int .i64 vn, .int .i64 vb]] w (retP (.pointer none) w) := by
  go_enter Try.func33, Try.ntmps33
  go_wp2_with (go_at_call 39; refine (good_any _ _ _ _).mono ?_; rintro e w1 ⟨rfl, hb1⟩; have hz1 := bsize hb1; (try simp only [World.size_alloc] at hz1); have d0 := keep_cell hb1 (p := ⟨w.heap.size, 0, none⟩) (v := .int .i64 2) (by go_simp); have d1 := keep_cell hb1 (p := ⟨w.heap.size, 1, none⟩) (v := .int .i64 vn) (by go_simp); have d2 := keep_cell hb1 (p := ⟨w.heap.size, 2, none⟩) (v := .int .i64 vb) (by go_simp))
  go_ret
  exact ⟨rfl, (by repeat (first | with_reducible exact Below.refl _ _ | with_reducible refine bel_alloc ?_ _ | with_reducible refine bel_set ?_ (by first | exact Nat.le_refl _ | (simp; done) | (simp; omega)) _ | with_reducible refine Below.drew ?_ | refine bel_trans ?_ (by assumption)))⟩

set_option maxHeartbeats 1000000 in
theorem right_none4 (p : Nat) (vn vb : Int) (w : World) (hg : goodF ⟨2, vn, vb⟩ = true) (hF : ∀ W, Below w.heap.size w W → Calls Try.prog 31 #[.pointer (some ⟨p, 0, none⟩), .int .i64 vb] W fun e w' => e = .returned (.pointer none) ∧ w' = W) : Calls Try.prog 33 #[.pointer (some ⟨p, 0, none⟩), .int .i64 4, .agg #[.int .i64 2, .int .i64 vn, .int .i64 vb]] w (retP (.pointer none) w) := by
  have HF : Hid _ := hF
  clear hF
  go_enter Try.func33, Try.ntmps33
  go_wp2_with (first | (go_at_call 39; refine (good_any _ _ _ _).mono ?_; rintro e w1 ⟨rfl, hb1⟩; have hz1 := bsize hb1; (try simp only [World.size_alloc] at hz1); have d0 := keep_cell hb1 (p := ⟨w.heap.size, 0, none⟩) (v := .int .i64 2) (by go_simp); have d1 := keep_cell hb1 (p := ⟨w.heap.size, 1, none⟩) (v := .int .i64 vn) (by go_simp); have d2 := keep_cell hb1 (p := ⟨w.heap.size, 2, none⟩) (v := .int .i64 vb) (by go_simp)) | (go_at_call 31; refine (HF.out _ (by repeat (first | with_reducible exact Below.refl _ _ | with_reducible refine bel_alloc ?_ _ | with_reducible refine bel_set ?_ (by first | exact Nat.le_refl _ | (simp; done) | (simp; omega)) _ | with_reducible refine Below.drew ?_ | refine bel_trans ?_ (by assumption)))).mono ?_; rintro e w' ⟨rfl, hw'⟩; replace hw' := hw'.symm; subst hw'))
  go_quiet (fail)
  go_wp2
  go_ret
  exact ⟨rfl, (by repeat (first | with_reducible exact Below.refl _ _ | assumption | with_reducible refine bel_alloc ?_ _ | with_reducible refine Below.drew ?_ | with_reducible refine bel_drewN ?_ _ | with_reducible refine bel_set ?_ (by go_light; first | (simp; done) | (simp; omega) | omega) _ | refine bel_trans ?_ (by assumption)))⟩
set_option maxHeartbeats 1000000 in
theorem right_some4 (p g o : Nat) (s : Nat) (vn vb : Int) (ok : Bool) (w : World) (hg : goodF ⟨2, vn, vb⟩ = true) (c0 : w.cell? ⟨g, o, none⟩ = some (.int .i64 s)) (hs : s ≤ 65536)
    (hF : ∀ W, Below w.heap.size w W → Calls Try.prog 31 #[.pointer (some ⟨p, 0, none⟩), .int .i64 vb] W fun e w' => e = .returned (.pointer (some ⟨g, o, none⟩)) ∧ w' = W) (hok : ok = decide (0 ≤ vn ∧ vn ≤ (s : Int) - 4 ∧ vn.tmod 4 = 0)) :
    Calls Try.prog 33 #[.pointer (some ⟨p, 0, none⟩), .int .i64 4, .agg #[.int .i64 2, .int .i64 vn, .int .i64 vb]] w (retP (if ok = true then .pointer (some ⟨g, o, none⟩) else .pointer none) w) := by
  have HF : Hid _ := hF
  clear hF
  have gl : g < w.heap.size := block_lt_of_cell c0
  have hw : IntKind.i64.wrap ((s : Int) - 4) = (s : Int) - 4 := by rw [i64w]; unfold wrap64; omega
  by_cases n0 : vn < 0
  · have e : ok = false := by rw [hok]; simp; omega
    subst e
    clear hok
    go_enter Try.func33, Try.ntmps33
    go_wp2_with (first | (go_at_call 39; refine (good_any _ _ _ _).mono ?_; rintro e w1 ⟨rfl, hb1⟩; have hz1 := bsize hb1; (try simp only [World.size_alloc] at hz1); have d0 := keep_cell hb1 (p := ⟨w.heap.size, 0, none⟩) (v := .int .i64 2) (by go_simp); have d1 := keep_cell hb1 (p := ⟨w.heap.size, 1, none⟩) (v := .int .i64 vn) (by go_simp); have d2 := keep_cell hb1 (p := ⟨w.heap.size, 2, none⟩) (v := .int .i64 vb) (by go_simp); have c0' := keep_cell hb1 (keep_alloc c0 _)) | (go_at_call 31; refine (HF.out _ (by repeat (first | with_reducible exact Below.refl _ _ | with_reducible refine bel_alloc ?_ _ | with_reducible refine bel_set ?_ (by first | exact Nat.le_refl _ | (simp; done) | (simp; omega)) _ | with_reducible refine Below.drew ?_ | refine bel_trans ?_ (by assumption)))).mono ?_; rintro e w' ⟨rfl, hw'⟩; replace hw' := hw'.symm; subst hw'))
    go_quiet (fail)
    go_wp2
    go_ret
    exact ⟨by simp, (by repeat (first | with_reducible exact Below.refl _ _ | assumption | with_reducible refine bel_alloc ?_ _ | with_reducible refine Below.drew ?_ | with_reducible refine bel_drewN ?_ _ | with_reducible refine bel_set ?_ (by go_light; first | (simp; done) | (simp; omega) | omega) _ | refine bel_trans ?_ (by assumption)))⟩
  by_cases n1 : (s : Int) - 4 < vn
  · have e : ok = false := by rw [hok]; simp; omega
    subst e
    clear hok
    go_enter Try.func33, Try.ntmps33
    go_wp2_with (first | (go_at_call 39; refine (good_any _ _ _ _).mono ?_; rintro e w1 ⟨rfl, hb1⟩; have hz1 := bsize hb1; (try simp only [World.size_alloc] at hz1); have d0 := keep_cell hb1 (p := ⟨w.heap.size, 0, none⟩) (v := .int .i64 2) (by go_simp); have d1 := keep_cell hb1 (p := ⟨w.heap.size, 1, none⟩) (v := .int .i64 vn) (by go_simp); have d2 := keep_cell hb1 (p := ⟨w.heap.size, 2, none⟩) (v := .int .i64 vb) (by go_simp); have c0' := keep_cell hb1 (keep_alloc c0 _)) | (go_at_call 31; refine (HF.out _ (by repeat (first | with_reducible exact Below.refl _ _ | with_reducible refine bel_alloc ?_ _ | with_reducible refine bel_set ?_ (by first | exact Nat.le_refl _ | (simp; done) | (simp; omega)) _ | with_reducible refine Below.drew ?_ | refine bel_trans ?_ (by assumption)))).mono ?_; rintro e w' ⟨rfl, hw'⟩; replace hw' := hw'.symm; subst hw'))
    go_quiet (fail)
    go_wp2
    go_ret
    exact ⟨by simp, (by repeat (first | with_reducible exact Below.refl _ _ | assumption | with_reducible refine bel_alloc ?_ _ | with_reducible refine Below.drew ?_ | with_reducible refine bel_drewN ?_ _ | with_reducible refine bel_set ?_ (by go_light; first | (simp; done) | (simp; omega) | omega) _ | refine bel_trans ?_ (by assumption)))⟩
  by_cases n2 : vn.tmod 4 = 0
  · have e : ok = true := by rw [hok]; simp [n2]; omega
    subst e
    clear hok
    go_enter Try.func33, Try.ntmps33
    go_wp2_with (first | (go_at_call 39; refine (good_any _ _ _ _).mono ?_; rintro e w1 ⟨rfl, hb1⟩; have hz1 := bsize hb1; (try simp only [World.size_alloc] at hz1); have d0 := keep_cell hb1 (p := ⟨w.heap.size, 0, none⟩) (v := .int .i64 2) (by go_simp); have d1 := keep_cell hb1 (p := ⟨w.heap.size, 1, none⟩) (v := .int .i64 vn) (by go_simp); have d2 := keep_cell hb1 (p := ⟨w.heap.size, 2, none⟩) (v := .int .i64 vb) (by go_simp); have c0' := keep_cell hb1 (keep_alloc c0 _)) | (go_at_call 31; refine (HF.out _ (by repeat (first | with_reducible exact Below.refl _ _ | with_reducible refine bel_alloc ?_ _ | with_reducible refine bel_set ?_ (by first | exact Nat.le_refl _ | (simp; done) | (simp; omega)) _ | with_reducible refine Below.drew ?_ | refine bel_trans ?_ (by assumption)))).mono ?_; rintro e w' ⟨rfl, hw'⟩; replace hw' := hw'.symm; subst hw'))
    go_quiet (fail)
    go_wp2
    go_ret
    exact ⟨by simp, (by repeat (first | with_reducible exact Below.refl _ _ | assumption | with_reducible refine bel_alloc ?_ _ | with_reducible refine Below.drew ?_ | with_reducible refine bel_drewN ?_ _ | with_reducible refine bel_set ?_ (by go_light; first | (simp; done) | (simp; omega) | omega) _ | refine bel_trans ?_ (by assumption)))⟩
  · have e : ok = false := by rw [hok]; simp [n2]
    subst e
    clear hok
    have g2 : (vn.tmod 4 != 0) = true := by simp [n2]
    go_enter Try.func33, Try.ntmps33
    go_wp2_with (first | (go_at_call 39; refine (good_any _ _ _ _).mono ?_; rintro e w1 ⟨rfl, hb1⟩; have hz1 := bsize hb1; (try simp only [World.size_alloc] at hz1); have d0 := keep_cell hb1 (p := ⟨w.heap.size, 0, none⟩) (v := .int .i64 2) (by go_simp); have d1 := keep_cell hb1 (p := ⟨w.heap.size, 1, none⟩) (v := .int .i64 vn) (by go_simp); have d2 := keep_cell hb1 (p := ⟨w.heap.size, 2, none⟩) (v := .int .i64 vb) (by go_simp); have c0' := keep_cell hb1 (keep_alloc c0 _)) | (go_at_call 31; refine (HF.out _ (by repeat (first | with_reducible exact Below.refl _ _ | with_reducible refine bel_alloc ?_ _ | with_reducible refine bel_set ?_ (by first | exact Nat.le_refl _ | (simp; done) | (simp; omega)) _ | with_reducible refine Below.drew ?_ | refine bel_trans ?_ (by assumption)))).mono ?_; rintro e w' ⟨rfl, hw'⟩; replace hw' := hw'.symm; subst hw'))
    go_quiet (fail)
    go_wp2
    go_ret
    exact ⟨by simp, (by repeat (first | with_reducible exact Below.refl _ _ | assumption | with_reducible refine bel_alloc ?_ _ | with_reducible refine Below.drew ?_ | with_reducible refine bel_drewN ?_ _ | with_reducible refine bel_set ?_ (by go_light; first | (simp; done) | (simp; omega) | omega) _ | refine bel_trans ?_ (by assumption)))⟩

set_option maxHeartbeats 1000000 in
theorem right_kind8 (p : Nat) (vk vn vb : Int) (w : World) (h2 : vk ≠ 2) : Calls Try.prog 33 #[.pointer (some ⟨p, 0, none⟩), .int .i64 8, .agg #[.int .i64 vk, .int .i64 vn, .int .i64 vb]] w (retP (.pointer none) w) := by
  have g2 : (vk != 2) = true := by simp [h2]
  go_enter Try.func33, Try.ntmps33
  go_wp2
  go_ret
  exact ⟨rfl, (by repeat (first | with_reducible exact Below.refl _ _ | with_reducible refine bel_alloc ?_ _ | with_reducible refine bel_set ?_ (by first | exact Nat.le_refl _ | (simp; done) | (simp; omega)) _ | with_reducible refine Below.drew ?_ | refine bel_trans ?_ (by assumption)))⟩
set_option maxHeartbeats 1000000 in
theorem right_good8 (p : Nat) (vn vb : Int) (w : World) (hg : goodF ⟨2, vn, vb⟩ = false) : Calls Try.prog 33 #[.pointer (some ⟨p, 0, none⟩), .int .i64 8, .agg #[.int .i64 2, .int .i64 vn, .int .i64 vb]] w (retP (.pointer none) w) := by
  go_enter Try.func33, Try.ntmps33
  go_wp2_with (go_at_call 39; refine (good_any _ _ _ _).mono ?_; rintro e w1 ⟨rfl, hb1⟩; have hz1 := bsize hb1; (try simp only [World.size_alloc] at hz1); have d0 := keep_cell hb1 (p := ⟨w.heap.size, 0, none⟩) (v := .int .i64 2) (by go_simp); have d1 := keep_cell hb1 (p := ⟨w.heap.size, 1, none⟩) (v := .int .i64 vn) (by go_simp); have d2 := keep_cell hb1 (p := ⟨w.heap.size, 2, none⟩) (v := .int .i64 vb) (by go_simp))
  go_ret
  exact ⟨rfl, (by repeat (first | with_reducible exact Below.refl _ _ | with_reducible refine bel_alloc ?_ _ | with_reducible refine bel_set ?_ (by first | exact Nat.le_refl _ | (simp; done) | (simp; omega)) _ | with_reducible refine Below.drew ?_ | refine bel_trans ?_ (by assumption)))⟩

set_option maxHeartbeats 1000000 in
theorem right_none8 (p : Nat) (vn vb : Int) (w : World) (hg : goodF ⟨2, vn, vb⟩ = true) (hF : ∀ W, Below w.heap.size w W → Calls Try.prog 31 #[.pointer (some ⟨p, 0, none⟩), .int .i64 vb] W fun e w' => e = .returned (.pointer none) ∧ w' = W) : Calls Try.prog 33 #[.pointer (some ⟨p, 0, none⟩), .int .i64 8, .agg #[.int .i64 2, .int .i64 vn, .int .i64 vb]] w (retP (.pointer none) w) := by
  have HF : Hid _ := hF
  clear hF
  go_enter Try.func33, Try.ntmps33
  go_wp2_with (first | (go_at_call 39; refine (good_any _ _ _ _).mono ?_; rintro e w1 ⟨rfl, hb1⟩; have hz1 := bsize hb1; (try simp only [World.size_alloc] at hz1); have d0 := keep_cell hb1 (p := ⟨w.heap.size, 0, none⟩) (v := .int .i64 2) (by go_simp); have d1 := keep_cell hb1 (p := ⟨w.heap.size, 1, none⟩) (v := .int .i64 vn) (by go_simp); have d2 := keep_cell hb1 (p := ⟨w.heap.size, 2, none⟩) (v := .int .i64 vb) (by go_simp)) | (go_at_call 31; refine (HF.out _ (by repeat (first | with_reducible exact Below.refl _ _ | with_reducible refine bel_alloc ?_ _ | with_reducible refine bel_set ?_ (by first | exact Nat.le_refl _ | (simp; done) | (simp; omega)) _ | with_reducible refine Below.drew ?_ | refine bel_trans ?_ (by assumption)))).mono ?_; rintro e w' ⟨rfl, hw'⟩; replace hw' := hw'.symm; subst hw'))
  go_quiet (fail)
  go_wp2
  go_ret
  exact ⟨rfl, (by repeat (first | with_reducible exact Below.refl _ _ | assumption | with_reducible refine bel_alloc ?_ _ | with_reducible refine Below.drew ?_ | with_reducible refine bel_drewN ?_ _ | with_reducible refine bel_set ?_ (by go_light; first | (simp; done) | (simp; omega) | omega) _ | refine bel_trans ?_ (by assumption)))⟩
set_option maxHeartbeats 1000000 in
theorem right_some8 (p g o : Nat) (s : Nat) (vn vb : Int) (ok : Bool) (w : World) (hg : goodF ⟨2, vn, vb⟩ = true) (c0 : w.cell? ⟨g, o, none⟩ = some (.int .i64 s)) (hs : s ≤ 65536)
    (hF : ∀ W, Below w.heap.size w W → Calls Try.prog 31 #[.pointer (some ⟨p, 0, none⟩), .int .i64 vb] W fun e w' => e = .returned (.pointer (some ⟨g, o, none⟩)) ∧ w' = W) (hok : ok = decide (0 ≤ vn ∧ vn ≤ (s : Int) - 8 ∧ vn.tmod 8 = 0)) :
    Calls Try.prog 33 #[.pointer (some ⟨p, 0, none⟩), .int .i64 8, .agg #[.int .i64 2, .int .i64 vn, .int .i64 vb]] w (retP (if ok = true then .pointer (some ⟨g, o, none⟩) else .pointer none) w) := by
  have HF : Hid _ := hF
  clear hF
  have gl : g < w.heap.size := block_lt_of_cell c0
  have hw : IntKind.i64.wrap ((s : Int) - 8) = (s : Int) - 8 := by rw [i64w]; unfold wrap64; omega
  by_cases n0 : vn < 0
  · have e : ok = false := by rw [hok]; simp; omega
    subst e
    clear hok
    go_enter Try.func33, Try.ntmps33
    go_wp2_with (first | (go_at_call 39; refine (good_any _ _ _ _).mono ?_; rintro e w1 ⟨rfl, hb1⟩; have hz1 := bsize hb1; (try simp only [World.size_alloc] at hz1); have d0 := keep_cell hb1 (p := ⟨w.heap.size, 0, none⟩) (v := .int .i64 2) (by go_simp); have d1 := keep_cell hb1 (p := ⟨w.heap.size, 1, none⟩) (v := .int .i64 vn) (by go_simp); have d2 := keep_cell hb1 (p := ⟨w.heap.size, 2, none⟩) (v := .int .i64 vb) (by go_simp); have c0' := keep_cell hb1 (keep_alloc c0 _)) | (go_at_call 31; refine (HF.out _ (by repeat (first | with_reducible exact Below.refl _ _ | with_reducible refine bel_alloc ?_ _ | with_reducible refine bel_set ?_ (by first | exact Nat.le_refl _ | (simp; done) | (simp; omega)) _ | with_reducible refine Below.drew ?_ | refine bel_trans ?_ (by assumption)))).mono ?_; rintro e w' ⟨rfl, hw'⟩; replace hw' := hw'.symm; subst hw'))
    go_quiet (fail)
    go_wp2
    go_ret
    exact ⟨by simp, (by repeat (first | with_reducible exact Below.refl _ _ | assumption | with_reducible refine bel_alloc ?_ _ | with_reducible refine Below.drew ?_ | with_reducible refine bel_drewN ?_ _ | with_reducible refine bel_set ?_ (by go_light; first | (simp; done) | (simp; omega) | omega) _ | refine bel_trans ?_ (by assumption)))⟩
  by_cases n1 : (s : Int) - 8 < vn
  · have e : ok = false := by rw [hok]; simp; omega
    subst e
    clear hok
    go_enter Try.func33, Try.ntmps33
    go_wp2_with (first | (go_at_call 39; refine (good_any _ _ _ _).mono ?_; rintro e w1 ⟨rfl, hb1⟩; have hz1 := bsize hb1; (try simp only [World.size_alloc] at hz1); have d0 := keep_cell hb1 (p := ⟨w.heap.size, 0, none⟩) (v := .int .i64 2) (by go_simp); have d1 := keep_cell hb1 (p := ⟨w.heap.size, 1, none⟩) (v := .int .i64 vn) (by go_simp); have d2 := keep_cell hb1 (p := ⟨w.heap.size, 2, none⟩) (v := .int .i64 vb) (by go_simp); have c0' := keep_cell hb1 (keep_alloc c0 _)) | (go_at_call 31; refine (HF.out _ (by repeat (first | with_reducible exact Below.refl _ _ | with_reducible refine bel_alloc ?_ _ | with_reducible refine bel_set ?_ (by first | exact Nat.le_refl _ | (simp; done) | (simp; omega)) _ | with_reducible refine Below.drew ?_ | refine bel_trans ?_ (by assumption)))).mono ?_; rintro e w' ⟨rfl, hw'⟩; replace hw' := hw'.symm; subst hw'))
    go_quiet (fail)
    go_wp2
    go_ret
    exact ⟨by simp, (by repeat (first | with_reducible exact Below.refl _ _ | assumption | with_reducible refine bel_alloc ?_ _ | with_reducible refine Below.drew ?_ | with_reducible refine bel_drewN ?_ _ | with_reducible refine bel_set ?_ (by go_light; first | (simp; done) | (simp; omega) | omega) _ | refine bel_trans ?_ (by assumption)))⟩
  by_cases n2 : vn.tmod 8 = 0
  · have e : ok = true := by rw [hok]; simp [n2]; omega
    subst e
    clear hok
    go_enter Try.func33, Try.ntmps33
    go_wp2_with (first | (go_at_call 39; refine (good_any _ _ _ _).mono ?_; rintro e w1 ⟨rfl, hb1⟩; have hz1 := bsize hb1; (try simp only [World.size_alloc] at hz1); have d0 := keep_cell hb1 (p := ⟨w.heap.size, 0, none⟩) (v := .int .i64 2) (by go_simp); have d1 := keep_cell hb1 (p := ⟨w.heap.size, 1, none⟩) (v := .int .i64 vn) (by go_simp); have d2 := keep_cell hb1 (p := ⟨w.heap.size, 2, none⟩) (v := .int .i64 vb) (by go_simp); have c0' := keep_cell hb1 (keep_alloc c0 _)) | (go_at_call 31; refine (HF.out _ (by repeat (first | with_reducible exact Below.refl _ _ | with_reducible refine bel_alloc ?_ _ | with_reducible refine bel_set ?_ (by first | exact Nat.le_refl _ | (simp; done) | (simp; omega)) _ | with_reducible refine Below.drew ?_ | refine bel_trans ?_ (by assumption)))).mono ?_; rintro e w' ⟨rfl, hw'⟩; replace hw' := hw'.symm; subst hw'))
    go_quiet (fail)
    go_wp2
    go_ret
    exact ⟨by simp, (by repeat (first | with_reducible exact Below.refl _ _ | assumption | with_reducible refine bel_alloc ?_ _ | with_reducible refine Below.drew ?_ | with_reducible refine bel_drewN ?_ _ | with_reducible refine bel_set ?_ (by go_light; first | (simp; done) | (simp; omega) | omega) _ | refine bel_trans ?_ (by assumption)))⟩
  · have e : ok = false := by rw [hok]; simp [n2]
    subst e
    clear hok
    have g2 : (vn.tmod 8 != 0) = true := by simp [n2]
    go_enter Try.func33, Try.ntmps33
    go_wp2_with (first | (go_at_call 39; refine (good_any _ _ _ _).mono ?_; rintro e w1 ⟨rfl, hb1⟩; have hz1 := bsize hb1; (try simp only [World.size_alloc] at hz1); have d0 := keep_cell hb1 (p := ⟨w.heap.size, 0, none⟩) (v := .int .i64 2) (by go_simp); have d1 := keep_cell hb1 (p := ⟨w.heap.size, 1, none⟩) (v := .int .i64 vn) (by go_simp); have d2 := keep_cell hb1 (p := ⟨w.heap.size, 2, none⟩) (v := .int .i64 vb) (by go_simp); have c0' := keep_cell hb1 (keep_alloc c0 _)) | (go_at_call 31; refine (HF.out _ (by repeat (first | with_reducible exact Below.refl _ _ | with_reducible refine bel_alloc ?_ _ | with_reducible refine bel_set ?_ (by first | exact Nat.le_refl _ | (simp; done) | (simp; omega)) _ | with_reducible refine Below.drew ?_ | refine bel_trans ?_ (by assumption)))).mono ?_; rintro e w' ⟨rfl, hw'⟩; replace hw' := hw'.symm; subst hw'))
    go_quiet (fail)
    go_wp2
    go_ret
    exact ⟨by simp, (by repeat (first | with_reducible exact Below.refl _ _ | assumption | with_reducible refine bel_alloc ?_ _ | with_reducible refine Below.drew ?_ | with_reducible refine bel_drewN ?_ _ | with_reducible refine bel_set ?_ (by go_light; first | (simp; done) | (simp; omega) | omega) _ | refine bel_trans ?_ (by assumption)))⟩

theorem right_any {w : World} {base p : Nat} {R : Nat → Option Role} {a : Option Addr} {cap g : Nat} {cur : Array Value} {M : List AB} (h : MemIs w base p R a cap g cur M) (c : Int) (v : V) :
    Calls Try.prog 33 #[.pointer (some ⟨p, 0, none⟩), .int .i64 c, .agg #[.int .i64 v.k, .int .i64 v.n, .int .i64 v.b]] w (retP (ptrV g (rightK M c v)) w) := by
  obtain ⟨vk, vn, vb⟩ := v
  simp only []
  by_cases hc : c = 1 ∨ c = 4 ∨ c = 8
  · by_cases hk : vk = 2
    · subst hk
      cases hg : goodF ⟨2, vn, vb⟩
      · have e : rightK M c ⟨2, vn, vb⟩ = none := by simp [rightK, hg]
        rw [e]
        rcases hc with rfl | rfl | rfl
        · exact right_good1 p vn vb w hg
        · exact right_good4 p vn vb w hg
        · exact right_good8 p vn vb w hg
      · have hF : ∀ W, Below w.heap.size w W → Calls Try.prog 31 #[.pointer (some ⟨p, 0, none⟩), .int .i64 vb] W fun e w' => e = .returned (ptrV g (findK M vb)) ∧ w' = W := fun W hW => find_any (h.below hW) vb
        cases hf : findK M vb with
        | none =>
          rw [hf] at hF
          have e : rightK M c ⟨2, vn, vb⟩ = none := by simp [rightK, hg, hf]
          rw [e]
          rcases hc with rfl | rfl | rfl
          · exact right_none1 p vn vb w hg hF
          · exact right_none4 p vn vb w hg hF
          · exact right_none8 p vn vb w hg hF
        | some k =>
          rw [hf] at hF
          obtain ⟨_, ab, hab, _⟩ := findK_some hf
          obtain ⟨_, _, hh, _⟩ := h.has hab
          have c0 := ((h.blk k ab hab).cells hh).1
          have hs := h.sz ab (List.mem_of_getElem? hab)
          have e : rightK M c ⟨2, vn, vb⟩ = if decide (0 ≤ vn ∧ vn ≤ (ab.size : Int) - c ∧ vn.tmod c = 0) = true then some k else none := by
            simp [rightK, hg, hf, hab, hc]
          rw [e]
          rcases hc with rfl | rfl | rfl
          · have := right_some1 p g (k * 4) ab.size vn vb _ w hg c0 hs hF rfl
            cases hd : decide (0 ≤ vn ∧ vn ≤ (ab.size : Int) - 1 ∧ vn.tmod 1 = 0) <;> (rw [hd] at this; simpa [ptrV] using this)
          · have := right_some4 p g (k * 4) ab.size vn vb _ w hg c0 hs hF rfl
            cases hd : decide (0 ≤ vn ∧ vn ≤ (ab.size : Int) - 4 ∧ vn.tmod 4 = 0) <;> (rw [hd] at this; simpa [ptrV] using this)
          · have := right_some8 p g (k * 4) ab.size vn vb _ w hg c0 hs hF rfl
            cases hd : decide (0 ≤ vn ∧ vn ≤ (ab.size : Int) - 8 ∧ vn.tmod 8 = 0) <;> (rw [hd] at this; simpa [ptrV] using this)
    · have e : rightK M c ⟨vk, vn, vb⟩ = none := by simp [rightK, hk]
      rw [e]
      rcases hc with rfl | rfl | rfl
      · exact right_kind1 p vk vn vb w hk
      · exact right_kind4 p vk vn vb w hk
      · exact right_kind8 p vk vn vb w hk
  · have e : rightK M c ⟨vk, vn, vb⟩ = none := by simp [rightK, hc]
    rw [e]
    exact right_chunk p c vk vn vb w (by omega) (by omega) (by omega)
theorem rightK_some {M : List AB} {c : Int} {v : V} {k : Nat} (h : rightK M c v = some k) :
    (c = 1 ∨ c = 4 ∨ c = 8) ∧ v.k = 2 ∧ goodF v = true ∧ findK M v.b = some k ∧ ∃ ab, M[k]? = some ab ∧ ab.freed = false ∧ 0 ≤ v.n ∧ v.n ≤ (ab.size : Int) - c ∧ v.n.tmod c = 0 := by
  unfold rightK at h
  split at h
  · rename_i h0
    split at h
    · cases h
    · rename_i k' hk'
      split at h
      · cases h
      · rename_i ab hab
        split at h
        · rename_i h1
          cases h
          obtain ⟨_, ab', hab', hf⟩ := findK_some hk'
          rw [hab] at hab'
          cases hab'
          exact ⟨h0.1, h0.2.1, h0.2.2, hk', ab, hab, hf, h1⟩
        · cases h
  · cases h

end Go.Proofs.Ytnklpccggbkknaa
