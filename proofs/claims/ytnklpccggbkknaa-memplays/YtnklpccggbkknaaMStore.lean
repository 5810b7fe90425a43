/- Contract of Store. -/
import Derived.Test.YtnklpccggbkknaaMPlace3
namespace Go.Proofs.Ytnklpccggbkknaa
open Go.ChangeShapes Go.WideShapes Go.ChangeAt Go.RowKit Pl
set_option linter.unusedSimpArgs false
set_option linter.unusedVariables false

/-- The value that is stored: what may not be is Undef. -/
def goodV (v : V) : V := if goodF v = true then v else noV
def storeM (M : List AB) (c : Int) (u v : V) : List AB × Bool :=
  match rightK M c u with
  | none => (M, false)
  | some k => match M[k]? with
    | none => (M, false)
    | some ab => if (goodV v).k = 2 ∧ c ≠ 8 then (M, false) else (M.set k (setB ab (u.n / 8).toNat (stW (ab.wd (u.n / 8).toNat) (laneF c (u.n % 8)) (goodV v))), true)
def rcon (p : Nat) (c uk un ub : Int) (v : Value) (w : World) : Prop :=
  Hid (∀ W, Below w.heap.size w W → Calls Try.prog 33 #[.pointer (some ⟨p, 0, none⟩), .int .i64 c, .agg #[.int .i64 uk, .int .i64 un, .int .i64 ub]] W (retP v W))
set_option maxHeartbeats 1000000 in
theorem store_none (p : Nat) (c uk un ub vk vn vb : Int) (w : World) (HR : rcon p c uk un ub (.pointer none) w) :
    Calls Try.prog 15 #[.pointer (some ⟨p, 0, none⟩), .int .i64 c, .agg #[.int .i64 uk, .int .i64 un, .int .i64 ub], .agg #[.int .i64 vk, .int .i64 vn, .int .i64 vb]] w (retP (.bool false) w) := by
  go_enter Try.func15, Try.ntmps15
  go_wp2_with (go_at_call 33; refine (HR.out _ (by repeat (first | with_reducible exact Below.refl _ _ | with_reducible refine bel_alloc ?_ _ | with_reducible refine bel_set ?_ (by first | exact Nat.le_refl _ | (simp; done) | (simp; omega)) _ | with_reducible refine Below.drew ?_ | refine bel_trans ?_ (by assumption)))).mono ?_; rintro e w1 ⟨rfl, hb1⟩)
  go_ret
  exact ⟨rfl, (by repeat (first | with_reducible exact Below.refl _ _ | with_reducible refine bel_alloc ?_ _ | with_reducible refine bel_set ?_ (by first | exact Nat.le_refl _ | (simp; done) | (simp; omega)) _ | with_reducible refine Below.drew ?_ | refine bel_trans ?_ (by assumption)))⟩
set_option maxHeartbeats 1000000 in
theorem store_ptr (p g o : Nat) (c uk un ub vn vb : Int) (w : World) (HR : rcon p c uk un ub (.pointer (some ⟨g, o, none⟩)) w) (hg : goodF ⟨2, vn, vb⟩ = true) (hc : (c != 8) = true) :
    Calls Try.prog 15 #[.pointer (some ⟨p, 0, none⟩), .int .i64 c, .agg #[.int .i64 uk, .int .i64 un, .int .i64 ub], .agg #[.int .i64 2, .int .i64 vn, .int .i64 vb]] w (retP (.bool false) w) := by
  go_enter Try.func15, Try.ntmps15
  go_wp2_with (first
    | (go_at_call 33; refine (HR.out _ (by repeat (first | with_reducible exact Below.refl _ _ | with_reducible refine bel_alloc ?_ _ | with_reducible refine bel_set ?_ (by first | exact Nat.le_refl _ | (simp; done) | (simp; omega)) _ | with_reducible refine Below.drew ?_ | refine bel_trans ?_ (by assumption)))).mono ?_; rintro e w1 ⟨rfl, hb1⟩; have d0 := keep_cell hb1 (p := ⟨w.heap.size + 1, 0, none⟩) (v := .int .i64 2) (by go_simp); have d1 := keep_cell hb1 (p := ⟨w.heap.size + 1, 1, none⟩) (v := .int .i64 vn) (by go_simp); have d2 := keep_cell hb1 (p := ⟨w.heap.size + 1, 2, none⟩) (v := .int .i64 vb) (by go_simp))
    | (go_at_call 39; refine (good_any _ _ _ _).mono ?_; rintro e w2 ⟨rfl, hb2⟩; replace d0 := keep_cell hb2 d0; replace d1 := keep_cell hb2 d1; replace d2 := keep_cell hb2 d2))
  go_ret
  exact ⟨rfl, (by repeat (first | with_reducible exact Below.refl _ _ | with_reducible refine bel_alloc ?_ _ | with_reducible refine bel_set ?_ (by first | exact Nat.le_refl _ | (simp; done) | (simp; omega)) _ | with_reducible refine Below.drew ?_ | refine bel_trans ?_ (by assumption)))⟩
theorem c3_call {W v : World} {B : Nat} {x y z : Value} (hb : Below W.heap.size W v) (h : W.cell? ⟨B, 0, none⟩ = some x ∧ W.cell? ⟨B, 1, none⟩ = some y ∧ W.cell? ⟨B, 2, none⟩ = some z) : v.cell? ⟨B, 0, none⟩ = some x ∧ v.cell? ⟨B, 1, none⟩ = some y ∧ v.cell? ⟨B, 2, none⟩ = some z :=
  ⟨keep_cell hb h.1, keep_cell hb h.2.1, keep_cell hb h.2.2⟩
theorem c3_ne {W v : World} {q B : Nat} {x y z : Value} (hk : ∀ b o u, b ≠ q → W.cell? ⟨b, o, none⟩ = some u → v.cell? ⟨b, o, none⟩ = some u) (hB : B ≠ q) (h : W.cell? ⟨B, 0, none⟩ = some x ∧ W.cell? ⟨B, 1, none⟩ = some y ∧ W.cell? ⟨B, 2, none⟩ = some z) : v.cell? ⟨B, 0, none⟩ = some x ∧ v.cell? ⟨B, 1, none⟩ = some y ∧ v.cell? ⟨B, 2, none⟩ = some z :=
  ⟨hk _ _ _ hB h.1, hk _ _ _ hB h.2.1, hk _ _ _ hB h.2.2⟩
theorem c3_keep {w W v : World} {B : Nat} {x y z : Value} (hk : ∀ b o u, w.heap.size ≤ b → W.cell? ⟨b, o, none⟩ = some u → v.cell? ⟨b, o, none⟩ = some u) (hB : w.heap.size ≤ B) (h : W.cell? ⟨B, 0, none⟩ = some x ∧ W.cell? ⟨B, 1, none⟩ = some y ∧ W.cell? ⟨B, 2, none⟩ = some z) : v.cell? ⟨B, 0, none⟩ = some x ∧ v.cell? ⟨B, 1, none⟩ = some y ∧ v.cell? ⟨B, 2, none⟩ = some z :=
  ⟨hk _ _ _ hB h.1, hk _ _ _ hB h.2.1, hk _ _ _ hB h.2.2⟩
set_option maxHeartbeats 2000000 in
theorem store_plain (p g o i r : Nat) (c uk un ub vk vn vb : Int) (L : LN) (w : World) (PL : World → Nat → Prop) (FIN : World → Prop) (HR : rcon p c uk un ub (.pointer (some ⟨g, o, none⟩)) w) (hg : goodF ⟨vk, vn, vb⟩ = true) (hk : (vk == 2) = false) (hq : wrap64 (un.tdiv 8) = i) (hq' : IntKind.i64.wrap (un.tdiv 8) = i)
    (PC : Hid (∀ W, Below w.heap.size w W → Calls Try.prog 40 #[.pointer (some ⟨g, o, none⟩), .int .i64 i] W fun e w' => ∃ q, e = .returned (.pointer (some ⟨q, r * 6, none⟩)) ∧ (∀ b o v, w.heap.size ≤ b → W.cell? ⟨b, o, none⟩ = some v → w'.cell? ⟨b, o, none⟩ = some v) ∧ W.heap.size ≤ w'.heap.size ∧ (w.heap.size + 1 < W.heap.size → w.heap.size + 1 ≠ q) ∧ Hid (PL w' q)))
    (LC : Hid (∀ W, Calls Try.prog 36 #[.int .i64 c, .int .i64 un] W (retL L W)))
    (HPT : Hid (∀ W W' q, Hid (PL W q) → Below W.heap.size W W' → Hid (PL W' q)))
    (SC : Hid (∀ W q, Hid (PL W q) → Calls Try.prog 41 #[.pointer (some ⟨q, r * 6, none⟩), .agg #[.int .i64 L.c, .int .i64 L.s, .int .u8 L.m, .int .u64 L.w], .agg #[.int .i64 vk, .int .i64 vn, .int .i64 vb]] W fun e w' => e = .returned (.tuple #[]) ∧ (∀ b o v, b ≠ q → W.cell? ⟨b, o, none⟩ = some v → w'.cell? ⟨b, o, none⟩ = some v) ∧ Hid (FIN w'))) :
    Calls Try.prog 15 #[.pointer (some ⟨p, 0, none⟩), .int .i64 c, .agg #[.int .i64 uk, .int .i64 un, .int .i64 ub], .agg #[.int .i64 vk, .int .i64 vn, .int .i64 vb]] w fun e w' => e = .returned (.bool true) ∧ FIN w' := by
  go_enter Try.func15, Try.ntmps15
  go_wp2_with (first
    | (go_at_call 33; refine (HR.out _ (by repeat (first | with_reducible exact Below.refl _ _ | with_reducible refine bel_alloc ?_ _ | with_reducible refine bel_set ?_ (by first | exact Nat.le_refl _ | (simp; done) | (simp; omega)) _ | with_reducible refine Below.drew ?_ | refine bel_trans ?_ (by assumption)))).mono ?_; rintro e w1 ⟨rfl, hb1⟩; have hz1 := bsize hb1; (try simp only [World.size_alloc] at hz1); have z0 := keep_frozen hb1 (p := ⟨w.heap.size + 1, 0, none⟩) (v := .int .i64 vk) (by go_simp) (by go_simp); have z1 := keep_frozen hb1 (p := ⟨w.heap.size + 1, 1, none⟩) (v := .int .i64 vn) (by go_simp) (by go_simp); have z2 := keep_frozen hb1 (p := ⟨w.heap.size + 1, 2, none⟩) (v := .int .i64 vb) (by go_simp) (by go_simp); have d0 := keep_cell hb1 (p := ⟨w.heap.size + 1, 0, none⟩) (v := .int .i64 vk) (by go_simp); have d1 := keep_cell hb1 (p := ⟨w.heap.size + 1, 1, none⟩) (v := .int .i64 vn) (by go_simp); have d2 := keep_cell hb1 (p := ⟨w.heap.size + 1, 2, none⟩) (v := .int .i64 vb) (by go_simp); have u1 := keep_cell hb1 (p := ⟨w.heap.size, 1, none⟩) (v := .int .i64 un) (by go_simp))
    | (go_at_call 39; refine (good_any _ _ _ _).mono ?_; rintro e w2 ⟨rfl, hb2⟩; have hz2 := bsize hb2; (try simp only [World.size_drew, size_set] at hz2); replace z0 := keep_frozen hb2 d0 z0; replace z1 := keep_frozen hb2 d1 z1; replace z2 := keep_frozen hb2 d2 z2; replace d0 := keep_cell hb2 d0; replace d1 := keep_cell hb2 d1; replace d2 := keep_cell hb2 d2; replace u1 := keep_cell hb2 u1))
  go_region_held3 (fun w' => w'.cell? ⟨w.heap.size + 1, 0, none⟩ = some (.int .i64 vk) ∧ w'.cell? ⟨w.heap.size + 1, 1, none⟩ = some (.int .i64 vn) ∧ w'.cell? ⟨w.heap.size + 1, 2, none⟩ = some (.int .i64 vb))
    (first | with_reducible exact c3_ne hk5 hne (by assumption) | with_reducible exact c3_call hb4 (by assumption) | with_reducible exact c3_keep hk3 (by omega) (by assumption) | ((go_simp; done)))
    (first
      | (go_at_call 40; refine (PC.out _ (by repeat (first | with_reducible exact Below.refl _ _ | assumption | with_reducible refine bel_alloc ?_ _ | with_reducible refine Below.drew ?_ | with_reducible refine bel_drewN ?_ _ | with_reducible refine bel_set ?_ (by go_light; first | (simp; done) | (simp; omega) | omega) _ | refine bel_trans ?_ (by assumption)))).mono ?_; rintro e w3 ⟨q, rfl, hk3, hz3, hne, HPL⟩; replace hne := hne (by first | omega | (simp only [World.size_drew, size_set]; omega)))
      | (go_at_call 36; refine (LC.out _).mono ?_; rintro e w4 ⟨rfl, hb4⟩; have hz4 := bsize hb4; (try simp only [World.size_drew, size_set] at hz4); (try replace HPL := HPT.out _ _ _ HPL hb4))
      | (go_at_call 41; refine (SC.out _ _ HPL).mono ?_; rintro e w5 ⟨rfl, hk5, hfin⟩))
  all_goals
    go_wp2
    go_ret
    exact ⟨rfl, hfin.out⟩
set_option maxHeartbeats 2000000 in
theorem store_addr (p g o i r : Nat) (c uk un ub vn vb : Int) (L : LN) (w : World) (PL : World → Nat → Prop) (FIN : World → Prop) (HR : rcon p c uk un ub (.pointer (some ⟨g, o, none⟩)) w) (hg : goodF ⟨2, vn, vb⟩ = true) (hc : (c != 8) = false) (hq : wrap64 (un.tdiv 8) = i) (hq' : IntKind.i64.wrap (un.tdiv 8) = i)
    (PC : Hid (∀ W, Below w.heap.size w W → Calls Try.prog 40 #[.pointer (some ⟨g, o, none⟩), .int .i64 i] W fun e w' => ∃ q, e = .returned (.pointer (some ⟨q, r * 6, none⟩)) ∧ (∀ b o v, w.heap.size ≤ b → W.cell? ⟨b, o, none⟩ = some v → w'.cell? ⟨b, o, none⟩ = some v) ∧ W.heap.size ≤ w'.heap.size ∧ (w.heap.size + 1 < W.heap.size → w.heap.size + 1 ≠ q) ∧ Hid (PL w' q)))
    (LC : Hid (∀ W, Calls Try.prog 36 #[.int .i64 c, .int .i64 un] W (retL L W)))
    (HPT : Hid (∀ W W' q, Hid (PL W q) → Below W.heap.size W W' → Hid (PL W' q)))
    (SC : Hid (∀ W q, Hid (PL W q) → Calls Try.prog 41 #[.pointer (some ⟨q, r * 6, none⟩), .agg #[.int .i64 L.c, .int .i64 L.s, .int .u8 L.m, .int .u64 L.w], .agg #[.int .i64 2, .int .i64 vn, .int .i64 vb]] W fun e w' => e = .returned (.tuple #[]) ∧ (∀ b o v, b ≠ q → W.cell? ⟨b, o, none⟩ = some v → w'.cell? ⟨b, o, none⟩ = some v) ∧ Hid (FIN w'))) :
    Calls Try.prog 15 #[.pointer (some ⟨p, 0, none⟩), .int .i64 c, .agg #[.int .i64 uk, .int .i64 un, .int .i64 ub], .agg #[.int .i64 2, .int .i64 vn, .int .i64 vb]] w fun e w' => e = .returned (.bool true) ∧ FIN w' := by
  go_enter Try.func15, Try.ntmps15
  go_wp2_with (first
    | (go_at_call 33; refine (HR.out _ (by repeat (first | with_reducible exact Below.refl _ _ | with_reducible refine bel_alloc ?_ _ | with_reducible refine bel_set ?_ (by first | exact Nat.le_refl _ | (simp; done) | (simp; omega)) _ | with_reducible refine Below.drew ?_ | refine bel_trans ?_ (by assumption)))).mono ?_; rintro e w1 ⟨rfl, hb1⟩; have hz1 := bsize hb1; (try simp only [World.size_alloc] at hz1); have z0 := keep_frozen hb1 (p := ⟨w.heap.size + 1, 0, none⟩) (v := .int .i64 2) (by go_simp) (by go_simp); have z1 := keep_frozen hb1 (p := ⟨w.heap.size + 1, 1, none⟩) (v := .int .i64 vn) (by go_simp) (by go_simp); have z2 := keep_frozen hb1 (p := ⟨w.heap.size + 1, 2, none⟩) (v := .int .i64 vb) (by go_simp) (by go_simp); have d0 := keep_cell hb1 (p := ⟨w.heap.size + 1, 0, none⟩) (v := .int .i64 2) (by go_simp); have d1 := keep_cell hb1 (p := ⟨w.heap.size + 1, 1, none⟩) (v := .int .i64 vn) (by go_simp); have d2 := keep_cell hb1 (p := ⟨w.heap.size + 1, 2, none⟩) (v := .int .i64 vb) (by go_simp); have u1 := keep_cell hb1 (p := ⟨w.heap.size, 1, none⟩) (v := .int .i64 un) (by go_simp))
    | (go_at_call 39; refine (good_any _ _ _ _).mono ?_; rintro e w2 ⟨rfl, hb2⟩; have hz2 := bsize hb2; (try simp only [World.size_drew, size_set] at hz2); replace z0 := keep_frozen hb2 d0 z0; replace z1 := keep_frozen hb2 d1 z1; replace z2 := keep_frozen hb2 d2 z2; replace d0 := keep_cell hb2 d0; replace d1 := keep_cell hb2 d1; replace d2 := keep_cell hb2 d2; replace u1 := keep_cell hb2 u1))
  go_region_held3 (fun w' => w'.cell? ⟨w.heap.size + 1, 0, none⟩ = some (.int .i64 2) ∧ w'.cell? ⟨w.heap.size + 1, 1, none⟩ = some (.int .i64 vn) ∧ w'.cell? ⟨w.heap.size + 1, 2, none⟩ = some (.int .i64 vb))
    (first | with_reducible exact c3_ne hk5 hne (by assumption) | with_reducible exact c3_call hb4 (by assumption) | with_reducible exact c3_keep hk3 (by omega) (by assumption) | ((go_simp; done)))
    (first
      | (go_at_call 40; refine (PC.out _ (by repeat (first | with_reducible exact Below.refl _ _ | assumption | with_reducible refine bel_alloc ?_ _ | with_reducible refine Below.drew ?_ | with_reducible refine bel_drewN ?_ _ | with_reducible refine bel_set ?_ (by go_light; first | (simp; done) | (simp; omega) | omega) _ | refine bel_trans ?_ (by assumption)))).mono ?_; rintro e w3 ⟨q, rfl, hk3, hz3, hne, HPL⟩; replace hne := hne (by first | omega | (simp only [World.size_drew, size_set]; omega)))
      | (go_at_call 36; refine (LC.out _).mono ?_; rintro e w4 ⟨rfl, hb4⟩; have hz4 := bsize hb4; (try simp only [World.size_drew, size_set] at hz4); (try replace HPL := HPT.out _ _ _ HPL hb4))
      | (go_at_call 41; refine (SC.out _ _ HPL).mono ?_; rintro e w5 ⟨rfl, hk5, hfin⟩))
  all_goals
    go_wp2
    go_ret
    exact ⟨rfl, hfin.out⟩
set_option maxHeartbeats 2000000 in
theorem store_bad (p g o i r : Nat) (c uk un ub vk vn vb : Int) (L : LN) (w : World) (PL : World → Nat → Prop) (FIN : World → Prop) (HR : rcon p c uk un ub (.pointer (some ⟨g, o, none⟩)) w) (hg : goodF ⟨vk, vn, vb⟩ = false) (hq : wrap64 (un.tdiv 8) = i) (hq' : IntKind.i64.wrap (un.tdiv 8) = i)
    (PC : Hid (∀ W, Below w.heap.size w W → Calls Try.prog 40 #[.pointer (some ⟨g, o, none⟩), .int .i64 i] W fun e w' => ∃ q, e = .returned (.pointer (some ⟨q, r * 6, none⟩)) ∧ (∀ b o v, w.heap.size ≤ b → W.cell? ⟨b, o, none⟩ = some v → w'.cell? ⟨b, o, none⟩ = some v) ∧ W.heap.size ≤ w'.heap.size ∧ (w.heap.size + 1 < W.heap.size → w.heap.size + 1 ≠ q) ∧ Hid (PL w' q)))
    (LC : Hid (∀ W, Calls Try.prog 36 #[.int .i64 c, .int .i64 un] W (retL L W)))
    (HPT : Hid (∀ W W' q, Hid (PL W q) → Below W.heap.size W W' → Hid (PL W' q)))
    (SC : Hid (∀ W q, Hid (PL W q) → Calls Try.prog 41 #[.pointer (some ⟨q, r * 6, none⟩), .agg #[.int .i64 L.c, .int .i64 L.s, .int .u8 L.m, .int .u64 L.w], .agg #[.int .i64 0, .int .i64 0, .int .i64 0]] W fun e w' => e = .returned (.tuple #[]) ∧ (∀ b o v, b ≠ q → W.cell? ⟨b, o, none⟩ = some v → w'.cell? ⟨b, o, none⟩ = some v) ∧ Hid (FIN w'))) :
    Calls Try.prog 15 #[.pointer (some ⟨p, 0, none⟩), .int .i64 c, .agg #[.int .i64 uk, .int .i64 un, .int .i64 ub], .agg #[.int .i64 vk, .int .i64 vn, .int .i64 vb]] w fun e w' => e = .returned (.bool true) ∧ FIN w' := by
  go_enter Try.func15, Try.ntmps15
  go_wp2_with (first
    | (go_at_call 33; refine (HR.out _ (by repeat (first | with_reducible exact Below.refl _ _ | with_reducible refine bel_alloc ?_ _ | with_reducible refine bel_set ?_ (by first | exact Nat.le_refl _ | (simp; done) | (simp; omega)) _ | with_reducible refine Below.drew ?_ | refine bel_trans ?_ (by assumption)))).mono ?_; rintro e w1 ⟨rfl, hb1⟩; have hz1 := bsize hb1; (try simp only [World.size_alloc] at hz1); have z0 := keep_frozen hb1 (p := ⟨w.heap.size + 1, 0, none⟩) (v := .int .i64 vk) (by go_simp) (by go_simp); have z1 := keep_frozen hb1 (p := ⟨w.heap.size + 1, 1, none⟩) (v := .int .i64 vn) (by go_simp) (by go_simp); have z2 := keep_frozen hb1 (p := ⟨w.heap.size + 1, 2, none⟩) (v := .int .i64 vb) (by go_simp) (by go_simp); have d0 := keep_cell hb1 (p := ⟨w.heap.size + 1, 0, none⟩) (v := .int .i64 vk) (by go_simp); have d1 := keep_cell hb1 (p := ⟨w.heap.size + 1, 1, none⟩) (v := .int .i64 vn) (by go_simp); have d2 := keep_cell hb1 (p := ⟨w.heap.size + 1, 2, none⟩) (v := .int .i64 vb) (by go_simp); have u1 := keep_cell hb1 (p := ⟨w.heap.size, 1, none⟩) (v := .int .i64 un) (by go_simp))
    | (go_at_call 39; refine (good_any _ _ _ _).mono ?_; rintro e w2 ⟨rfl, hb2⟩; have hz2 := bsize hb2; (try simp only [World.size_drew, size_set] at hz2); replace z0 := keep_frozen hb2 d0 z0; replace z1 := keep_frozen hb2 d1 z1; replace z2 := keep_frozen hb2 d2 z2; replace d0 := keep_cell hb2 d0; replace d1 := keep_cell hb2 d1; replace d2 := keep_cell hb2 d2; replace u1 := keep_cell hb2 u1))
  go_region_held3 (fun w' => w'.cell? ⟨w.heap.size + 1, 0, none⟩ = some (.int .i64 0) ∧ w'.cell? ⟨w.heap.size + 1, 1, none⟩ = some (.int .i64 0) ∧ w'.cell? ⟨w.heap.size + 1, 2, none⟩ = some (.int .i64 0))
    (first | with_reducible exact c3_ne hk5 hne (by assumption) | with_reducible exact c3_call hb4 (by assumption) | with_reducible exact c3_keep hk3 (by omega) (by assumption) | ((go_simp; done)))
    (first
      | (go_at_call 40; refine (PC.out _ (by repeat (first | with_reducible exact Below.refl _ _ | assumption | with_reducible refine bel_alloc ?_ _ | with_reducible refine Below.drew ?_ | with_reducible refine bel_drewN ?_ _ | with_reducible refine bel_set ?_ (by go_light; first | (simp; done) | (simp; omega) | omega) _ | refine bel_trans ?_ (by assumption)))).mono ?_; rintro e w3 ⟨q, rfl, hk3, hz3, hne, HPL⟩; replace hne := hne (by first | omega | (simp only [World.size_drew, size_set]; omega)))
      | (go_at_call 36; refine (LC.out _).mono ?_; rintro e w4 ⟨rfl, hb4⟩; have hz4 := bsize hb4; (try simp only [World.size_drew, size_set] at hz4); (try replace HPL := HPT.out _ _ _ HPL hb4))
      | (go_at_call 41; refine (SC.out _ _ HPL).mono ?_; rintro e w5 ⟨rfl, hk5, hfin⟩))
  all_goals
    go_wp2
    go_ret
    exact ⟨rfl, hfin.out⟩
end Go.Proofs.Ytnklpccggbkknaa
