import PyProof.Rows.All
import Wide.All
import OpenK.AllK
import Wide.FinOn
import HandS.ForMost
import HandS.ForExc
import HandS.Wide
import HandS.IsInst
import HandS.Deep
import HandS.Evl
import HandS.More
import HandS.Iter
import PyProof.ReprLen
import PyProof.P3Eq
import PySem.Challenge.RW_whilebusy_k04_states_of_runs
set_option Elab.async false
set_option linter.all false
set_option maxRecDepth 100000
namespace Kw
open PySem PySem.Spec PyProof.Rows L2
/-! ### small words -/
theorem same_upd {H : Hp} {p : Addr} {o : HO} (h : H p = none) : Same H (upd H p o) := fun b x e => by
  rw [upd_ne (ne_of_none e h)]
  exact e
theorem cut_all (xs : List V) (h : xs.length ≤ 63) : cutV xs none (some 63) = xs := by
  unfold cutV
  rw [HT.sIx_none, show HT.sIx xs.length xs.length (some 63) = min 63 xs.length from HT.sIx_nat xs.length xs.length 63]
  rw [List.drop_zero, show min 63 xs.length - 0 = xs.length by omega]
  exact List.take_length
section
variable {X : Cx}
def CPowB (i j : Int) : Prop := 0 ≤ j ∧ (Builtin.Int.intBits i : Int) * j ≤ 2 ^ 27
theorem op_powW : OpR X (binaryOp .Pow) (rI CPowB fun i j => .int (i ^ j.toNat)) := opI fun _ _ _ _ _ _ _ hc q => pow_int hc.1 hc.2 q
end
/-! ### the deck of draws: the list of four at p, its cells at q -/
structure Deck (H : Hp) (p q : Addr) : Prop where
  ex : ∃ (ns : List Int) (i c : Nat) (z : Int), H p = some (.lst [.ref q, .int (i : Int), .int z, .int (c : Int)]) ∧ H q = some (.lst (ns.map V.int)) ∧ (∀ n ∈ ns, 0 ≤ n) ∧ ns.length ≤ 63 ∧ 0 ≤ z ∧ z < 2147483647
theorem deck_ne {H : Hp} {p q : Addr} {ns : List Int} {vs : List V} (h1 : H p = some (.lst (.ref q :: vs))) (h2 : H q = some (.lst (ns.map V.int))) : p ≠ q := fun e => by
  subst e
  rw [h1] at h2
  have h3 := Option.some.inj h2
  cases ns with
  | nil => cases h3
  | cons n r => cases h3
/-- what a draw leaves: all but the deck as it was -/
def But (p q : Addr) (H H' : Hp) : Prop := ∀ b, b ≠ p → b ≠ q → H' b = H b
def spTake : Sp := fun vs H Q _ => ∃ (p q : Addr) (w : Int), vs = [.ref p, .int w] ∧ Deck H p q ∧ 0 < w ∧ w < 1073741824 ∧ ∀ r H', 0 ≤ r → r < w → Deck H' p q → But p q H H' → Q (.int r) H'
def spDeck (K : PySem.W.Frag) : Sp := fun vs H Q _ => ∃ (a : Addr) (ns : List Int), vs = [.ref a] ∧ SqL K H a (ns.map V.int) ∧ ns.length ≤ 63 ∧ ∀ p q H', Same H H' → H p = none → H q = none → Deck H' p q → Q (.ref p) H'
end Kw

set_option Elab.async false
set_option linter.all false
set_option maxRecDepth 100000
namespace Kw
open PySem PySem.Spec PyProof.Rows L2
abbrev D := PyData
abbrev Sg := L2.St
/-! ### values that are data: lists that may be read and added, tuples that stand -/
mutual
inductive Dd (K : PySem.W.Frag) (H : Hp) : V → D → Prop
  | non : Dd K H .non .none
  | bl (b : Bool) : Dd K H (.bl b) (.bool b)
  | int (i : Int) : Dd K H (.int i) (.int i)
  | str (x : Str) : Dd K H (.str x) (.str x)
  | lst {a : Addr} {xs : List V} {ds : List D} : H a = some (.lst xs) → DdL K H xs ds → Dd K H (.ref a) (.list ds)
  | tup {a : Addr} {xs : List V} {ds : List D} : SqT K H a xs → DdL K H xs ds → Dd K H (.ref a) (.tuple ds)
inductive DdL (K : PySem.W.Frag) (H : Hp) : List V → List D → Prop
  | nil : DdL K H [] []
  | cons {v : V} {vs : List V} {d : D} {ds : List D} : Dd K H v d → DdL K H vs ds → DdL K H (v :: vs) (d :: ds)
end
section
variable {K : PySem.W.Frag} {H H' : Hp}
theorem Same.seqT {a : Addr} {xs : List V} (e : Same H H') (h : SqT K H a xs) : SqT K H' a xs := by
  rcases h with (h | ⟨o, h⟩) | h
  · exact .inl (.inl (e _ _ h))
  · exact .inl (.inr ⟨o, e _ _ h⟩)
  · exact .inr h
mutual
theorem Dd.mono (s : Same H H') : ∀ {v : V} {d : D}, Dd K H v d → Dd K H' v d
  | _, _, .non => .non
  | _, _, .bl b => .bl b
  | _, _, .int i => .int i
  | _, _, .str x => .str x
  | _, _, .lst h a => .lst (s _ _ h) (DdL.mono s a)
  | _, _, .tup h a => .tup (Same.seqT s h) (DdL.mono s a)
theorem DdL.mono (s : Same H H') : ∀ {vs : List V} {ds : List D}, DdL K H vs ds → DdL K H' vs ds
  | _, _, .nil => .nil
  | _, _, .cons h t => .cons (Dd.mono s h) (DdL.mono s t)
end
mutual
theorem Dd.dp : ∀ {v : V} {d : D}, Dd K H v d → Dp K H v d
  | _, _, .non => .non
  | _, _, .bl b => .bl b
  | _, _, .int i => .int i
  | _, _, .str x => .str x
  | _, _, .lst h a => .lst (SqL.of h) (DdL.dp a)
  | _, _, .tup h a => .tup h (DdL.dp a)
theorem DdL.dp : ∀ {vs : List V} {ds : List D}, DdL K H vs ds → DpAll K H vs ds
  | _, _, .nil => .nil
  | _, _, .cons h t => .cons (Dd.dp h) (DdL.dp t)
end
theorem DdL.len : ∀ {vs : List V} {ds : List D}, DdL K H vs ds → vs.length = ds.length
  | _, _, .nil => rfl
  | _, _, .cons _ t => congrArg Nat.succ (DdL.len t)
theorem DdL.get : ∀ {vs : List V} {ds : List D} {i : Nat} {d : D}, DdL K H vs ds → ds[i]? = some d → ∃ v, vs[i]? = some v ∧ Dd K H v d
  | _, _, _, _, .nil, e => by simp at e
  | _, _, 0, _, .cons h _, e => by simp at e; subst e; exact ⟨_, rfl, h⟩
  | _, _, i + 1, d, .cons _ t, e => by
    obtain ⟨v, h1, h2⟩ := DdL.get (i := i) (d := d) t (by simpa using e)
    exact ⟨v, by simpa using h1, h2⟩
theorem DdL.at (h : DdL K H vs ds) {i : Int} {d : D} (e : atI ds i = some d) : ∃ v, atI vs i = some v ∧ Dd K H v d := by
  unfold atI at e ⊢
  rw [h.len]
  cases hj : ixN ds.length i with
  | none => rw [hj] at e; cases e
  | some j =>
    rw [hj] at e
    exact h.get e
theorem DdL.set {v : V} {d : D} (hv : Dd K H v d) : ∀ {vs : List V} {ds : List D} (i : Nat), DdL K H vs ds → DdL K H (vs.set i v) (ds.set i d)
  | _, _, _, .nil => .nil
  | _, _, 0, .cons _ t => .cons hv t
  | _, _, i + 1, .cons h t => .cons h (DdL.set hv i t)
theorem DdL.append : ∀ {vs ws : List V} {ds es : List D}, DdL K H vs ds → DdL K H ws es → DdL K H (vs ++ ws) (ds ++ es)
  | _, _, _, _, .nil, s => s
  | _, _, _, _, .cons h t, s => .cons h (DdL.append t s)
theorem DdL.take : ∀ {vs : List V} {ds : List D} (n : Nat), DdL K H vs ds → DdL K H (vs.take n) (ds.take n)
  | _, _, 0, _ => .nil
  | _, _, _ + 1, .nil => .nil
  | _, _, n + 1, .cons h t => .cons h (DdL.take n t)
theorem DdL.drop : ∀ {vs : List V} {ds : List D} (n : Nat), DdL K H vs ds → DdL K H (vs.drop n) (ds.drop n)
  | _, _, 0, h => h
  | _, _, _ + 1, .nil => .nil
  | _, _, n + 1, .cons _ t => DdL.drop n t
theorem DdL.one {v : V} {d : D} (h : Dd K H v d) : DdL K H [v] [d] := .cons h .nil
theorem DdL.rep {v : V} {d : D} (h : Dd K H v d) : ∀ n, DdL K H (List.replicate n v) (List.replicate n d)
  | 0 => .nil
  | n + 1 => .cons h (DdL.rep h n)
/-- data without parts -/
def scl : D → Bool
  | .none | .bool _ | .int _ | .str _ => true
  | _ => false
theorem Dd.any {v : V} {d : D} (h : scl d = true) (x : Dd K H v d) : Dd K H' v d := by
  cases x with
  | non => exact .non
  | bl b => exact .bl b
  | int i => exact .int i
  | str y => exact .str y
  | lst => cases h
  | tup => cases h
end
/-! ### what is hidden -/
def hid (Z : List Addr) (H : Hp) : Hp := fun a => if a ∈ Z then none else H a
section
variable {Z Z' : List Addr} {H H' : Hp} {p : Addr} {o : HO}
theorem hid_out (h : p ∉ Z) : hid Z H p = H p := if_neg h
theorem hid_same (h : ∀ a o, a ∉ Z → H a = some o → H' a = some o) : Same (hid Z H) (hid Z H') := fun a o e => by
  by_cases ha : a ∈ Z
  · rw [show hid Z H a = none from if_pos ha] at e
    cases e
  · rw [hid_out ha] at e ⊢
    exact h a o ha e
theorem hid_sub (h : ∀ a ∈ Z, a ∈ Z') : Same (hid Z' H) (hid Z H) := fun a o e => by
  by_cases ha : a ∈ Z'
  · rw [show hid Z' H a = none from if_pos ha] at e
    cases e
  · rw [hid_out ha] at e
    rw [hid_out fun z => ha (h a z)]
    exact e
theorem hid_all : Same (hid Z H) H := fun a o e => by
  by_cases ha : a ∈ Z
  · rw [show hid Z H a = none from if_pos ha] at e
    cases e
  · rw [hid_out ha] at e
    exact e
theorem hid_more (h : H p = none) : Same (hid Z H) (hid (p :: Z) H) := fun a o e => by
  by_cases ha : a ∈ Z
  · rw [show hid Z H a = none from if_pos ha] at e
    cases e
  · rw [hid_out ha] at e
    rw [hid_out]
    · exact e
    · intro z
      rcases List.mem_cons.mp z with z | z
      · rw [z, h] at e
        cases e
      · exact ha z
theorem hid_upd (h : p ∈ Z) : hid Z (upd H p o) = hid Z H := by
  funext a
  unfold hid
  by_cases ha : a ∈ Z
  · rw [if_pos ha, if_pos ha]
  · rw [if_neg ha, if_neg ha, upd_ne (fun z => ha (by rw [z]; exact h))]
end
/-! ### values that are one's own, also inside: L the lists of it -/
inductive Flat : D → Prop
  | non : Flat .none
  | bl (b : Bool) : Flat (.bool b)
  | int (i : Int) : Flat (.int i)
  | str (x : Str) : Flat (.str x)
  | tup {ds : List D} : (∀ x ∈ ds, Flat x) → Flat (.tuple ds)
mutual
inductive Nw (K : PySem.W.Frag) (H B : Hp) : V → D → List Addr → Prop
  | dat {v : V} {d : D} : Flat d → Dd K B v d → Nw K H B v d []
  | lst {a : Addr} {xs : List V} {ds : List D} {L : List Addr} : H a = some (.lst xs) → NwL K H B xs ds L → Nw K H B (.ref a) (.list ds) (a :: L)
  | tup {a : Addr} {xs : List V} {ds : List D} {L : List Addr} : SqT K B a xs → NwL K H B xs ds L → Nw K H B (.ref a) (.tuple ds) L
inductive NwL (K : PySem.W.Frag) (H B : Hp) : List V → List D → List Addr → Prop
  | nil : NwL K H B [] [] []
  | cons {v : V} {vs : List V} {d : D} {ds : List D} {L M : List Addr} : Nw K H B v d L → NwL K H B vs ds M → NwL K H B (v :: vs) (d :: ds) (L ++ M)
end
section
variable {K : PySem.W.Frag} {H H' B B' : Hp}
mutual
theorem Nw.mono (s : Same B B') : ∀ {v : V} {d : D} {L : List Addr}, (∀ a ∈ L, H' a = H a) → Nw K H B v d L → Nw K H' B' v d L
  | _, _, _, _, .dat f h => .dat f (h.mono s)
  | _, _, _, e, .lst h t => .lst ((e _ (List.mem_cons_self ..)).trans h) (NwL.mono s (fun a m => e a (List.mem_cons_of_mem _ m)) t)
  | _, _, _, e, .tup h t => .tup (Same.seqT s h) (NwL.mono s e t)
theorem NwL.mono (s : Same B B') : ∀ {vs : List V} {ds : List D} {L : List Addr}, (∀ a ∈ L, H' a = H a) → NwL K H B vs ds L → NwL K H' B' vs ds L
  | _, _, _, _, .nil => .nil
  | _, _, _, e, .cons h t => .cons (Nw.mono s (fun a m => e a (List.mem_append_left _ m)) h) (NwL.mono s (fun a m => e a (List.mem_append_right _ m)) t)
end
mutual
theorem Nw.dd (s : Same B B') : ∀ {v : V} {d : D} {L : List Addr}, (∀ a ∈ L, B' a = H a) → Nw K H B v d L → Dd K B' v d
  | _, _, _, _, .dat f h => h.mono s
  | _, _, _, e, .lst h t => .lst ((e _ (List.mem_cons_self ..)).trans h) (NwL.dd s (fun a m => e a (List.mem_cons_of_mem _ m)) t)
  | _, _, _, e, .tup h t => .tup (Same.seqT s h) (NwL.dd s e t)
theorem NwL.dd (s : Same B B') : ∀ {vs : List V} {ds : List D} {L : List Addr}, (∀ a ∈ L, B' a = H a) → NwL K H B vs ds L → DdL K B' vs ds
  | _, _, _, _, .nil => .nil
  | _, _, _, e, .cons h t => .cons (Nw.dd s (fun a m => e a (List.mem_append_left _ m)) h) (NwL.dd s (fun a m => e a (List.mem_append_right _ m)) t)
end
mutual
theorem Nw.alive : ∀ {v : V} {d : D} {L : List Addr}, Nw K H B v d L → ∀ a ∈ L, ∃ xs, H a = some (.lst xs)
  | _, _, _, .dat f h, a, m => (nomatch m)
  | _, _, _, .lst h t, a, m => by
    rcases List.mem_cons.mp m with rfl | m
    · exact ⟨_, h⟩
    · exact NwL.alive t a m
  | _, _, _, .tup h t, a, m => NwL.alive t a m
theorem NwL.alive : ∀ {vs : List V} {ds : List D} {L : List Addr}, NwL K H B vs ds L → ∀ a ∈ L, ∃ xs, H a = some (.lst xs)
  | _, _, _, .nil, a, m => (nomatch m)
  | _, _, _, .cons h t, a, m => by
    rcases List.mem_append.mp m with m | m
    · exact Nw.alive h a m
    · exact NwL.alive t a m
end
theorem NwL.of : ∀ {vs : List V} {ds : List D}, (∀ d ∈ ds, Flat d) → DdL K B vs ds → NwL K H B vs ds []
  | _, _, _, .nil => .nil
  | _, _, f, .cons h t => NwL.cons (L := []) (.dat (f _ (List.mem_cons_self ..)) h) (NwL.of (fun d m => f d (List.mem_cons_of_mem _ m)) t)
theorem NwL.append : ∀ {vs ws : List V} {ds es : List D} {L M : List Addr}, NwL K H B vs ds L → NwL K H B ws es M → NwL K H B (vs ++ ws) (ds ++ es) (L ++ M)
  | _, _, _, _, _, _, .nil, s => s
  | _, _, _, _, _, _, .cons h t, s => by
    rw [List.append_assoc]
    exact .cons h (NwL.append t s)
theorem NwL.one {v : V} {d : D} {L : List Addr} (h : Nw K H B v d L) : NwL K H B [v] [d] L := by
  have := NwL.cons h .nil
  rwa [List.append_nil] at this
theorem NwL.len : ∀ {vs : List V} {ds : List D} {L : List Addr}, NwL K H B vs ds L → vs.length = ds.length
  | _, _, _, .nil => rfl
  | _, _, _, .cons _ t => congrArg Nat.succ (NwL.len t)
theorem upd_off {L : List Addr} {a : Addr} {o : HO} (h : a ∉ L) : ∀ b ∈ L, upd H a o b = H b := fun b m => upd_ne fun e => h (by rw [← e]; exact m)
/-- a list that stands at k is added to -/
theorem NwL.wr {es : List D} : ∀ {vs : List V} {ds : List D} {L : List Addr} {k : Nat}, NwL K H B vs ds L → L.Nodup → ds[k]? = some (.list es) → ∃ a xs, vs[k]? = some (.ref a) ∧ H a = some (.lst xs) ∧ a ∈ L ∧ xs.length = es.length ∧
    ∀ v x, Flat x → Dd K B v x → NwL K (upd H a (.lst (xs ++ [v]))) B vs (ds.set k (.list (es ++ [x]))) L
  | _, _, _, k, .nil, _, e => by simp at e
  | _, _, _, 0, .cons (L := L) (M := M) h t, nd, e => by
    simp at e
    subst e
    cases h with
    | dat f _ => cases f
    | @lst a xs _ L h1 h2 =>
      have nd1 := List.nodup_append.mp nd
      have a1 : a ∉ L := (List.nodup_cons.mp nd1.1).1
      have a2 : a ∉ M := fun m => nd1.2.2 a (List.mem_cons_self ..) a m rfl
      refine ⟨a, xs, rfl, h1, by simp, h2.len, fun v x f hv => .cons (.lst upd_same ?_) (t.mono (fun _ _ e => e) (upd_off a2))⟩
      have := (h2.mono (fun _ _ e => e) (upd_off (o := .lst (xs ++ [v])) a1)).append (.one (.dat (H := upd H a (.lst (xs ++ [v]))) f hv))
      rwa [List.append_nil] at this
  | _, _, _, k + 1, .cons (L := L) (M := M) h t, nd, e => by
    have nd1 := List.nodup_append.mp nd
    obtain ⟨a, xs, h1, h2, h3, h4, h5⟩ := NwL.wr (k := k) t nd1.2.1 (by simpa using e)
    have a1 : a ∉ L := fun m => nd1.2.2 a m a h3 rfl
    exact ⟨a, xs, by simpa using h1, h2, List.mem_append_right _ h3, h4, fun v x f hv => .cons (h.mono (fun _ _ e => e) (upd_off a1)) (h5 v x f hv)⟩
/-- a list in a list that stands at k is added to -/
theorem NwL.wr2 {es fs : List D} {j : Nat} (ej : es[j]? = some (.list fs)) : ∀ {vs : List V} {ds : List D} {L : List Addr} {k : Nat}, NwL K H B vs ds L → L.Nodup → ds[k]? = some (.list es) → ∃ a xs b ys, vs[k]? = some (.ref a) ∧ H a = some (.lst xs) ∧ a ∈ L ∧ xs[j]? = some (.ref b) ∧ H b = some (.lst ys) ∧ b ∈ L ∧
    xs.length = es.length ∧ ys.length = fs.length ∧ ∀ v x, Flat x → Dd K B v x → NwL K (upd H b (.lst (ys ++ [v]))) B vs (ds.set k (.list (es.set j (.list (fs ++ [x]))))) L
  | _, _, _, k, .nil, _, e => by simp at e
  | _, _, _, 0, .cons (L := L) (M := M) h t, nd, e => by
    simp at e
    subst e
    cases h with
    | dat f _ => cases f
    | @lst a xs _ L h1 h2 =>
      have nd1 := List.nodup_append.mp nd
      have nd2 := List.nodup_cons.mp nd1.1
      obtain ⟨b, ys, g1, g2, g3, g4, g5⟩ := h2.wr nd2.2 ej
      have ba : b ≠ a := fun e => nd2.1 (by rw [← e]; exact g3)
      have b2 : b ∉ M := fun m => nd1.2.2 b (List.mem_cons_of_mem _ g3) b m rfl
      refine ⟨a, xs, b, ys, rfl, h1, by simp, g1, g2, by simp [g3], h2.len, g4, fun v x f hv => .cons (.lst ?_ (g5 v x f hv)) (t.mono (fun _ _ e => e) (upd_off b2))⟩
      rw [upd_ne (Ne.symm ba)]
      exact h1
  | _, _, _, k + 1, .cons (L := L) (M := M) h t, nd, e => by
    have nd1 := List.nodup_append.mp nd
    obtain ⟨a, xs, b, ys, h1, h2, h3, h4, h5, h6, h7, h8, h9⟩ := NwL.wr2 ej (k := k) t nd1.2.1 (by simpa using e)
    have a1 : b ∉ L := fun m => nd1.2.2 b m b h6 rfl
    exact ⟨a, xs, b, ys, by simpa using h1, h2, List.mem_append_right _ h3, h4, h5, List.mem_append_right _ h6, h7, h8, fun v x f hv => .cons (h.mono (fun _ _ e => e) (upd_off a1)) (h9 v x f hv)⟩
end
/-! ### the world: what may turn under a call (the deck), and its word -/
structure Wd where
  S : List Addr
  I : Hp → Prop
  al : ∀ {H : Hp}, I H → ∀ a ∈ S, H a ≠ none
  st : ∀ {H H' : Hp}, I H → (∀ a ∈ S, H' a = H a) → I H'
def W0 : Wd := ⟨[], fun _ => True, fun _ _ h => (nomatch h), fun h _ => h⟩
theorem deck_al {H : Hp} {p q : Addr} (h : Deck H p q) : ∀ a ∈ [p, q], H a ≠ none := by
  obtain ⟨ns, i, c, z, h1, h2, _⟩ := h
  intro a ha e
  simp only [List.mem_cons, List.not_mem_nil, or_false] at ha
  rcases ha with rfl | rfl
  · rw [h1] at e
    cases e
  · rw [h2] at e
    cases e
theorem deck_st {H H' : Hp} {p q : Addr} (h : Deck H p q) (e : ∀ a ∈ [p, q], H' a = H a) : Deck H' p q := by
  obtain ⟨ns, i, c, z, h1, h2, r⟩ := h
  exact ⟨ns, i, c, z, (e p (by simp)).trans h1, (e q (by simp)).trans h2, r⟩
def WK (p q : Addr) : Wd := ⟨[p, q], fun H => Deck H p q, deck_al, deck_st⟩
def Gr (S : List Addr) (H H' : Hp) : Prop := ∀ a o, a ∉ S → H a = some o → H' a = some o
section
variable {S : List Addr} {H H1 H2 : Hp} {p : Addr} {o : HO}
theorem Gr.refl (S : List Addr) (H : Hp) : Gr S H H := fun _ _ _ h => h
theorem Gr.trans (a : Gr S H H1) (b : Gr S H1 H2) : Gr S H H2 := fun x o n h => b x o n (a x o n h)
theorem Gr.new (h : H p = none) : Gr S H (upd H p o) := fun a u _ e => by
  rw [upd_ne (ne_of_none e h)]
  exact e
theorem Gr.write (g : Gr S H H1) (h : H p = none) : Gr S H (upd H1 p o) := fun a u n e => by
  rw [upd_ne (ne_of_none e h)]
  exact g a u n e
theorem Gr.of0 (g : Gr [] H H1) : Gr S H H1 := fun a u _ e => g a u (by simp) e
end
theorem Wd.new {W : Wd} {H : Hp} {p : Addr} {o : HO} (i : W.I H) (h : H p = none) : W.I (upd H p o) := W.st i fun a ha => upd_ne fun z => W.al i a ha (by rw [z]; exact h)
theorem Wd.put {W : Wd} {H : Hp} {p : Addr} {o : HO} (i : W.I H) (h : p ∉ W.S) : W.I (upd H p o) := W.st i fun a ha => upd_ne fun z => h (by rw [← z]; exact ha)
theorem Wd.gr0 {W : Wd} {H H' : Hp} (i : W.I H) (g : Gr [] H H') : W.I H' := W.st i fun a ha => by
  cases e : H a with
  | none => exact absurd e (W.al i a ha)
  | some o => exact g a o (by simp) e
theorem Gr.back {W : Wd} {H H' : Hp} {p : Addr} (g : Gr W.S H H') (i : W.I H') (h : H' p = none) : H p = none := by
  cases e : H p with
  | none => rfl
  | some o =>
    by_cases hp : p ∈ W.S
    · exact absurd h (W.al i p hp)
    · rw [g p o hp e] at h
      cases h
/-! ### slots by data -/
inductive Sl where
  | no
  | dat (d : D)
  | own (p : Addr) (ds : List D)
  | raw (v : V)
  | obj (p : Addr) (h : HO)
  | str (L : List Addr) (d : D)
def SlOk (K : PySem.W.Frag) (S Z : List Addr) (H : Hp) : Option V → Sl → Prop
  | _, .no => True
  | o, .dat d => ∃ v, o = some v ∧ Dd K (hid Z H) v d
  | o, .own p ds => o = some (.ref p) ∧ p ∈ Z ∧ p ∉ S ∧ ∃ xs, H p = some (.lst xs) ∧ DdL K (hid Z H) xs ds
  | o, .raw v => o = some v
  | o, .obj p h => o = some (.ref p) ∧ p ∈ Z ∧ p ∉ S ∧ H p = some h
  | o, .str L d => ∃ v, o = some v ∧ (∀ a ∈ L, a ∈ Z ∧ a ∉ S) ∧ L.Nodup ∧ Nw K H (hid Z H) v d L
def Sto (K : PySem.W.Frag) (S Z : List Addr) (H : Hp) : Sg → List Sl → Prop
  | [], [] => True
  | o :: σ, x :: δ => SlOk K S Z H o x ∧ Sto K S Z H σ δ
  | _, _ => False
section
variable {K : PySem.W.Frag} {S Z : List Addr} {H H' : Hp}
theorem SlOk.gr (hs : ∀ a ∈ S, a ∈ Z) (g : Gr S H H') {o : Option V} : ∀ {x : Sl}, SlOk K S Z H o x → SlOk K S Z H' o x
  | .no, _ => True.intro
  | .dat d, ⟨v, e, h⟩ => ⟨v, e, h.mono (hid_same fun a u n q => g a u (fun z => n (hs a z)) q)⟩
  | .own p ds, ⟨e, m, n, xs, h, hd⟩ => ⟨e, m, n, xs, g p _ n h, hd.mono (hid_same fun a u n q => g a u (fun z => n (hs a z)) q)⟩
  | .raw v, h => h
  | .obj p x, ⟨e, m, n, h⟩ => ⟨e, m, n, g p _ n h⟩
  | .str L d, ⟨v, e, m, n, h⟩ => ⟨v, e, m, n, h.mono (hid_same fun a u n q => g a u (fun z => n (hs a z)) q) fun a ha => by
    obtain ⟨xs, hx⟩ := h.alive a ha
    rw [hx]
    exact g a _ (m a ha).2 hx⟩
theorem SlOk.more {p : Addr} (h : H p = none) {o : Option V} : ∀ {x : Sl}, SlOk K S Z H o x → SlOk K S (p :: Z) H o x
  | .no, _ => True.intro
  | .dat d, ⟨v, e, q⟩ => ⟨v, e, q.mono (hid_more h)⟩
  | .own _ _, ⟨e, m, n, xs, q, hd⟩ => ⟨e, List.mem_cons_of_mem _ m, n, xs, q, hd.mono (hid_more h)⟩
  | .raw v, q => q
  | .obj _ _, ⟨e, m, n, q⟩ => ⟨e, List.mem_cons_of_mem _ m, n, q⟩
  | .str L d, ⟨v, e, m, n, q⟩ => ⟨v, e, fun a ha => ⟨List.mem_cons_of_mem _ (m a ha).1, (m a ha).2⟩, n, q.mono (hid_more h) fun _ _ => rfl⟩
theorem Sto.all {K' : PySem.W.Frag} {S' Z' : List Addr} (f : ∀ o x, SlOk K S Z H o x → SlOk K' S' Z' H' o x) : ∀ {σ : Sg} {δ : List Sl}, Sto K S Z H σ δ → Sto K' S' Z' H' σ δ
  | [], [], _ => True.intro
  | _ :: _, _ :: _, ⟨h, t⟩ => ⟨f _ _ h, Sto.all f t⟩
  | [], _ :: _, h => h.elim
  | _ :: _, [], h => h.elim
theorem Sto.get : ∀ {σ : Sg} {δ : List Sl} {i : Nat} {x : Sl}, Sto K S Z H σ δ → δ[i]? = some x → ∃ o, σ[i]? = some o ∧ SlOk K S Z H o x
  | [], [], _, _, _, e => by simp at e
  | o :: _, _ :: _, 0, _, ⟨h, _⟩, e => by simp at e; subst e; exact ⟨o, rfl, h⟩
  | _ :: _, _ :: _, i + 1, x, ⟨_, t⟩, e => by
    obtain ⟨o, h1, h2⟩ := Sto.get (i := i) (x := x) t (by simpa using e)
    exact ⟨o, by simpa using h1, h2⟩
  | [], _ :: _, _, _, h, _ => h.elim
  | _ :: _, [], _, _, h, _ => h.elim
theorem Sto.set {o : Option V} {x : Sl} (q : SlOk K S Z H o x) : ∀ {σ : Sg} {δ : List Sl} (i : Nat), Sto K S Z H σ δ → Sto K S Z H (σ.set i o) (δ.set i x)
  | [], [], _, _ => True.intro
  | _ :: _, _ :: _, 0, ⟨_, t⟩ => ⟨q, t⟩
  | _ :: _, _ :: _, i + 1, ⟨h, t⟩ => ⟨h, Sto.set q i t⟩
  | [], _ :: _, _, h => h.elim
  | _ :: _, [], _, h => h.elim
/-- no other list of the def's own stands at p -/
def sepL (p : Addr) : List Sl → Prop
  | [] => True
  | .own q _ :: r => q ≠ p ∧ sepL p r
  | .str L _ :: r => p ∉ L ∧ sepL p r
  | .obj q _ :: r => q ≠ p ∧ sepL p r
  | _ :: r => sepL p r
theorem Sto.wr {p : Addr} {o : HO} (hp : p ∈ Z) : ∀ {σ : Sg} {δ : List Sl}, sepL p δ → Sto K S Z H σ δ → Sto K S Z (upd H p o) σ δ
  | [], [], _, _ => True.intro
  | _ :: _, .no :: _, s, ⟨_, t⟩ => ⟨True.intro, Sto.wr hp s t⟩
  | _ :: _, .raw _ :: _, s, ⟨h, t⟩ => ⟨h, Sto.wr hp s t⟩
  | _ :: _, .obj q x :: _, s, ⟨⟨e, m, n, h⟩, t⟩ => ⟨⟨e, m, n, by rw [upd_ne s.1]; exact h⟩, Sto.wr hp s.2 t⟩
  | _ :: _, .dat d :: _, s, ⟨⟨v, e, h⟩, t⟩ => ⟨⟨v, e, by rw [hid_upd hp]; exact h⟩, Sto.wr hp s t⟩
  | _ :: _, .own q ds :: _, s, ⟨⟨e, m, n, xs, h, hd⟩, t⟩ => ⟨⟨e, m, n, xs, by rw [upd_ne s.1]; exact h, by rw [hid_upd hp]; exact hd⟩, Sto.wr hp s.2 t⟩
  | _ :: _, .str L d :: _, s, ⟨⟨v, e, m, n, h⟩, t⟩ => ⟨⟨v, e, m, n, by rw [hid_upd hp]; exact h.mono (fun _ _ e => e) (upd_off s.1)⟩, Sto.wr hp s.2 t⟩
  | [], _ :: _, _, h => h.elim
  | _ :: _, [], _, h => h.elim
end
structure Ok (W : Wd) (K : PySem.W.Frag) (Z : List Addr) (H : Hp) (σ : Sg) (δ : List Sl) : Prop where
  inv : W.I H
  al : ∀ z ∈ Z, H z ≠ none
  sub : ∀ a ∈ W.S, a ∈ Z
  sto : Sto K W.S Z H σ δ
section
variable {W : Wd} {K : PySem.W.Frag} {Z : List Addr} {H H' : Hp} {σ : Sg} {δ : List Sl}
theorem al_gr {Y : List Addr} (a : ∀ z ∈ Y, H z ≠ none) (g : Gr W.S H H') (i : W.I H') : ∀ z ∈ Y, H' z ≠ none := fun z hz e => by
  by_cases hs : z ∈ W.S
  · exact W.al i z hs e
  · cases q : H z with
    | none => exact a z hz q
    | some o =>
      rw [g z o hs q] at e
      cases e
theorem Ok.gr (k : Ok W K Z H σ δ) (g : Gr W.S H H') (i : W.I H') : Ok W K Z H' σ δ := ⟨i, al_gr k.al g i, k.sub, k.sto.all fun _ _ h => h.gr k.sub g⟩
theorem Ok.set (k : Ok W K Z H σ δ) {o : Option V} {x : Sl} (i : Nat) (q : SlOk K W.S Z H o x) : Ok W K Z H (σ.set i o) (δ.set i x) := ⟨k.inv, k.al, k.sub, k.sto.set q i⟩
end
/-- the two levels of data: hidden is all that turns (true), or what the world turns alone (false) -/
def lv (W : Wd) (Z : List Addr) : Bool → List Addr
  | true => Z
  | false => W.S
end Kw

set_option Elab.async false
set_option linter.all false
set_option maxRecDepth 100000
namespace Kw
open PySem PySem.Spec PyProof.Rows L2
section
variable (W : Wd) (K : PySem.W.Frag) (Z : List Addr) (δ : List Sl)
def EvG (b : Bool) (te : TE) (F : D → Prop) : Prop := ∀ (σ : Sg) (H : Hp), Ok W K Z H σ δ → ∀ Q : VK, (∀ v H' d, F d → Gr W.S H H' → W.I H' → Dd K (hid (lv W Z b) H') v d → Q v H') → te σ H Q
def EvL (b : Bool) (ta : TA) (F : List D → Prop) : Prop := ∀ (σ : Sg) (H : Hp), Ok W K Z H σ δ → ∀ Q : List V → Hp → Prop, (∀ vs H' ds, F ds → Gr W.S H H' → W.I H' → DdL K (hid (lv W Z b) H') vs ds → Q vs H') → ta σ H Q
def EvB (tt : TT) (F : Bool → Prop) : Prop := ∀ (σ : Sg) (H : Hp), Ok W K Z H σ δ → ∀ Q : Bool → Hp → Prop, (∀ c H', F c → Gr W.S H H' → W.I H' → Q c H') → tt σ H Q
/-- a new list of one's own -/
def EvN (te : TE) (F : List D → Prop) : Prop := ∀ (σ : Sg) (H : Hp), Ok W K Z H σ δ → ∀ Q : VK, (∀ p xs H' ds, F ds → H p = none → Gr W.S H H' → W.I H' → H' p = some (.lst xs) → DdL K (hid (p :: Z) H') xs ds → Q (.ref p) H') → te σ H Q
end
section
variable {W : Wd} {K : PySem.W.Frag} {Z : List Addr} {δ : List Sl} {b : Bool} {H H' : Hp} {σ : Sg} {te ta tb tc : TE} {tr : TA} {t u : TT} {F : D → Prop} {G : Bool → Prop} {FL : List D → Prop}
theorem lv_up (k : Ok W K Z H σ δ) : Same (hid (lv W Z b) H') (hid W.S H') := by
  cases b with
  | true => exact hid_sub k.sub
  | false => exact fun _ _ e => e
theorem lv_gr (k : Ok W K Z H σ δ) (g : Gr W.S H H') {H1 : Hp} (g' : Gr W.S H' H1) : Same (hid (lv W Z b) H') (hid (lv W Z b) H1) := hid_same fun a o n e => g' a o (fun z => n (by
  cases b with
  | true => exact k.sub a z
  | false => exact z)) e
theorem lv_new (k : Ok W K Z H σ δ) {p : Addr} (h : H p = none) : p ∉ lv W Z b := fun z => by
  cases b with
  | true => exact k.al p z h
  | false => exact W.al k.inv p z h
theorem wp_imp {F' : D → Prop} (h : EvG W K Z δ b te F) (f : ∀ d, F d → F' d) : EvG W K Z δ b te F' := fun σ H k Q q => h σ H k Q fun v H' d x g i e => q v H' d (f d x) g i e
theorem wp_up (h : EvG W K Z δ true te F) : EvG W K Z δ false te F := fun σ H k Q q => h σ H k Q fun v H' d x g i e => q v H' d x g i (e.mono (lv_up (b := true) k))
theorem wp_var {i : Nat} {d : D} (h : δ[i]? = some (.dat d)) (f : F d) : EvG W K Z δ b (tVar i) F := fun σ H k Q q => by
  obtain ⟨o, e, v, rfl, hd⟩ := k.sto.get h
  refine ⟨v, e, q v H d f (Gr.refl _ _) k.inv ?_⟩
  cases b with
  | true => exact hd
  | false => exact hd.mono (hid_sub k.sub)
theorem wp_own {i : Nat} {p : Addr} {ds : List D} (h : δ[i]? = some (.own p ds)) (f : F (.list ds)) : EvG W K Z δ false (tVar i) F := fun σ H k Q q => by
  obtain ⟨o, e, rfl, m, n, xs, hp, hd⟩ := k.sto.get h
  refine ⟨.ref p, e, q _ H _ f (Gr.refl _ _) k.inv (.lst ?_ (hd.mono (hid_sub k.sub)))⟩
  show hid W.S H p = _
  rw [hid_out n]
  exact hp
theorem wp_int {n : Int} (f : F (.int n)) : EvG W K Z δ b (tC (.int n)) F := fun σ H k Q q => q _ H _ f (Gr.refl _ _) k.inv (.int n)
theorem wp_str {n : Str} (f : F (.str n)) : EvG W K Z δ b (tC (.str n)) F := fun σ H k Q q => q _ H _ f (Gr.refl _ _) k.inv (.str n)
theorem wp_bl {n : Bool} (f : F (.bool n)) : EvG W K Z δ b (tC (.bl n)) F := fun σ H k Q q => q _ H _ f (Gr.refl _ _) k.inv (.bl n)
theorem wp_non (f : F .none) : EvG W K Z δ b (tC .non) F := fun σ H k Q q => q _ H _ f (Gr.refl _ _) k.inv .non
/-- two operands, then an operation by values -/
theorem wp_bin {r : R2} (h : EvG W K Z δ false ta fun x => EvG W K Z δ false tb fun y => ∀ (H : Hp) (v w : V), W.I H → Dd K (hid W.S H) v x → Dd K (hid W.S H) w y → ∀ Q : VK, (∀ z d, F d → (∀ H2, Dd K H2 z d) → Q z H) → r v w H Q) : EvG W K Z δ b (tOp r ta tb) F :=
  fun σ H k Q q => h σ H k _ fun v H1 x hx g1 i1 d1 => hx σ H1 (k.gr g1 i1) _ fun w H2 y hy g2 i2 d2 =>
    hy H2 v w i2 (d1.mono (lv_gr (b := false) k g1 g2)) d2 Q fun z d f hz => q z H2 d f (g1.trans g2) i2 (hz _)
theorem wp_I {C : Int → Int → Prop} {f : Int → Int → Int} (h : EvG W K Z δ false ta fun x => EvG W K Z δ false tb fun y => ∃ i j, x = .int i ∧ y = .int j ∧ C i j ∧ F (.int (f i j))) : EvG W K Z δ b (tOp (rI C fun i j => .int (f i j)) ta tb) F :=
  wp_bin (wp_imp h fun x hx => wp_imp hx fun y hy H v w _ a1 a2 Q q => by
    obtain ⟨i, j, rfl, rfl, c, f⟩ := hy
    cases a1
    cases a2
    exact ⟨i, j, rfl, rfl, c, q _ _ f fun _ => .int _⟩)
theorem wp_I0 {f : Int → Int → Int} (h : EvG W K Z δ false ta fun x => EvG W K Z δ false tb fun y => ∃ i j, x = .int i ∧ y = .int j ∧ F (.int (f i j))) : EvG W K Z δ b (tOp (rI0 fun i j => .int (f i j)) ta tb) F :=
  wp_bin (wp_imp h fun x hx => wp_imp hx fun y hy H v w _ a1 a2 Q q => by
    obtain ⟨i, j, rfl, rfl, f⟩ := hy
    cases a1
    cases a2
    exact ⟨i, j, rfl, rfl, q _ _ f fun _ => .int _⟩)
theorem wp_IB {f : Int → Int → Bool} (h : EvG W K Z δ false ta fun x => EvG W K Z δ false tb fun y => ∃ i j, x = .int i ∧ y = .int j ∧ F (.bool (f i j))) : EvG W K Z δ b (tOp (rI0 fun i j => .bl (f i j)) ta tb) F :=
  wp_bin (wp_imp h fun x hx => wp_imp hx fun y hy H v w _ a1 a2 Q q => by
    obtain ⟨i, j, rfl, rfl, f⟩ := hy
    cases a1
    cases a2
    exact ⟨i, j, rfl, rfl, q _ _ f fun _ => .bl _⟩)
theorem wp_neg {f : Int → Int} (h : EvG W K Z δ false ta fun x => ∃ i, x = .int i ∧ F (.int (f i))) : EvG W K Z δ b (tUn (rU fun i => .int (f i)) ta) F := fun σ H k Q q => h σ H k _ fun v H1 x hx g1 i1 d1 => by
  obtain ⟨i, rfl, f⟩ := hx
  cases d1
  exact ⟨i, rfl, q _ _ _ f g1 i1 (.int _)⟩
theorem wp_eq (h : EvG W K Z δ false ta fun x => EvG W K Z δ false tb fun y => SeqAt.shaped x = true ∧ SeqAt.shaped y = true ∧ F (.bool (PyData.eqv x y))) : EvG W K Z δ b (tOp (rEqD K) ta tb) F :=
  wp_bin (wp_imp h fun x hx => wp_imp hx fun y hy H v w _ a1 a2 Q q => ⟨x, y, (a1.mono hid_all).dp, (a2.mono hid_all).dp, hy.1, hy.2.1, q _ _ hy.2.2 fun _ => .bl _⟩)
theorem wp_ne (h : EvG W K Z δ false ta fun x => EvG W K Z δ false tb fun y => SeqAt.shaped x = true ∧ SeqAt.shaped y = true ∧ F (.bool (!PyData.eqv x y))) : EvG W K Z δ b (tOp (rNeD K) ta tb) F :=
  wp_bin (wp_imp h fun x hx => wp_imp hx fun y hy H v w _ a1 a2 Q q => ⟨x, y, (a1.mono hid_all).dp, (a2.mono hid_all).dp, hy.1, hy.2.1, q _ _ hy.2.2 fun _ => .bl _⟩)
def isNon : D → Bool
  | .none => true
  | _ => false
theorem dd_non {v : V} {d : D} (h : Dd K H v d) : decide (v = .non) = isNon d := by
  cases h <;> rfl
theorem wp_isN {r : R2} (hr : r = fun x y H Q => y = .non ∧ Q (.bl (decide (x = .non))) H) (h : EvG W K Z δ false ta fun x => F (.bool (isNon x))) : EvG W K Z δ b (tOp r ta (tC .non)) F := by
  subst hr
  refine wp_bin (wp_imp h fun x hx => wp_non fun H v w _ a1 a2 Q q => ?_)
  cases a2
  rw [show (decide (v = V.non)) = isNon x from dd_non a1]
  exact ⟨rfl, q _ _ hx fun _ => .bl _⟩
/-- an item -/
theorem wp_ix (h : EvG W K Z δ b ta fun x => EvG W K Z δ false tb fun y => ∃ ds i d, (x = .list ds ∨ x = .tuple ds) ∧ y = .int i ∧ atI ds i = some d ∧ F d) : EvG W K Z δ b (tOp (rIx K) ta tb) F :=
  fun σ H k Q q => h σ H k _ fun v H1 x hx g1 i1 d1 => hx σ H1 (k.gr g1 i1) _ fun w H2 y hy g2 i2 d2 => by
    obtain ⟨ds, i, d, e, rfl, ha, f⟩ := hy
    have d1' := d1.mono (lv_gr (b := b) k g1 g2)
    cases d2
    rcases e with rfl | rfl
    · cases d1' with
      | @lst a xs _ hs hl =>
        obtain ⟨z, hz, hd⟩ := hl.at ha
        exact .inl ⟨a, xs, i, z, rfl, rfl, SqL.of (hid_all _ _ hs), hz, q _ _ _ f (g1.trans g2) i2 hd⟩
    · cases d1' with
      | @tup a xs _ hs hl =>
        obtain ⟨z, hz, hd⟩ := hl.at ha
        exact .inr (.inl ⟨a, xs, i, z, rfl, rfl, Same.seqT hid_all hs, hz, q _ _ _ f (g1.trans g2) i2 hd⟩)
/-- an item of a list of one's own -/
theorem wp_ixO {k : Nat} {p : Addr} {ds : List D} (h0 : δ[k]? = some (.own p ds)) (h : EvG W K Z δ false tb fun y => ∃ i d, y = .int i ∧ atI ds i = some d ∧ F d) : EvG W K Z δ b (tOp (rIx K) (tVar k) tb) F :=
  fun σ H kk Q q => by
    obtain ⟨o, e, rfl, m, n, xs, hp, hd⟩ := kk.sto.get h0
    refine ⟨.ref p, e, h σ H kk _ fun w H2 y hy g2 i2 d2 => ?_⟩
    obtain ⟨i, d, rfl, ha, f⟩ := hy
    cases d2
    obtain ⟨z, hz, hzd⟩ := hd.at ha
    have st : Same (hid Z H) (hid Z H2) := lv_gr (b := true) kk (Gr.refl _ _) g2
    refine .inl ⟨p, xs, i, z, rfl, rfl, SqL.of (g2 p _ n hp), hz, q _ _ _ f g2 i2 ?_⟩
    cases b with
    | true => exact hzd.mono st
    | false => exact (hzd.mono st).mono (hid_sub kk.sub)
/-! ### displays, arguments, calls -/
theorem wl_nil (f : FL []) : EvL W K Z δ b tNil FL := fun σ H k Q q => q [] H [] f (Gr.refl _ _) k.inv .nil
theorem wl_cons (h : EvG W K Z δ b te fun d => EvL W K Z δ b tr fun r => FL (d :: r)) : EvL W K Z δ b (tCons te tr) FL := fun σ H k Q q => h σ H k _ fun v H1 d hd g1 i1 d1 => hd σ H1 (k.gr g1 i1) _ fun vs H2 ds hs g2 i2 d2 =>
  q _ _ _ hs (g1.trans g2) i2 (.cons (d1.mono (lv_gr (b := b) k g1 g2)) d2)
theorem wp_tup (h : EvL W K Z δ b tr fun l => l.length ≤ 1000 ∧ F (.tuple l)) : EvG W K Z δ b (tTup tr) F := fun σ H k Q q => h σ H k _ fun vs H1 ds hs g1 i1 d1 => by
  refine ⟨by rw [d1.len]; exact Nat.le_of_lt (small1000 hs.1), fun p np => ?_⟩
  have gn : Gr W.S H1 (upd H1 p (.tup vs)) := Gr.new np
  refine q _ _ _ hs.2 (g1.trans gn) (Wd.new i1 np) (.tup (SqT.of ?_) (d1.mono (lv_gr (b := b) k g1 gn)))
  rw [hid_out (lv_new (b := b) (k.gr g1 i1) np)]
  exact upd_same
theorem wp_lst (h : EvL W K Z δ b tr fun l => l.length ≤ 1000 ∧ F (.list l)) : EvG W K Z δ b (tLst tr) F := fun σ H k Q q => h σ H k _ fun vs H1 ds hs g1 i1 d1 => by
  refine ⟨by rw [d1.len]; exact Nat.le_of_lt (small1000 hs.1), fun p np => ?_⟩
  have gn : Gr W.S H1 (upd H1 p (.lst vs)) := Gr.new np
  refine q _ _ _ hs.2 (g1.trans gn) (Wd.new i1 np) (.lst ?_ (d1.mono (lv_gr (b := b) k g1 gn)))
  rw [hid_out (lv_new (b := b) (k.gr g1 i1) np)]
  exact upd_same
theorem wn_lst (h : EvL W K Z δ true tr fun l => l.length ≤ 1000 ∧ FL l) : EvN W K Z δ (tLst tr) FL := fun σ H k Q q => h σ H k _ fun vs H1 ds hs g1 i1 d1 => by
  refine ⟨by rw [d1.len]; exact Nat.le_of_lt (small1000 hs.1), fun p np => ?_⟩
  have gn : Gr W.S H1 (upd H1 p (.lst vs)) := Gr.new np
  refine q p vs _ _ hs.2 (Gr.back g1 i1 np) (g1.trans gn) (Wd.new i1 np) upd_same ((d1.mono (hid_more np)).mono ?_)
  rw [hid_upd (List.mem_cons_self ..)]
  refine hid_sub fun a ha => ha
/-- a def of data: Pre says what it makes of its arguments -/
def spD (K : PySem.W.Frag) (Pre : List D → (D → Prop) → Prop) : Sp := fun vs H Q _ => ∃ (Z : List Addr) (ds : List D) (F : D → Prop), Pre ds F ∧ (∀ z ∈ Z, H z ≠ none) ∧ DdL K (hid Z H) vs ds ∧ ∀ v H' d, F d → Gr [] H H' → Dd K (hid Z H') v d → Q v H'
theorem wp_call {Pre : List D → (D → Prop) → Prop} {E : XK} (h : EvL W K Z δ b tr fun ds => Pre ds F) : EvG W K Z δ b (tCall (spD K Pre) [] E tr) F := fun σ H k Q q => h σ H k _ fun vs H1 ds hs g1 i1 d1 => by
  show spD K Pre (vs ++ []) H1 Q E
  rw [List.append_nil]
  refine ⟨lv W Z b, ds, F, hs, ?_, d1, fun v H' d f g dd => q v H' d f (g1.trans g.of0) (Wd.gr0 i1 g) dd⟩
  have k1 := k.gr g1 i1
  cases b with
  | true => exact k1.al
  | false => exact W.al i1
theorem wp_callS {Pre : List D → (D → Prop) → Prop} {E : XK} (h : EvL W K Z δ false tr fun ds => Pre ds fun d => scl d = true ∧ F d) : EvG W K Z δ b (tCall (spD K Pre) [] E tr) F := fun σ H k Q q =>
  wp_call (F := fun d => scl d = true ∧ F d) h σ H k Q fun v H' d f g i e => q v H' d f.2 g i (Dd.any f.1 e)
/-- a def that draws from the deck at p, q -/
def spK (K : PySem.W.Frag) (Pre : List D → (D → Prop) → Prop) : Sp := fun vs H Q _ => ∃ (p q : Addr) (Z : List Addr) (us : List V) (ds : List D) (F : D → Prop), vs = .ref p :: us ∧ Pre ds F ∧ Deck H p q ∧ p ∈ Z ∧ q ∈ Z ∧ (∀ z ∈ Z, H z ≠ none) ∧ DdL K (hid Z H) us ds ∧
  ∀ v H' d, F d → Gr [p, q] H H' → Deck H' p q → Dd K (hid Z H') v d → Q v H'
theorem wp_callK {p q : Addr} {i : Nat} {Pre : List D → (D → Prop) → Prop} {E : XK} (h0 : δ[i]? = some (.raw (.ref p))) (h : EvL (WK p q) K Z δ true tr fun ds => Pre ds F) : EvG (WK p q) K Z δ true (tCall (spK K Pre) [] E (tCons (tVar i) tr)) F := fun σ H k Q qq => by
  obtain ⟨o, e, rfl⟩ := k.sto.get h0
  refine ⟨.ref p, e, h σ H k _ fun vs H1 ds hs g1 i1 d1 => ?_⟩
  show spK K Pre (.ref p :: vs ++ []) H1 Q E
  rw [List.append_nil]
  have k1 := k.gr g1 i1
  exact ⟨p, q, Z, vs, ds, F, rfl, hs, i1, k.sub p (by simp [WK]), k.sub q (by simp [WK]), k1.al, d1, fun v H' d f g i2 dd => qq v H' d f (g1.trans g) i2 dd⟩
theorem wp_callKS {p q : Addr} {i : Nat} {Pre : List D → (D → Prop) → Prop} {E : XK} (h0 : δ[i]? = some (.raw (.ref p))) (h : EvL (WK p q) K Z δ true tr fun ds => Pre ds fun d => scl d = true ∧ F d) : EvG (WK p q) K Z δ b (tCall (spK K Pre) [] E (tCons (tVar i) tr)) F := fun σ H k Q qq =>
  wp_callK (F := fun d => scl d = true ∧ F d) h0 h σ H k Q fun v H' d f g i e => qq v H' d f.2 g i (Dd.any f.1 e)
theorem wp_len {r : List V → Hp → VK → Prop} (hr : r = fun xs H Q => ∃ p ys, xs = [.ref p] ∧ (SqL K H p ys ∨ SqT K H p ys) ∧ Q (.int ys.length) H) (h : EvG W K Z δ false te fun x => ∃ ds, (x = .list ds ∨ x = .tuple ds) ∧ F (.int ds.length)) :
    EvG W K Z δ b (tCB r (tCons te tNil)) F := fun σ H k Q q => h σ H k _ fun v H1 x hx g1 i1 d1 => by
  obtain ⟨ds, e, f⟩ := hx
  subst hr
  rcases e with rfl | rfl
  · cases d1 with
    | @lst a xs _ hs hl => exact ⟨a, xs, rfl, .inl (SqL.of (hid_all _ _ hs)), by rw [hl.len]; exact q _ _ _ f g1 i1 (.int _)⟩
  · cases d1 with
    | @tup a xs _ hs hl => exact ⟨a, xs, rfl, .inr (Same.seqT hid_all hs), by rw [hl.len]; exact q _ _ _ f g1 i1 (.int _)⟩
/-! ### truth -/
theorem wp_if (h : EvB W K Z δ t fun c => (c = true → EvG W K Z δ b ta F) ∧ (c = false → EvG W K Z δ b tb F)) : EvG W K Z δ b (tIf t ta tb) F := fun σ H k Q q => h σ H k _ fun c H1 hc g1 i1 => by
  have k1 := k.gr g1 i1
  cases c with
  | true => exact iteT (hc.1 rfl σ H1 k1 Q fun v H2 d f g2 i2 e => q v H2 d f (g1.trans g2) i2 e)
  | false => exact iteF (hc.2 rfl σ H1 k1 Q fun v H2 d f g2 i2 e => q v H2 d f (g1.trans g2) i2 e)
theorem wp_and (h : EvG W K Z δ false ta fun x => ∃ c, x = .bool c ∧ (c = true → EvG W K Z δ b tb F) ∧ (c = false → F (.bool false))) : EvG W K Z δ b (tAndV ta tb) F := fun σ H k Q q => h σ H k _ fun v H1 x hx g1 i1 d1 => by
  obtain ⟨c, rfl, h1, h2⟩ := hx
  cases d1
  refine ⟨c, rfl, ?_⟩
  cases c with
  | true => exact iteT (h1 rfl σ H1 (k.gr g1 i1) Q fun v H2 d f g2 i2 e => q v H2 d f (g1.trans g2) i2 e)
  | false => exact iteF (q _ _ _ (h2 rfl) g1 i1 (.bl _))
theorem wp_or (h : EvG W K Z δ false ta fun x => ∃ c, x = .bool c ∧ (c = false → EvG W K Z δ b tb F) ∧ (c = true → F (.bool true))) : EvG W K Z δ b (tOrV ta tb) F := fun σ H k Q q => h σ H k _ fun v H1 x hx g1 i1 d1 => by
  obtain ⟨c, rfl, h1, h2⟩ := hx
  cases d1
  refine ⟨c, rfl, ?_⟩
  cases c with
  | true => exact iteT (q _ _ _ (h2 rfl) g1 i1 (.bl _))
  | false => exact iteF (h1 rfl σ H1 (k.gr g1 i1) Q fun v H2 d f g2 i2 e => q v H2 d f (g1.trans g2) i2 e)
theorem wp_not (h : EvG W K Z δ false ta fun x => ∃ c, x = .bool c ∧ F (.bool (!c))) : EvG W K Z δ b (tNotV ta) F := fun σ H k Q q => h σ H k _ fun v H1 x hx g1 i1 d1 => by
  obtain ⟨c, rfl, f⟩ := hx
  cases d1
  exact ⟨c, rfl, q _ _ _ f g1 i1 (.bl _)⟩
theorem wt_val (h : EvG W K Z δ false te fun x => ∃ c, x = .bool c ∧ G c) : EvB W K Z δ (tB te) G := fun σ H k Q q => h σ H k _ fun v H1 x hx g1 i1 d1 => by
  obtain ⟨c, rfl, f⟩ := hx
  cases d1
  exact ⟨c, rfl, q c H1 f g1 i1⟩
theorem wt_test (h : EvG W K Z δ false te fun x => ∃ c, x = .bool c ∧ G c) : EvB W K Z δ (tTest te) G := wt_val h
theorem wt_and (h : EvB W K Z δ t fun c => (c = true → EvB W K Z δ u G) ∧ (c = false → G false)) : EvB W K Z δ (tAnd t u) G := fun σ H k Q q => h σ H k _ fun c H1 hc g1 i1 => by
  cases c with
  | true => exact iteT (hc.1 rfl σ H1 (k.gr g1 i1) Q fun c2 H2 f g2 i2 => q c2 H2 f (g1.trans g2) i2)
  | false => exact iteF (q _ _ (hc.2 rfl) g1 i1)
theorem wt_or (h : EvB W K Z δ t fun c => (c = false → EvB W K Z δ u G) ∧ (c = true → G true)) : EvB W K Z δ (tOr t u) G := fun σ H k Q q => h σ H k _ fun c H1 hc g1 i1 => by
  cases c with
  | true => exact iteT (q _ _ (hc.2 rfl) g1 i1)
  | false => exact iteF (hc.1 rfl σ H1 (k.gr g1 i1) Q fun c2 H2 f g2 i2 => q c2 H2 f (g1.trans g2) i2)
theorem wt_not (h : EvB W K Z δ t fun c => G (!c)) : EvB W K Z δ (tNot t) G := fun σ H k Q q => h σ H k _ fun c H1 hc g1 i1 => q _ _ hc g1 i1
theorem wt_imp {G' : Bool → Prop} (h : EvB W K Z δ t G) (f : ∀ c, G c → G' c) : EvB W K Z δ t G' := fun σ H k Q q => h σ H k Q fun c H1 hc g i => q c H1 (f c hc) g i
/-- a <= b <= c of ints -/
theorem wp_chain {f g : Int → Int → Bool} (h : EvG W K Z δ false ta fun x => EvG W K Z δ false tb fun y => ∃ i j, x = .int i ∧ y = .int j ∧ (f i j = true → EvG W K Z δ false tc fun z => ∃ l, z = .int l ∧ F (.bool (g j l))) ∧ (f i j = false → F (.bool false))) :
    EvG W K Z δ b (tChain (rI0 fun i j => .bl (f i j)) (rI0 fun i j => .bl (g i j)) ta tb tc) F := fun σ H k Q q => h σ H k _ fun v H1 x hx g1 i1 d1 => hx σ H1 (k.gr g1 i1) _ fun w H2 y hy g2 i2 d2 => by
  obtain ⟨i, j, rfl, rfl, h1, h2⟩ := hy
  cases d1
  cases d2
  refine ⟨i, j, rfl, rfl, f i j, rfl, ?_⟩
  have k2 := (k.gr g1 i1).gr g2 i2
  cases hc : f i j with
  | true =>
    refine iteT (h1 hc σ H2 k2 _ fun u H3 z hz g3 i3 d3 => ?_)
    obtain ⟨l, rfl, ff⟩ := hz
    cases d3
    exact ⟨j, l, rfl, rfl, q _ _ _ ff ((g1.trans g2).trans g3) i3 (.bl _)⟩
  | false => exact iteF (q _ _ _ (h2 hc) (g1.trans g2) i2 (.bl _))
end
end Kw

set_option Elab.async false
set_option linter.all false
set_option maxRecDepth 100000
namespace Kw
open PySem PySem.Spec PyProof.Rows L2
theorem Ok.setD {W : Wd} {K : PySem.W.Frag} {Z : List Addr} {H : Hp} {σ : Sg} {δ : List Sl} (k : Ok W K Z H σ δ) {v : V} {d : D} (i : Nat) (h : Dd K (hid Z H) v d) : Ok W K Z H (σ.set i (some v)) (δ.set i (.dat d)) :=
  k.set (o := some v) (x := .dat d) i (show ∃ u, some v = some u ∧ Dd K (hid Z H) u d from ⟨v, rfl, h⟩)
/-! ### statements by data: γ what must stay beside the slots -/
structure Fx where
  W : Wd
  K : PySem.W.Frag
  Z0 : List Addr
  H0 : Hp
  γ : List (V × D)
structure St4 (f : Fx) (Z : List Addr) (δ : List Sl) (σ : Sg) (H : Hp) : Prop where
  z : ∀ a ∈ f.Z0, a ∈ Z
  ok : Ok f.W f.K Z H σ δ
  g : Gr f.W.S f.H0 H
  gh : ∀ x ∈ f.γ, Dd f.K (hid Z H) x.1 x.2
structure EndsD where
  nx : List Addr → List Sl → Prop
  rt : D → Prop
  bk : List Addr → List Sl → Prop := fun _ _ => False
  ct : List Addr → List Sl → Prop := fun _ _ => False
  rw : D → Prop := fun _ => False
structure Imp (f : Fx) (E : EndsD) (T : Ends) : Prop where
  nx : ∀ Z δ σ H, E.nx Z δ → St4 f Z δ σ H → T.nx σ H
  bk : ∀ Z δ σ H, E.bk Z δ → St4 f Z δ σ H → T.bk σ H
  ct : ∀ Z δ σ H, E.ct Z δ → St4 f Z δ σ H → T.ct σ H
  rt : ∀ v d H, E.rt d → Gr f.W.S f.H0 H → f.W.I H → Dd f.K (hid f.Z0 H) v d → T.rt v H
  rw : ∀ v d H L, E.rw d → Gr f.W.S f.H0 H → f.W.I H → Nw f.K H (hid (L ++ f.Z0) H) v d L → L.Nodup → (∀ a ∈ L, f.H0 a = none) → T.rt v H
def SE (f : Fx) (ts : TS) (Z : List Addr) (δ : List Sl) (E : EndsD) : Prop := ∀ (σ : Sg) (H : Hp) (T : Ends), St4 f Z δ σ H → Imp f E T → ts T σ H
section
variable {f : Fx} {Z : List Addr} {δ : List Sl} {E : EndsD} {t u : TS} {te ti : TE} {tt : TT} {ta : TA} {σ : Sg} {H H1 : Hp}
theorem St4.gr (s : St4 f Z δ σ H) (g : Gr f.W.S H H1) (i : f.W.I H1) : St4 f Z δ σ H1 := ⟨s.z, s.ok.gr g i, s.g.trans g, fun x hx => (s.gh x hx).mono (lv_gr (b := true) s.ok (Gr.refl _ _) g)⟩
theorem St4.setD (s : St4 f Z δ σ H) {v : V} {d : D} (i : Nat) (h : Dd f.K (hid Z H) v d) : St4 f Z (δ.set i (.dat d)) (σ.set i (some v)) H := ⟨s.z, s.ok.setD i h, s.g, s.gh⟩
theorem s_seq (h : SE f t Z δ { E with nx := fun Z' δ' => SE f u Z' δ' E }) : SE f (tSeq t u) Z δ E := fun σ H T s i =>
  h σ H _ s ⟨fun Z' δ' σ' H' e s' => e σ' H' T s' i, i.bk, i.ct, i.rt, i.rw⟩
theorem s_next (h : E.nx Z δ) : SE f tNext Z δ E := fun σ H T s i => i.nx Z δ σ H h s
theorem s_brk (h : E.bk Z δ) : SE f tBreak Z δ E := fun σ H T s i => i.bk Z δ σ H h s
theorem s_asg {i : Nat} (h : EvG f.W f.K Z δ true te fun d => E.nx Z (δ.set i (.dat d))) : SE f (tAsg te (gName i)) Z δ E := fun σ H T s im => h σ H s.ok _ fun v H1 d f g1 i1 d1 => im.nx Z _ _ H1 f ((s.gr g1 i1).setD i d1)
/-- a new list comes under a name -/
theorem s_own {i : Nat} (h : EvN f.W f.K Z δ te fun ds => ∀ p, f.H0 p = none → p ∉ Z → E.nx (p :: Z) (δ.set i (.own p ds))) : SE f (tAsg te (gName i)) Z δ E := fun σ H T s im => h σ H s.ok _ fun p xs H1 ds ff np g1 i1 hp hd => by
  have nz : p ∉ Z := fun m => s.ok.al p m np
  have n0 : f.H0 p = none := Gr.back s.g s.ok.inv np
  have sub' : ∀ a ∈ f.W.S, a ∈ p :: Z := fun a ha => List.mem_cons_of_mem _ (s.ok.sub a ha)
  have st : Same (hid Z H) (hid (p :: Z) H1) := fun a o e => by
    have e1 := hid_more (p := p) np a o e
    exact (hid_same (Z := p :: Z) fun b u nb q => g1 b u (fun m => nb (sub' b m)) q) a o e1
  refine im.nx (p :: Z) _ _ H1 (ff p n0 nz) ⟨fun a ha => List.mem_cons_of_mem _ (s.z a ha), Ok.set ⟨i1, ?_, sub', ?_⟩ (x := .own p ds) i ⟨rfl, List.mem_cons_self .., fun m => nz (s.ok.sub p m), xs, hp, hd⟩, s.g.trans g1, fun x hx => (s.gh x hx).mono st⟩
  · intro a ha
    rcases List.mem_cons.mp ha with rfl | ha
    · rw [hp]
      simp
    · exact al_gr s.ok.al g1 i1 a ha
  · exact (s.ok.sto.all fun _ _ x => x.more np).all fun _ _ x => x.gr sub' g1
theorem s_if (h : EvB f.W f.K Z δ tt fun c => (c = true → SE f t Z δ E) ∧ (c = false → SE f u Z δ E)) : SE f (tIfS tt t u) Z δ E := fun σ H T s im => h σ H s.ok _ fun c H1 hc g1 i1 => by
  cases c with
  | true => exact iteT (hc.1 rfl σ H1 T (s.gr g1 i1) im)
  | false => exact iteF (hc.2 rfl σ H1 T (s.gr g1 i1) im)
theorem s_ret (h : EvG f.W f.K Z δ true te E.rt) : SE f (tRet te) Z δ E := fun σ H T s im => h σ H s.ok _ fun v H1 d f g1 i1 d1 => im.rt v d H1 f (s.g.trans g1) i1 (d1.mono (hid_sub s.z))
theorem s_retS (h : EvG f.W f.K Z δ false te fun d => scl d = true ∧ E.rt d) : SE f (tRet te) Z δ E := fun σ H T s im => h σ H s.ok _ fun v H1 d f g1 i1 d1 => im.rt v d H1 f.2 (s.g.trans g1) i1 (Dd.any f.1 d1)
/-- a list of one's own is handed back -/
theorem s_retO {i : Nat} {p : Addr} {ds : List D} (h0 : δ[i]? = some (.own p ds)) (hp : p ∉ f.Z0) (h : E.rt (.list ds)) : SE f (tRet (tVar i)) Z δ E := fun σ H T s im => by
  obtain ⟨o, e, rfl, m, n, xs, hx, hd⟩ := s.ok.sto.get h0
  refine ⟨.ref p, e, im.rt _ _ H h s.g s.ok.inv (.lst ?_ (hd.mono (hid_sub s.z)))⟩
  rw [hid_out hp]
  exact hx
theorem s_drop (h : EvG f.W f.K Z δ false te fun _ => E.nx Z δ) : SE f (tDrop te) Z δ E := fun σ H T s im => h σ H s.ok _ fun v H1 d ff g1 i1 _ => im.nx Z δ σ H1 ff (s.gr g1 i1)
theorem St4.write {p : Addr} {xs' : List V} {ds ds' : List D} {i : Nat} (s : St4 f Z δ σ H) (h0 : δ[i]? = some (.own p ds)) (hp : f.H0 p = none) (sp : sepL p (δ.set i .no)) (hd : DdL f.K (hid Z H) xs' ds') :
    St4 f Z (δ.set i (.own p ds')) σ (upd H p (.lst xs')) := by
  obtain ⟨o, e, rfl, m, n, xs, hx, _⟩ := s.ok.sto.get h0
  have es : σ.set i (some (V.ref p)) = σ := by
    apply List.ext_getElem?
    intro j
    by_cases hj : i = j
    · subst hj
      rw [List.getElem?_set_self (List.getElem?_eq_some_iff.mp e).1, e]
    · rw [List.getElem?_set_ne hj]
  have k1 := s.ok.set (o := some (.ref p)) i (x := .no) True.intro
  rw [es] at k1
  have k2 : Ok f.W f.K Z (upd H p (.lst xs')) σ (δ.set i .no) := ⟨Wd.put k1.inv n, fun a ha => by
    by_cases q : a = p
    · rw [q, upd_same]
      simp
    · rw [upd_ne q]
      exact s.ok.al a ha, s.ok.sub, k1.sto.wr m sp⟩
  have k3 := k2.set (o := some (.ref p)) i (x := .own p ds') ⟨rfl, m, n, xs', upd_same, by rw [hid_upd m]; exact hd⟩
  rw [es, List.set_set] at k3
  exact ⟨s.z, k3, s.g.write hp, fun x hx => by rw [hid_upd m]; exact s.gh x hx⟩
/-- xs.append(e), xs of one's own -/
theorem s_app {i : Nat} {p : Addr} {ds : List D} (h0 : δ[i]? = some (.own p ds)) (hp : f.H0 p = none) (sp : sepL p (δ.set i .no)) (hl : ds.length ≤ 999) (h : EvG f.W f.K Z δ true te fun d => E.nx Z (δ.set i (.own p (ds ++ [d])))) :
    SE f (tDrop (tBM f.K "list" rAppend (tVar i) (tCons te tNil))) Z δ E := fun σ H T s im => by
  obtain ⟨o, e, rfl, m, n, xs, hx, hd⟩ := s.ok.sto.get h0
  refine ⟨.ref p, e, .inl ⟨rfl, _, .inl (.inl hx)⟩, h σ H s.ok _ fun v H1 d ff g1 i1 d1 => ?_⟩
  have st := lv_gr (b := true) s.ok (Gr.refl _ _) g1
  exact ⟨p, xs, v, rfl, rfl, g1 p _ n hx, small1000 (by rw [hd.len]; omega), im.nx Z _ _ _ ff ((s.gr g1 i1).write h0 hp sp ((hd.mono st).append (.one d1)))⟩
theorem s_setO {i : Nat} {p : Addr} {ds : List D} (h0 : δ[i]? = some (.own p ds)) (hp : f.H0 p = none) (sp : sepL p (δ.set i .no)) (h : EvG f.W f.K Z δ true te fun d => EvG f.W f.K Z δ false ti fun y => ∃ j : Nat, y = .int j ∧ j < ds.length ∧ E.nx Z (δ.set i (.own p (ds.set j d)))) :
    SE f (tAsg te (gSub (tVar i) ti rSetL)) Z δ E := fun σ H T s im => h σ H s.ok _ fun v H1 d ff g1 i1 d1 => by
  obtain ⟨o, e, rfl, m, n, xs, hx, hd⟩ := s.ok.sto.get h0
  refine ⟨.ref p, e, ff σ H1 (s.ok.gr g1 i1) _ fun w H2 y hy g2 i2 d2 => ?_⟩
  obtain ⟨j, rfl, hj, fn⟩ := hy
  cases d2
  have g12 := g1.trans g2
  have st := lv_gr (b := true) s.ok (Gr.refl _ _) g12
  exact ⟨p, xs, (j : Int), j, rfl, rfl, g12 p _ n hx, Evl.ixN_nat (by rw [hd.len]; exact hj), im.nx Z _ _ _ fn ((s.gr g12 i2).write h0 hp sp (DdL.set (d1.mono (lv_gr (b := true) s.ok g1 g2)) j (hd.mono st)))⟩
theorem s_par {i j : Nat} (h : EvL f.W f.K Z δ true ta fun l => ∃ a b, l = [a, b] ∧ E.nx Z ((δ.set i (.dat a)).set j (.dat b))) : SE f (tPar i j ta) Z δ E := fun σ H T s im => h σ H s.ok _ fun vs H1 ds ff g1 i1 d1 => by
  obtain ⟨a, b, rfl, fn⟩ := ff
  cases d1 with
  | cons e1 r =>
    cases r with
    | cons e2 r =>
      cases r
      exact ⟨_, _, rfl, im.nx Z _ _ H1 fn (((s.gr g1 i1).setD i e1).setD j e2)⟩
/-! ### how a value comes under its names -/
def Bnd (K : PySem.W.Frag) (g : TG) (B : D → List Sl → List Sl → Prop) : Prop := ∀ (W : Wd) (Z : List Addr) (H : Hp) (σ : Sg) (δ δ' : List Sl) (v : V) (d : D), Ok W K Z H σ δ → Dd K (hid Z H) v d → B d δ δ' → ∀ Q : Sg → Hp → Prop, (∀ σ', Ok W K Z H σ' δ' → Q σ' H) → g v σ H Q
theorem bnd1 {K : PySem.W.Frag} {i : Nat} : Bnd K (gName i) fun d δ δ' => δ' = δ.set i (.dat d) := fun W Z H σ δ δ' v d k hv e Q q => by
  subst e
  exact q _ (k.setD i hv)
theorem bnd2 {K : PySem.W.Frag} {i j : Nat} : Bnd K (gTup K 2 (gCons (gName i) (gCons (gName j) gNil))) fun d δ δ' => ∃ a b, d = .tuple [a, b] ∧ δ' = (δ.set i (.dat a)).set j (.dat b) := fun W Z H σ δ δ' v d k hv e Q q => by
  obtain ⟨a, b, rfl, rfl⟩ := e
  cases hv with
  | @tup ad xs _ hs hl =>
    cases hl with
    | cons e1 r =>
      cases r with
      | cons e2 r =>
        cases r
        exact ⟨ad, _, rfl, Same.seqT hid_all hs, rfl, _, _, rfl, _, _, rfl, rfl, q _ ((k.setD i e1).setD j e2)⟩
theorem bnd3 {K : PySem.W.Frag} {i j l : Nat} : Bnd K (gTup K 3 (gCons (gName i) (gCons (gName j) (gCons (gName l) gNil)))) fun d δ δ' => ∃ a b c, d = .tuple [a, b, c] ∧ δ' = ((δ.set i (.dat a)).set j (.dat b)).set l (.dat c) := fun W Z H σ δ δ' v d k hv e Q q => by
  obtain ⟨a, b, c, rfl, rfl⟩ := e
  cases hv with
  | @tup ad xs _ hs hl =>
    cases hl with
    | cons e1 r =>
      cases r with
      | cons e2 r =>
        cases r with
        | cons e3 r =>
          cases r
          exact ⟨ad, _, rfl, Same.seqT hid_all hs, rfl, _, _, rfl, _, _, rfl, _, _, rfl, rfl, q _ (((k.setD i e1).setD j e2).setD l e3)⟩
theorem s_bnd {tg : TG} {B : D → List Sl → List Sl → Prop} (hb : Bnd f.K tg B) (h : EvG f.W f.K Z δ true te fun d => ∃ δ', B d δ δ' ∧ E.nx Z δ') : SE f (tAsg te tg) Z δ E := fun σ H T s im => h σ H s.ok _ fun v H1 d ff g1 i1 d1 => by
  obtain ⟨δ', e, fn⟩ := ff
  have s1 := s.gr g1 i1
  exact hb f.W Z H1 σ δ δ' v d s1.ok d1 e _ fun σ' k' => im.nx Z δ' σ' H1 fn ⟨s1.z, k', s1.g, s1.gh⟩
/-! ### loops -/
theorem s_forR {j : Nat} (h : EvL f.W f.K Z δ false ta fun l => ∃ n : Nat, l = [.int n] ∧ n ≤ 100000 ∧ ∃ I : Nat → List Sl → Prop, I 0 δ ∧
      (∀ i δ', i < n → I i δ' → SE f t Z (δ'.set j (.dat (.int i))) { nx := fun Z' δ' => Z' = Z ∧ I (i + 1) δ', rt := E.rt, rw := E.rw, bk := E.nx, ct := fun Z' δ' => Z' = Z ∧ I (i + 1) δ' }) ∧ ∀ δ', I n δ' → E.nx Z δ') : SE f (tFor (iRng1 ta) (gName j) t) Z δ E := fun σ H T s im => h σ H s.ok _ fun vs H1 ds ff g1 i1 d1 => by
  obtain ⟨n, rfl, hn, I, h0, hs, hd⟩ := ff
  cases d1 with
  | cons e r =>
    cases r
    cases e
    refine ⟨(n : Int), rfl, by omega, by omega, for_range (lo := 0) (n := ((n : Int)).toNat) (fun i σ' H' => ∃ δ', I i δ' ∧ St4 f Z δ' σ' H') ⟨δ, h0, s.gr g1 i1⟩ (fun i σ' H' hi p => ?_) (fun σ' H' p => ?_)⟩
    · obtain ⟨δ', hI, s'⟩ := p
      rw [Int.toNat_natCast] at hi
      have e0 : (0 : Int) + (i : Int) = (i : Int) := Int.zero_add _
      refine hs i δ' hi hI _ H' _ (s'.setD (v := .int (0 + (i : Int))) (d := .int i) j (by rw [e0]; exact .int _)) ⟨?_, ?_, ?_, ?_, ?_⟩
      · rintro Z2 δ2 σ2 H2 ⟨rfl, e⟩ s2
        exact ⟨δ2, e, s2⟩
      · exact fun Z2 δ2 σ2 H2 e s2 => im.nx Z2 δ2 σ2 H2 e s2
      · rintro Z2 δ2 σ2 H2 ⟨rfl, e⟩ s2
        exact ⟨δ2, e, s2⟩
      · exact im.rt
      · exact im.rw
    · obtain ⟨δ', hI, s'⟩ := p
      rw [Int.toNat_natCast] at hI
      exact im.nx Z δ' σ' H' (hd δ' hI) s'
def Fx.with (f : Fx) (v : V) (d : D) : Fx := { f with γ := (v, d) :: f.γ }
theorem St4.with {v : V} {d : D} (s : St4 f Z δ σ H) (h : Dd f.K (hid Z H) v d) : St4 (f.with v d) Z δ σ H := ⟨s.z, s.ok, s.g, fun x hx => by
  rcases List.mem_cons.mp hx with rfl | hx
  · exact h
  · exact s.gh x hx⟩
theorem St4.wo {v : V} {d : D} (s : St4 (f.with v d) Z δ σ H) : St4 f Z δ σ H := ⟨s.z, s.ok, s.g, fun x hx => s.gh x (List.mem_cons_of_mem _ hx)⟩
/-- for over a list that is data: the body is read with the list kept beside -/
theorem s_forL {tg : TG} {B : D → List Sl → List Sl → Prop} (hb : Bnd f.K tg B) (h : EvG f.W f.K Z δ true te fun d => ∃ ds, d = .list ds ∧ ∃ I : Nat → List Sl → Prop, I 0 δ ∧
      (∀ i x δ' v, ds[i]? = some x → I i δ' → ∃ δ2, B x δ' δ2 ∧ SE (f.with v (.list ds)) t Z δ2 { nx := fun Z' δ' => Z' = Z ∧ I (i + 1) δ', rt := E.rt, rw := E.rw, bk := E.nx, ct := fun Z' δ' => Z' = Z ∧ I (i + 1) δ' }) ∧ ∀ δ', I ds.length δ' → E.nx Z δ') :
    SE f (tFor (iList f.K te) tg t) Z δ E := fun σ H T s im => h σ H s.ok _ fun v H1 d ff g1 i1 d1 => by
  obtain ⟨ds, rfl, I, h0, hs, hd⟩ := ff
  have s1 := (s.gr g1 i1).with d1
  obtain ⟨a, rfl⟩ : ∃ a, v = .ref a := by cases d1; exact ⟨_, rfl⟩
  have at_ : ∀ {H' : Hp}, Dd f.K (hid Z H') (.ref a) (.list ds) → ∃ xs, SqL f.K H' a xs ∧ DdL f.K (hid Z H') xs ds := fun x => by
    cases x with
    | lst ha hl => exact ⟨_, SqL.of (hid_all _ _ ha), hl⟩
  obtain ⟨xs, ha, hl⟩ := at_ d1
  refine ⟨a, rfl, ⟨xs, ha⟩, fun i m σ' H' => m = ds.length - i ∧ i ≤ ds.length ∧ ∃ δ', I i δ' ∧ St4 (f.with (.ref a) (.list ds)) Z δ' σ' H', ⟨ds.length, by simp, Nat.zero_le _, δ, h0, s1⟩, ?_⟩
  rintro i m σ' H' ⟨rfl, hi, δ', hI, s'⟩
  obtain ⟨ys, hy, hyl⟩ := at_ (s'.gh _ (List.mem_cons_self ..))
  have ln := hyl.len
  by_cases hlt : i < ds.length
  · obtain ⟨y, hy1, hy2⟩ := hyl.get (List.getElem?_eq_getElem hlt)
    refine .inr ⟨⟨ys, y, hy, hy1⟩, fun σ2 H2 => ∃ δ', I (i + 1) δ' ∧ St4 (f.with (.ref a) (.list ds)) Z δ' σ2 H2, fun σ2 H2 p => ⟨ds.length - (i + 1), by omega, rfl, hlt, p⟩, fun x H2 hx => ?_⟩
    obtain ⟨rfl, hx⟩ := hx
    obtain rfl : x = y := Option.some.inj ((hx ys hy).symm.trans hy1)
    obtain ⟨δ2, hB, hse⟩ := hs i _ δ' (.ref a) (List.getElem?_eq_getElem hlt) hI
    refine hb f.W Z H2 σ' δ' δ2 x _ s'.ok hy2 hB _ fun σ3 k3 => hse σ3 H2 _ ⟨s'.z, k3, s'.g, s'.gh⟩ ⟨?_, ?_, ?_, ?_, ?_⟩
    · rintro Z4 δ4 σ4 H4 ⟨rfl, e⟩ s4
      exact ⟨δ4, e, s4⟩
    · exact fun Z4 δ4 σ4 H4 e s4 => im.nx Z4 δ4 σ4 H4 e s4.wo
    · rintro Z4 δ4 σ4 H4 ⟨rfl, e⟩ s4
      exact ⟨δ4, e, s4⟩
    · exact im.rt
    · exact im.rw
  · have e : i = ds.length := by omega
    subst e
    exact .inl ⟨⟨ys, hy, by omega⟩, im.nx Z δ' σ' H' (hd δ' hI) s'.wo⟩
/-- for over a tuple that is data: the body is read with the list kept beside -/
theorem s_forT {tg : TG} {B : D → List Sl → List Sl → Prop} (hb : Bnd f.K tg B) (h : EvG f.W f.K Z δ true te fun d => ∃ ds, d = .tuple ds ∧ ∃ I : Nat → List Sl → Prop, I 0 δ ∧
      (∀ i x δ' v, ds[i]? = some x → I i δ' → ∃ δ2, B x δ' δ2 ∧ SE (f.with v (.tuple ds)) t Z δ2 { nx := fun Z' δ' => Z' = Z ∧ I (i + 1) δ', rt := E.rt, rw := E.rw, bk := E.nx, ct := fun Z' δ' => Z' = Z ∧ I (i + 1) δ' }) ∧ ∀ δ', I ds.length δ' → E.nx Z δ') :
    SE f (tFor (iTup f.K te) tg t) Z δ E := fun σ H T s im => h σ H s.ok _ fun v H1 d ff g1 i1 d1 => by
  obtain ⟨ds, rfl, I, h0, hs, hd⟩ := ff
  have s1 := (s.gr g1 i1).with d1
  obtain ⟨a, rfl⟩ : ∃ a, v = .ref a := by cases d1; exact ⟨_, rfl⟩
  have at_ : ∀ {H' : Hp}, Dd f.K (hid Z H') (.ref a) (.tuple ds) → ∃ xs, SqT f.K H' a xs ∧ DdL f.K (hid Z H') xs ds := fun x => by
    cases x with
    | tup ha hl => exact ⟨_, Same.seqT hid_all ha, hl⟩
  obtain ⟨xs, ha, hl⟩ := at_ d1
  refine ⟨a, rfl, ⟨xs, ha⟩, fun i m σ' H' => m = ds.length - i ∧ i ≤ ds.length ∧ ∃ δ', I i δ' ∧ St4 (f.with (.ref a) (.tuple ds)) Z δ' σ' H', ⟨ds.length, by simp, Nat.zero_le _, δ, h0, s1⟩, ?_⟩
  rintro i m σ' H' ⟨rfl, hi, δ', hI, s'⟩
  obtain ⟨ys, hy, hyl⟩ := at_ (s'.gh _ (List.mem_cons_self ..))
  have ln := hyl.len
  by_cases hlt : i < ds.length
  · obtain ⟨y, hy1, hy2⟩ := hyl.get (List.getElem?_eq_getElem hlt)
    refine .inr ⟨⟨ys, y, hy, hy1⟩, fun σ2 H2 => ∃ δ', I (i + 1) δ' ∧ St4 (f.with (.ref a) (.tuple ds)) Z δ' σ2 H2, fun σ2 H2 p => ⟨ds.length - (i + 1), by omega, rfl, hlt, p⟩, fun x H2 hx => ?_⟩
    obtain ⟨rfl, hx⟩ := hx
    obtain rfl : x = y := Option.some.inj ((hx ys hy).symm.trans hy1)
    obtain ⟨δ2, hB, hse⟩ := hs i _ δ' (.ref a) (List.getElem?_eq_getElem hlt) hI
    refine hb f.W Z H2 σ' δ' δ2 x _ s'.ok hy2 hB _ fun σ3 k3 => hse σ3 H2 _ ⟨s'.z, k3, s'.g, s'.gh⟩ ⟨?_, ?_, ?_, ?_, ?_⟩
    · rintro Z4 δ4 σ4 H4 ⟨rfl, e⟩ s4
      exact ⟨δ4, e, s4⟩
    · exact fun Z4 δ4 σ4 H4 e s4 => im.nx Z4 δ4 σ4 H4 e s4.wo
    · rintro Z4 δ4 σ4 H4 ⟨rfl, e⟩ s4
      exact ⟨δ4, e, s4⟩
    · exact im.rt
    · exact im.rw
  · have e : i = ds.length := by omega
    subst e
    exact .inl ⟨⟨ys, hy, by omega⟩, im.nx Z δ' σ' H' (hd δ' hI) s'.wo⟩
/-! ### comprehensions -/
theorem wipe1 {σ : Sg} {j : Nat} : wipe σ [j] = σ.set j none := rfl
end
end Kw

set_option Elab.async false
set_option linter.all false
set_option maxRecDepth 100000
namespace Kw
open PySem PySem.Spec PyProof.Rows L2
def wipeD (δ : List Sl) : List Nat → List Sl
  | [] => δ
  | v :: vs => (wipeD δ vs).set v .no
section
variable {W : Wd} {K : PySem.W.Frag} {Z : List Addr} {δ : List Sl} {b : Bool} {H H1 H' : Hp} {σ : Sg} {te tl : TE} {ta : TA} {tt : TT} {F : D → Prop} {FL : List D → Prop}
theorem Ok.wipe (k : Ok W K Z H σ δ) : ∀ vs : List Nat, Ok W K Z H (wipe σ vs) (wipeD δ vs)
  | [] => k
  | v :: vs => (Ok.wipe k vs).set v (o := none) (x := .no) True.intro
def BndW (K : PySem.W.Frag) (g : TG) (vs : List Nat) (B : D → List Sl → List Sl → Prop) : Prop := ∀ (W : Wd) (Z : List Addr) (H : Hp) (σ : Sg) (δ δ' : List Sl) (v : V) (d : D), Ok W K Z H (wipe σ vs) δ → Dd K (hid Z H) v d → B d δ δ' →
  ∀ Q : Sg → Hp → Prop, (∀ σ', Ok W K Z H σ' δ' → wipe σ' vs = wipe σ vs → Q σ' H) → g v (wipe σ vs) H Q
theorem bw1 {i : Nat} : BndW K (gName i) [i] fun d δ δ' => δ' = δ.set i (.dat d) := fun W Z H σ δ δ' v d k hv e Q q => by
  subst e
  refine q _ (k.setD i hv) ?_
  show ((σ.set i none).set i (some v)).set i none = σ.set i none
  rw [List.set_set, List.set_set]
theorem set_ij {α : Type} {σ : List α} {i j : Nat} {x y z : α} (h : i ≠ j) : (((((σ.set j x).set i x).set i y).set j z).set j x).set i x = (σ.set j x).set i x := by
  have e : ((σ.set j x).set i y).set j x = (σ.set j x).set i y := by
    rw [List.set_comm y x h, List.set_set]
  rw [List.set_set, List.set_set, e, List.set_set]
theorem bw2 {i j : Nat} (h : i ≠ j) : BndW K (gTup K 2 (gCons (gName i) (gCons (gName j) gNil))) [i, j] fun d δ δ' => ∃ a b, d = .tuple [a, b] ∧ δ' = (δ.set i (.dat a)).set j (.dat b) := fun W Z H σ δ δ' v d k hv e Q q => by
  obtain ⟨a, b, rfl, rfl⟩ := e
  cases hv with
  | @tup ad xs _ hs hl =>
    cases hl with
    | cons e1 r =>
      cases r with
      | cons e2 r =>
        cases r
        exact ⟨ad, _, rfl, Same.seqT hid_all hs, rfl, _, _, rfl, _, _, rfl, rfl, q _ ((k.setD i e1).setD j e2) (set_ij h)⟩
/-- where a comprehension stands: what is made so far lies at p -/
structure Cs (W : Wd) (K : PySem.W.Frag) (Z : List Addr) (H1 : Hp) (p : Addr) (Inv : Nat → List D → Prop) (i : Nat) (H' : Hp) : Prop where
  inv : W.I H'
  g : Gr W.S H1 H'
  at_ : ∃ ys rs, H' p = some (.lst ys) ∧ DdL K (hid (p :: Z) H') ys rs ∧ Inv i rs ∧ rs.length ≤ i
theorem Cs.start (k : Ok W K Z H1 σ δ) {p : Addr} (np : H1 p = none) {Inv : Nat → List D → Prop} (h0 : Inv 0 []) : Cs W K Z H1 p Inv 0 (upd H1 p (.lst [])) :=
  ⟨Wd.new k.inv np, Gr.new np, [], [], upd_same, .nil, h0, Nat.le_refl _⟩
theorem Cs.ok (k : Ok W K Z H1 σ δ) {p : Addr} (np : H1 p = none) {Inv : Nat → List D → Prop} {i : Nat} (c : Cs W K Z H1 p Inv i H') : Ok W K (p :: Z) H' σ δ := by
  have sub' : ∀ a ∈ W.S, a ∈ p :: Z := fun a ha => List.mem_cons_of_mem _ (k.sub a ha)
  refine ⟨c.inv, fun a ha => ?_, sub', (k.sto.all fun _ _ x => x.more np).all fun _ _ x => x.gr sub' c.g⟩
  rcases List.mem_cons.mp ha with rfl | ha
  · obtain ⟨ys, rs, e, _⟩ := c.at_
    rw [e]
    simp
  · exact al_gr k.al c.g c.inv a ha
/-- one turn -/
theorem Cs.turn (k : Ok W K Z H1 σ δ) {p : Addr} (np : H1 p = none) {Inv : Nat → List D → Prop} {i n : Nat} (hi : i < n) (hn : n ≤ 1000) (c : Cs W K Z H1 p Inv i H') {vs : List Nat} {g : TG} {B : D → List Sl → List Sl → Prop} (hb : BndW K g vs B) {v : V} {x : D} (hv : Dd K (hid (p :: Z) H') v x)
    (hs : ∀ rs, Inv i rs → ∃ δ2, B x (wipeD δ vs) δ2 ∧ EvB W K (p :: Z) δ2 tt fun cc => (cc = true → EvG W K (p :: Z) δ2 true te fun d => Inv (i + 1) (rs ++ [d])) ∧ (cc = false → Inv (i + 1) rs)) {Nx : Hp → Prop} (nx : ∀ H, Cs W K Z H1 p Inv (i + 1) H → Nx H) :
    g v (wipe σ vs) H' fun σ2 H2 => wipe σ2 vs = wipe σ vs ∧ tt σ2 H2 fun b H3 => if b = true then te σ2 H3 fun y H4 => ∃ acc, H4 p = some (.lst acc) ∧ acc.length < sizeLine ∧ Nx (upd H4 p (.lst (acc ++ [y]))) else Nx H3 := by
  obtain ⟨ys, rs, e, hd, hI, hl⟩ := c.at_
  obtain ⟨δ2, hB, hE⟩ := hs rs hI
  have ko := c.ok k np
  have npS : p ∉ W.S := fun m => W.al k.inv p m np
  have hids : ∀ {Ha Hb : Hp}, Gr W.S Ha Hb → Same (hid (p :: Z) Ha) (hid (p :: Z) Hb) := fun g => hid_same fun a o n e => g a o (fun m => n (ko.sub a m)) e
  refine hb W (p :: Z) H' σ (wipeD δ vs) δ2 v x (ko.wipe vs) hv hB _ fun σ2 k2 ew => ⟨ew, hE σ2 H' k2 _ fun cc H3 hc g3 i3 => ?_⟩
  cases cc with
  | true =>
    refine iteT (hc.1 rfl σ2 H3 (k2.gr g3 i3) _ fun y H4 d hd4 g4 i4 dd => ?_)
    have g34 := g3.trans g4
    refine ⟨ys, g34 p _ npS e, small1000 (by rw [hd.len]; omega), nx _ ⟨Wd.put i4 npS, (c.g.trans g34).write np, ys ++ [y], rs ++ [d], upd_same, ?_, hd4, by rw [List.length_append]; simp; omega⟩⟩
    rw [hid_upd (List.mem_cons_self ..)]
    exact (hd.mono (hids g34)).append (.one dd)
  | false => exact iteF (nx _ ⟨i3, c.g.trans g3, ys, rs, g3 p _ npS e, hd.mono (hids g3), hc.2 rfl, by omega⟩)
theorem Cs.fin {p : Addr} {Inv : Nat → List D → Prop} {n : Nat} (c : Cs W K Z H1 p Inv n H') {Q : VK} (g0 : Gr W.S H H1) (np : H p = none) (hd : ∀ rs, Inv n rs → FL rs) (q : ∀ p xs H' ds, FL ds → H p = none → Gr W.S H H' → W.I H' → H' p = some (.lst xs) → DdL K (hid (p :: Z) H') xs ds → Q (.ref p) H') : Q (.ref p) H' := by
  obtain ⟨ys, rs, e, hl, hI, _⟩ := c.at_
  exact q p ys H' rs (hd rs hI) np (g0.trans c.g) c.inv e hl
theorem wn_lcR {vs : List Nat} {g : TG} {B : D → List Sl → List Sl → Prop} (hb : BndW K g vs B) (h : EvL W K Z δ false ta fun l => ∃ n : Nat, l = [.int n] ∧ n ≤ 1000 ∧ ∃ Inv : Nat → List D → Prop, Inv 0 [] ∧
      (∀ p i rs, i < n → Inv i rs → ∃ δ2, B (.int i) (wipeD δ vs) δ2 ∧ EvB W K (p :: Z) δ2 tt fun c => (c = true → EvG W K (p :: Z) δ2 true te fun d => Inv (i + 1) (rs ++ [d])) ∧ (c = false → Inv (i + 1) rs)) ∧ ∀ rs, Inv n rs → FL rs) :
    EvN W K Z δ (tLc (iRng1 ta) g tt te vs) FL := fun σ H k Q q => h σ H k _ fun us H1 ds ff g1 i1 d1 => by
  obtain ⟨n, rfl, hn, Inv, h0, hs, hd⟩ := ff
  have k1 := k.gr g1 i1
  cases d1 with
  | cons e r =>
    cases r
    cases e
    refine ⟨(n : Int), rfl, by omega, by omega, fun p np => lc_range (lo := 0) (n := ((n : Int)).toNat) (Cs W K Z H1 p Inv) (Cs.start k1 np h0) (fun i H' hi c => ?_) (fun H' c => ?_)⟩
    · rw [Int.toNat_natCast] at hi
      exact c.turn k1 np hi hn hb (by rw [Int.zero_add]; exact .int _) (fun rs hI => hs p i rs hi hI) fun _ x => x
    · rw [Int.toNat_natCast] at c
      exact c.fin g1 (Gr.back g1 i1 np) hd q
theorem wn_lcL {vs : List Nat} {g : TG} {B : D → List Sl → List Sl → Prop} (hb : BndW K g vs B) (h : EvG W K Z δ true tl fun d => ∃ ds, d = .list ds ∧ ds.length ≤ 1000 ∧ ∃ Inv : Nat → List D → Prop, Inv 0 [] ∧
      (∀ p i x rs, ds[i]? = some x → Inv i rs → ∃ δ2, B x (wipeD δ vs) δ2 ∧ EvB W K (p :: Z) δ2 tt fun c => (c = true → EvG W K (p :: Z) δ2 true te fun d => Inv (i + 1) (rs ++ [d])) ∧ (c = false → Inv (i + 1) rs)) ∧ ∀ rs, Inv ds.length rs → FL rs) :
    EvN W K Z δ (tLc (iList K tl) g tt te vs) FL := fun σ H k Q q => h σ H k _ fun v H1 d ff g1 i1 d1 => by
  obtain ⟨ds, rfl, hn, Inv, h0, hs, hd⟩ := ff
  have k1 := k.gr g1 i1
  cases d1 with
  | @lst a xs _ ha hl =>
    have ha1 : H1 a = some (.lst xs) := hid_all _ _ ha
    have nS : a ∉ W.S := fun m => by
      rw [show hid (lv W Z true) H1 a = none from if_pos (k1.sub a m)] at ha
      cases ha
    refine ⟨a, rfl, ⟨xs, SqL.of ha1⟩, fun p np => lc_list (xs := xs) (Cs W K Z H1 p Inv) (Cs.start k1 np h0) (fun i H' _ c => SqL.of (c.g a _ nS ha1)) (fun i x H' hx c => ?_) (fun H' c => ?_)⟩
    · have hi : i < ds.length := by rw [← hl.len]; exact (List.getElem?_eq_some_iff.mp hx).1
      obtain ⟨v, hv, hvd⟩ := hl.get (List.getElem?_eq_getElem hi)
      obtain rfl : x = v := Option.some.inj (hx.symm.trans hv)
      have ko := c.ok k1 np
      exact c.turn k1 np hi hn hb ((hvd.mono (hid_more np)).mono (hid_same fun b o n e => c.g b o (fun m => n (ko.sub b m)) e)) (fun rs hI => hs p i _ rs (List.getElem?_eq_getElem hi) hI) fun _ x => x
    · rw [hl.len] at c
      exact c.fin g1 (Gr.back g1 i1 np) hd q
theorem wn_lcT {vs : List Nat} {g : TG} {B : D → List Sl → List Sl → Prop} (hb : BndW K g vs B) (h : EvG W K Z δ true tl fun d => ∃ ds, d = .tuple ds ∧ ds.length ≤ 1000 ∧ ∃ Inv : Nat → List D → Prop, Inv 0 [] ∧
      (∀ p i x rs, ds[i]? = some x → Inv i rs → ∃ δ2, B x (wipeD δ vs) δ2 ∧ EvB W K (p :: Z) δ2 tt fun c => (c = true → EvG W K (p :: Z) δ2 true te fun d => Inv (i + 1) (rs ++ [d])) ∧ (c = false → Inv (i + 1) rs)) ∧ ∀ rs, Inv ds.length rs → FL rs) :
    EvN W K Z δ (tLc (iTup K tl) g tt te vs) FL := fun σ H k Q q => h σ H k _ fun v H1 d ff g1 i1 d1 => by
  obtain ⟨ds, rfl, hn, Inv, h0, hs, hd⟩ := ff
  have k1 := k.gr g1 i1
  cases d1 with
  | @tup a xs _ ha hl =>
    refine ⟨a, rfl, ⟨xs, Same.seqT hid_all ha⟩, fun p np => lc_tup (xs := xs) (Cs W K Z H1 p Inv) (Cs.start k1 np h0) (fun i H' _ c => ?_) (fun i x H' hx c => ?_) (fun H' c => ?_)⟩
    · exact Same.seqT hid_all (Same.seqT (hid_same fun b o n e => c.g b o (fun m => n (k1.sub b m)) e) ha)
    · have hi : i < ds.length := by rw [← hl.len]; exact (List.getElem?_eq_some_iff.mp hx).1
      obtain ⟨v, hv, hvd⟩ := hl.get (List.getElem?_eq_getElem hi)
      obtain rfl : x = v := Option.some.inj (hx.symm.trans hv)
      have ko := c.ok k1 np
      exact c.turn k1 np hi hn hb ((hvd.mono (hid_more np)).mono (hid_same fun b o n e => c.g b o (fun m => n (ko.sub b m)) e)) (fun rs hI => hs p i _ rs (List.getElem?_eq_getElem hi) hI) fun _ x => x
    · rw [hl.len] at c
      exact c.fin g1 (Gr.back g1 i1 np) hd q
/-- a new list as data -/
theorem wp_new (h : EvN W K Z δ te fun ds => F (.list ds)) : EvG W K Z δ b te F := fun σ H k Q q => h σ H k Q fun p xs H' ds f np g i e hl => by
  have nz : p ∉ Z := fun m => k.al p m np
  refine q _ _ _ f g i (.lst ?_ (hl.mono (hid_sub ?_)))
  · rw [hid_out (lv_new (b := b) k np)]
    exact e
  · intro a ha
    cases b with
    | true => exact List.mem_cons_of_mem _ ha
    | false => exact List.mem_cons_of_mem _ (k.sub a ha)
theorem wt_yes {G : Bool → Prop} (h : G true) : EvB W K Z δ tYes G := fun σ H k Q q => q true H h (Gr.refl _ _) k.inv
/-! ### lists made of lists -/
theorem wn_cat {ta tb : TE} (h : EvG W K Z δ true ta fun x => EvG W K Z δ true tb fun y => ∃ xs ys, x = .list xs ∧ y = .list ys ∧ xs.length + ys.length ≤ 1000 ∧ FL (xs ++ ys)) : EvN W K Z δ (tOp rCat ta tb) FL := fun σ H k Q q => h σ H k _ fun v H1 x hx g1 i1 d1 => hx σ H1 (k.gr g1 i1) _ fun w H2 y hy g2 i2 d2 => by
  obtain ⟨xs, ys, rfl, rfl, hl, f⟩ := hy
  have d1' := d1.mono (lv_gr (b := true) k g1 g2)
  cases d1' with
  | @lst a vs _ ha hva =>
    cases d2 with
    | @lst c ws _ hc hwc =>
      refine ⟨a, c, vs, ws, rfl, rfl, hid_all _ _ ha, hid_all _ _ hc, by rw [hva.len, hwc.len]; exact Nat.le_of_lt (small1000 hl), fun p np => q p _ _ _ f (Gr.back (g1.trans g2) i2 np) ((g1.trans g2).trans (Gr.new np)) (Wd.new i2 np) upd_same ?_⟩
      rw [hid_upd (List.mem_cons_self ..)]
      exact (hva.append hwc).mono (hid_more np)
theorem wn_rep {ta tb : TE} (h : EvG W K Z δ true ta fun x => EvG W K Z δ false tb fun y => ∃ d n, x = .list [d] ∧ y = .int (n : Nat) ∧ n ≤ 1000 ∧ FL (List.replicate n d)) : EvN W K Z δ (tOp rRep ta tb) FL := fun σ H k Q q => h σ H k _ fun v H1 x hx g1 i1 d1 => hx σ H1 (k.gr g1 i1) _ fun w H2 y hy g2 i2 d2 => by
  obtain ⟨d, n, rfl, rfl, hl, f⟩ := hy
  have d1' := d1.mono (lv_gr (b := true) k g1 g2)
  cases d2
  cases d1' with
  | @lst a vs _ ha hva =>
    cases hva with
    | cons e r =>
      cases r
      refine ⟨a, (n : Int), _, rfl, rfl, hid_all _ _ ha, by omega, by omega, Nat.le_of_lt (small1000 (by simp; omega)), fun p np => q p _ _ _ f (Gr.back (g1.trans g2) i2 np) ((g1.trans g2).trans (Gr.new np)) (Wd.new i2 np) upd_same ?_⟩
      rw [hid_upd (List.mem_cons_self ..)]
      refine (?_ : DdL K (hid (lv W Z true) H2) _ _).mono (hid_more np)
      rw [Int.toNat_natCast, show ∀ (m : Nat) (z : V), (List.replicate m [z]).flatten = List.replicate m z from fun m z => by simp]
      exact .rep e n
/-- xs[a:b] of a list that is data; tuple(xs); list(xs) -/
def EvO (W : Wd) (K : PySem.W.Frag) (Z : List Addr) (δ : List Sl) (to : TO) (F : Option Int → Prop) : Prop := ∀ (σ : Sg) (H : Hp), Ok W K Z H σ δ → ∀ Q : Option Int → Hp → Prop, (∀ o H', F o → Gr W.S H H' → W.I H' → Q o H') → to σ H Q
theorem wo_none {FO : Option Int → Prop} (f : FO none) : EvO W K Z δ tNoPart FO := fun σ H k Q q => q none H f (Gr.refl _ _) k.inv
theorem wo_some {FO : Option Int → Prop} (h : EvG W K Z δ false te fun x => ∃ i, x = .int i ∧ FO (some i)) : EvO W K Z δ (tPart te) FO := fun σ H k Q q => h σ H k _ fun v H1 x hx g1 i1 d1 => by
  obtain ⟨i, rfl, f⟩ := hx
  cases d1
  exact ⟨i, rfl, q _ _ f g1 i1⟩
def cutD (xs : List D) (lo hi : Option Int) : List D := (xs.drop (HT.sIx xs.length 0 lo)).take (HT.sIx xs.length xs.length hi - HT.sIx xs.length 0 lo)
theorem DdL.cut {vs : List V} {ds : List D} (h : DdL K H vs ds) (lo hi : Option Int) : DdL K H (cutV vs lo hi) (cutD ds lo hi) := by
  unfold cutV cutD
  rw [h.len]
  exact (h.drop _).take _
theorem wn_sl {tlo thi : TO} (h : EvG W K Z δ true te fun x => EvO W K Z δ tlo fun lo => EvO W K Z δ thi fun hi => ∃ xs, x = .list xs ∧ FL (cutD xs lo hi)) : EvN W K Z δ (tSl (rSlL K) te tlo thi) FL := fun σ H k Q q => h σ H k _ fun v H1 x hx g1 i1 d1 => hx σ H1 (k.gr g1 i1) _ fun lo H2 hlo g2 i2 => hlo σ H2 ((k.gr g1 i1).gr g2 i2) _ fun hi H3 hhi g3 i3 => by
  obtain ⟨xs, rfl, f⟩ := hhi
  have d1' := d1.mono (lv_gr (b := true) k g1 (g2.trans g3))
  have g13 := g1.trans (g2.trans g3)
  cases d1' with
  | @lst a vs _ ha hva =>
    refine ⟨a, vs, rfl, SqL.of (hid_all _ _ ha), fun p np => q p _ _ _ f (Gr.back g13 i3 np) (g13.trans (Gr.new np)) (Wd.new i3 np) upd_same ?_⟩
    rw [hid_upd (List.mem_cons_self ..)]
    exact (hva.cut lo hi).mono (hid_more np)
theorem wp_slT {tlo thi : TO} (h : EvG W K Z δ true te fun x => EvO W K Z δ tlo fun lo => EvO W K Z δ thi fun hi => ∃ xs, x = .tuple xs ∧ ¬ (HT.sIx xs.length 0 lo = 0 ∧ HT.sIx xs.length xs.length hi = xs.length) ∧ F (.tuple (cutD xs lo hi))) : EvG W K Z δ true (tSl (rSlT K) te tlo thi) F := fun σ H k Q q => h σ H k _ fun v H1 x hx g1 i1 d1 => hx σ H1 (k.gr g1 i1) _ fun lo H2 hlo g2 i2 => hlo σ H2 ((k.gr g1 i1).gr g2 i2) _ fun hi H3 hhi g3 i3 => by
  obtain ⟨xs, rfl, nw, f⟩ := hhi
  have d1' := d1.mono (lv_gr (b := true) k g1 (g2.trans g3))
  have g13 := g1.trans (g2.trans g3)
  cases d1' with
  | @tup a vs _ ha hva =>
    refine ⟨a, vs, rfl, Same.seqT hid_all ha, by rw [hva.len]; exact nw, fun p np => q _ _ _ f (g13.trans (Gr.new np)) (Wd.new i3 np) (.tup (SqT.of ?_) ((hva.cut lo hi).mono (fun a o e => ?_)))⟩
    · rw [hid_out (lv_new (b := true) (((k.gr g1 i1).gr g2 i2).gr g3 i3) np)]
      exact upd_same
    · exact hid_same (fun b u _ e => (Gr.new (S := []) np) b u (by simp) e) a o e
theorem wp_tupof {r : List V → Hp → VK → Prop} (hr : r = fun xs H Q => ∃ p ys, xs = [.ref p] ∧ ((SqL K H p ys ∧ ∀ l, H l = none → Q (.ref l) (upd H l (.tup ys))) ∨ (SqT K H p ys ∧ Q (.ref p) H))) (h : EvG W K Z δ true te fun x => ∃ ds, x = .list ds ∧ F (.tuple ds)) :
    EvG W K Z δ true (tCB r (tCons te tNil)) F := fun σ H k Q q => h σ H k _ fun v H1 x hx g1 i1 d1 => by
  obtain ⟨ds, rfl, f⟩ := hx
  subst hr
  cases d1 with
  | @lst a vs _ ha hva =>
    refine ⟨a, vs, rfl, .inl ⟨SqL.of (hid_all _ _ ha), fun l nl => q _ _ _ f (g1.trans (Gr.new nl)) (Wd.new i1 nl) (.tup (SqT.of ?_) (hva.mono ?_))⟩⟩
    · rw [hid_out (lv_new (b := true) (k.gr g1 i1) nl)]
      exact upd_same
    · exact hid_same fun b u _ e => (Gr.new (S := []) nl) b u (by simp) e
theorem ints_of {vs : List V} {ns : List Int} (h : DdL K H vs (ns.map .int)) : vs = ns.map V.int := by
  induction ns generalizing vs with
  | nil => cases h; rfl
  | cons n r ih =>
    cases h with
    | cons e t =>
      cases e
      rw [ih t]
      rfl
theorem bools_of {vs : List V} {ns : List Bool} (h : DdL K H vs (ns.map .bool)) : vs = ns.map V.bl := by
  induction ns generalizing vs with
  | nil => cases h; rfl
  | cons n r ih =>
    cases h with
    | cons e t =>
      cases e
      rw [ih t]
      rfl
theorem wp_sum (h : EvG W K Z δ false te fun x => ∃ ns : List Int, x = .list (ns.map .int) ∧ F (.int ns.sum)) : EvG W K Z δ b (tCB (rSum K) (tCons te tNil)) F := fun σ H k Q q => h σ H k _ fun v H1 x hx g1 i1 d1 => by
  obtain ⟨ns, rfl, f⟩ := hx
  cases d1 with
  | @lst a vs _ ha hva =>
    obtain rfl := ints_of hva
    exact ⟨a, ns, rfl, SqL.of (hid_all _ _ ha), q _ _ _ f g1 i1 (.int _)⟩
theorem wp_all (h : EvG W K Z δ false te fun x => ∃ bs : List Bool, x = .list (bs.map .bool) ∧ F (.bool (bs.all id))) : EvG W K Z δ b (tCB (rAll K) (tCons te tNil)) F := fun σ H k Q q => h σ H k _ fun v H1 x hx g1 i1 d1 => by
  obtain ⟨ns, rfl, f⟩ := hx
  cases d1 with
  | @lst a vs _ ha hva =>
    obtain rfl := bools_of hva
    exact ⟨a, ns, rfl, SqL.of (hid_all _ _ ha), q _ _ _ f g1 i1 (.bl _)⟩
end
/-! ### isinstance of data -/
def tyD : D → String
  | .none => "NoneType"
  | .bool _ => "bool"
  | .int _ => "int"
  | .str _ => "str"
  | .list _ => "list"
  | .tuple _ => "tuple"
  | .dict _ => "dict"
theorem tyx_of {K : PySem.W.Frag} {H : Hp} {v : V} {d : D} (h : Dd K H v d) : TyX K H v (.type (tyD d)) := by
  cases h with
  | non => exact .base .non
  | bl b => exact .base (.bl b)
  | int i => exact .base (.int i)
  | str x => exact .base (.str x)
  | lst ha _ => exact .base (.lst ha)
  | tup ha _ =>
    rcases ha with (h | ⟨o, h⟩) | ⟨o, its, n, h1, h2, _⟩
    · exact .base (.tup h)
    · exact .fTuple h
    · exact .kTuple h1 h2
theorem wp_isi {W : Wd} {K : PySem.W.Frag} {Z : List Addr} {δ : List Sl} {b : Bool} {te : TE} {T : String} {F : D → Prop} (h : EvG W K Z δ false te fun x => ∃ c, kitB (tyD x) T = some c ∧ F (.bool c)) : EvG W K Z δ b (tCB (rIsi K) (tCons te (tCons (tC (.ty T)) tNil))) F := fun σ H k Q q => h σ H k _ fun v H1 x hx g1 i1 d1 => by
  obtain ⟨c, e, f⟩ := hx
  exact ⟨v, .ty T, _, .type T, c, rfl, .ty T, tyx_of (d1.mono hid_all), kit_ty e, q _ _ _ f g1 i1 (.bl _)⟩
end Kw

set_option Elab.async false
set_option linter.all false
set_option maxRecDepth 100000
namespace Kw
open PySem PySem.Spec PyProof.Rows L2
section
variable {K : PySem.W.Frag} {Z S : List Addr} {H : Hp}
theorem sto_rep : ∀ n : Nat, Sto K S Z H (List.replicate n none) (List.replicate n .no)
  | 0 => True.intro
  | n + 1 => ⟨True.intro, sto_rep n⟩
theorem sto_start (n : Nat) : ∀ {vs : List V} {ds : List D}, DdL K (hid Z H) vs ds → Sto K S Z H (vs.map some ++ List.replicate n none) (ds.map .dat ++ List.replicate n .no)
  | _, _, .nil => sto_rep n
  | _, _, .cons h t => ⟨⟨_, rfl, h⟩, sto_start n t⟩
end
section
variable {P : Program} {w : World} {K : PySem.W.Frag} {mg : Str → Option Value} {base : Heap} {x qual : Str} {st : Stmt} {f : Addr} {fd : FuncData} {N ps : List Str} {k : Nat}
theorem imp_end {fx : Fx} {G : D → Prop} {Q : VK} (hγ : fx.γ = []) (q : ∀ v H' d, G d → Gr fx.W.S fx.H0 H' → fx.W.I H' → Dd fx.K (hid fx.Z0 H') v d → Q v H') : Imp fx { rt := G, nx := fun _ _ => G .none } { nx := fun _ H' => Q .non H', rt := Q } :=
  ⟨fun Z δ σ H e s => q _ _ _ e s.g s.ok.inv .non, fun Z δ σ H e s => e.elim, fun Z δ σ H e s => e.elim, fun v d H e g i dd => q v H d e g i dd, fun _ _ _ _ e => e.elim⟩
/-- THE RULE for a def of data -/
theorem fn_data (F : Fun K x qual st f fd) (S : FnScope N ps (defScope st)) {Pre : List D → (D → Prop) → Prop} (hlen : ∀ ds G, Pre ds G → ds.length = ps.length)
    (body : ∀ (cdv : Value) (A : Around) (outer : List Env) (s : Shared) (H : Hp) (E : XK), Room k (A.deeper (envOfC qual (defScope st) s.heap.objs.size f cdv)) →
      ∃ t, PSs (cxOf CX0 P w K mg base N qual (defScope st) f cdv A outer s H E).nox (defBody st) t ∧ ∀ Z ds G, Pre ds G → SE ⟨W0, K, Z, H, []⟩ t Z (ds.map .dat ++ List.replicate (N.length - ps.length) .no) { rt := G, nx := fun _ _ => G .none }) :
    FnOk P w K mg base CX0 (k + 1) f fd ps (spD K Pre) := by
  refine F.ok S (fun vs H Q E h => ?_) (fun cdv A outer s H vs Q E hr h => ?_)
  · obtain ⟨Z, ds, G, hp, al, hd, q⟩ := h
    rw [hd.len]
    exact hlen ds G hp
  · obtain ⟨Z, ds, G, hp, al, hd, q⟩ := h
    obtain ⟨t, ht, hs⟩ := body cdv A outer s H E hr
    refine ⟨t, ht, hs Z ds G hp (start N vs) H _ ⟨fun a h => h, ⟨True.intro, al, fun a h => (nomatch h), ?_⟩, Gr.refl _ _, fun x h => (nomatch h)⟩ (imp_end rfl fun v H' d f g _ dd => q v H' d f g dd)⟩
    unfold L2.start
    rw [hd.len, hlen ds G hp]
    exact sto_start _ hd
/-- THE RULE for a def that draws -/
theorem fn_deck {nm : Str} (F : Fun K x qual st f fd) (S : FnScope N (nm :: ps) (defScope st)) {Pre : List D → (D → Prop) → Prop} (hlen : ∀ ds G, Pre ds G → ds.length = ps.length)
    (body : ∀ (cdv : Value) (A : Around) (outer : List Env) (s : Shared) (H : Hp) (E : XK), Room k (A.deeper (envOfC qual (defScope st) s.heap.objs.size f cdv)) →
      ∃ t, PSs (cxOf CX0 P w K mg base N qual (defScope st) f cdv A outer s H E).nox (defBody st) t ∧ ∀ p q Z ds G, Pre ds G → SE ⟨WK p q, K, Z, H, []⟩ t Z (.raw (.ref p) :: (ds.map .dat ++ List.replicate (N.length - (nm :: ps).length) .no)) { rt := G, nx := fun _ _ => G .none }) :
    FnOk P w K mg base CX0 (k + 1) f fd (nm :: ps) (spK K Pre) := by
  refine F.ok S (fun vs H Q E h => ?_) (fun cdv A outer s H vs Q E hr h => ?_)
  · obtain ⟨p, q, Z, us, ds, G, rfl, hp, dk, hpz, hqz, al, hd, q⟩ := h
    show us.length + 1 = ps.length + 1
    rw [hd.len, hlen ds G hp]
  · obtain ⟨p, q, Z, us, ds, G, rfl, hp, dk, hpz, hqz, al, hd, qq⟩ := h
    obtain ⟨t, ht, hs⟩ := body cdv A outer s H E hr
    have ln : us.length = ps.length := by rw [hd.len, hlen ds G hp]
    refine ⟨t, ht, hs p q Z ds G hp (start N (.ref p :: us)) H _ ⟨fun a h => h, ⟨dk, al, ?_, ?_⟩, Gr.refl _ _, fun x h => (nomatch h)⟩ (imp_end rfl fun v H' d f g i dd => qq v H' d f g i dd)⟩
    · intro a ha
      simp only [WK, List.mem_cons, List.not_mem_nil, or_false] at ha
      rcases ha with rfl | rfl
      · exact hpz
      · exact hqz
    · show Sto _ _ _ _ ((V.ref p :: us).map some ++ List.replicate (N.length - (us.length + 1)) none) _
      rw [ln]
      exact ⟨rfl, sto_start _ hd⟩
end
/-! ### the rules with the written part named (for what stands within a comprehension) -/
section
variable {X : Cx} {K : PySem.W.Frag}
theorem ixK (h : X.K = K) : IxR X (rIx K) := h ▸ ix_seq
theorem eqK (h : X.K = K) (hu : X.A.units + 64 < cLine) : OpR X (compareOp .Eq) (rEqD K) := h ▸ op_eqD hu
theorem neK (h : X.K = K) (hu : X.A.units + 64 < cLine) : OpR X (compareOp .NotEq) (rNeD K) := h ▸ op_neD hu
theorem isiK (h : X.K = K) : CallR X (.builtin "isinstance") (rIsi K) := h ▸ call_isi
def rLen (K : PySem.W.Frag) : List V → Hp → VK → Prop := fun xs H Q => ∃ p ys, xs = [.ref p] ∧ (SqL K H p ys ∨ SqT K H p ys) ∧ Q (.int ys.length) H
theorem lenK (h : X.K = K) : CallR X (.builtin "len") (rLen K) := h ▸ call_len_seq
def rTupOf (K : PySem.W.Frag) : List V → Hp → VK → Prop := fun xs H Q => ∃ p ys, xs = [.ref p] ∧ ((SqL K H p ys ∧ ∀ l, H l = none → Q (.ref l) (upd H l (.tup ys))) ∨ (SqT K H p ys ∧ Q (.ref p) H))
theorem tupK (h : X.K = K) : CallR X (.type "tuple") (rTupOf K) := h ▸ call_tuple_of
theorem sumK (h : X.K = K) (hc : X.calm = true) : CallR X (.builtin "sum") (rSum K) := h ▸ cr_sum hc
theorem allK (h : X.K = K) (hc : X.calm = true) : CallR X (.builtin "all") (rAll K) := h ▸ cr_all hc
theorem slK (h : X.K = K) : SlR X (rSlL K) := h ▸ sl_list
theorem stK (h : X.K = K) : SlR X (rSlT K) := h ▸ sl_tup
end
/-! ### equality of plain data -/
section
variable {W : Wd} {K : PySem.W.Frag} {Z : List Addr} {δ : List Sl} {b : Bool} {ta tb : TE} {G : Bool → Prop} {F : D → Prop}
theorem dec_vi (i j : Int) : decide (V.int i = V.int j) = decide (i = j) := by
  by_cases h : i = j
  · rw [h, decide_eq_true rfl, decide_eq_true rfl]
  · rw [decide_eq_false h, decide_eq_false fun e => h (V.int.inj e)]
theorem dec_vs (i j : Str) : decide (V.str i = V.str j) = decide (i = j) := by
  by_cases h : i = j
  · rw [h, decide_eq_true rfl, decide_eq_true rfl]
  · rw [decide_eq_false h, decide_eq_false fun e => h (V.str.inj e)]
theorem wp_eqI (h : EvG W K Z δ false ta fun x => EvG W K Z δ false tb fun y => ∃ i j, x = .int i ∧ y = .int j ∧ F (.bool (decide (i = j)))) : EvG W K Z δ b (tOp rEq ta tb) F := wp_bin (wp_imp h fun x hx => wp_imp hx fun y hy H v w _ a1 a2 Q q => by
  obtain ⟨i, j, rfl, rfl, f⟩ := hy
  cases a1
  cases a2
  exact ⟨rfl, by rw [dec_vi]; exact q _ _ f fun _ => .bl _⟩)
theorem wp_eqS (h : EvG W K Z δ false ta fun x => EvG W K Z δ false tb fun y => ∃ i j, x = .str i ∧ y = .str j ∧ F (.bool (decide (i = j)))) : EvG W K Z δ b (tOp rEq ta tb) F := wp_bin (wp_imp h fun x hx => wp_imp hx fun y hy H v w _ a1 a2 Q q => by
  obtain ⟨i, j, rfl, rfl, f⟩ := hy
  cases a1
  cases a2
  exact ⟨rfl, by rw [dec_vs]; exact q _ _ f fun _ => .bl _⟩)
theorem wp_neI (h : EvG W K Z δ false ta fun x => EvG W K Z δ false tb fun y => ∃ i j, x = .int i ∧ y = .int j ∧ F (.bool (!decide (i = j)))) : EvG W K Z δ b (tOp rNe ta tb) F := wp_bin (wp_imp h fun x hx => wp_imp hx fun y hy H v w _ a1 a2 Q q => by
  obtain ⟨i, j, rfl, rfl, f⟩ := hy
  cases a1
  cases a2
  exact ⟨rfl, by rw [dec_vi]; exact q _ _ f fun _ => .bl _⟩)
theorem wp_neS (h : EvG W K Z δ false ta fun x => EvG W K Z δ false tb fun y => ∃ i j, x = .str i ∧ y = .str j ∧ F (.bool (!decide (i = j)))) : EvG W K Z δ b (tOp rNe ta tb) F := wp_bin (wp_imp h fun x hx => wp_imp hx fun y hy H v w _ a1 a2 Q q => by
  obtain ⟨i, j, rfl, rfl, f⟩ := hy
  cases a1
  cases a2
  exact ⟨rfl, by rw [dec_vs]; exact q _ _ f fun _ => .bl _⟩)
theorem wt_eqI (h : EvG W K Z δ false ta fun x => EvG W K Z δ false tb fun y => ∃ i j, x = .int i ∧ y = .int j ∧ G (decide (i = j))) : EvB W K Z δ (tTest (tOp rEq ta tb)) G := wt_test (wp_eqI (wp_imp h fun x hx => wp_imp hx fun y hy => by
  obtain ⟨i, j, rfl, rfl, f⟩ := hy
  exact ⟨i, j, rfl, rfl, _, rfl, f⟩))
theorem wt_eqS (h : EvG W K Z δ false ta fun x => EvG W K Z δ false tb fun y => ∃ i j, x = .str i ∧ y = .str j ∧ G (decide (i = j))) : EvB W K Z δ (tTest (tOp rEq ta tb)) G := wt_test (wp_eqS (wp_imp h fun x hx => wp_imp hx fun y hy => by
  obtain ⟨i, j, rfl, rfl, f⟩ := hy
  exact ⟨i, j, rfl, rfl, _, rfl, f⟩))
theorem wt_neI (h : EvG W K Z δ false ta fun x => EvG W K Z δ false tb fun y => ∃ i j, x = .int i ∧ y = .int j ∧ G (!decide (i = j))) : EvB W K Z δ (tTest (tOp rNe ta tb)) G := wt_test (wp_neI (wp_imp h fun x hx => wp_imp hx fun y hy => by
  obtain ⟨i, j, rfl, rfl, f⟩ := hy
  exact ⟨i, j, rfl, rfl, _, rfl, f⟩))
theorem wt_neS (h : EvG W K Z δ false ta fun x => EvG W K Z δ false tb fun y => ∃ i j, x = .str i ∧ y = .str j ∧ G (!decide (i = j))) : EvB W K Z δ (tTest (tOp rNe ta tb)) G := wt_test (wp_neS (wp_imp h fun x hx => wp_imp hx fun y hy => by
  obtain ⟨i, j, rfl, rfl, f⟩ := hy
  exact ⟨i, j, rfl, rfl, _, rfl, f⟩))
end
/-! ### less known slots -/
def LeD : List Sl → List Sl → Prop
  | [], [] => True
  | x :: δ, y :: ε => (x = .no ∨ x = y) ∧ LeD δ ε
  | _, _ => False
theorem sto_le {K : PySem.W.Frag} {S Z : List Addr} {H : Hp} : ∀ {σ : Sg} {δ ε : List Sl}, LeD δ ε → Sto K S Z H σ ε → Sto K S Z H σ δ
  | [], [], [], _, _ => True.intro
  | o :: _, x :: _, y :: _, ⟨h, l⟩, ⟨s, t⟩ => ⟨by
    rcases h with rfl | rfl
    · exact True.intro
    · exact s, sto_le l t⟩
  | _ :: _, [], [], _, h => h.elim
  | [], _ :: _, _ :: _, _, h => h.elim
  | _, [], _ :: _, h, _ => h.elim
  | _, _ :: _, [], h, _ => h.elim
theorem leD_refl : ∀ δ : List Sl, LeD δ δ
  | [] => True.intro
  | _ :: δ => ⟨.inr rfl, leD_refl δ⟩
theorem leD_trans : ∀ {a b c : List Sl}, LeD a b → LeD b c → LeD a c
  | [], [], [], _, _ => True.intro
  | x :: _, y :: _, z :: _, ⟨h, l⟩, ⟨h', l'⟩ => ⟨by
    rcases h with h | h
    · exact .inl h
    · rw [h]
      exact h', leD_trans l l'⟩
  | [], [], _ :: _, _, h => h.elim
  | [], _ :: _, _, h, _ => h.elim
  | _ :: _, [], _, h, _ => h.elim
  | _ :: _, _ :: _, [], _, h => h.elim
theorem leD_set {x : Sl} : ∀ {δ ε : List Sl} (i : Nat), LeD δ ε → LeD (δ.set i x) (ε.set i x)
  | [], [], _, _ => True.intro
  | _ :: _, _ :: _, 0, ⟨_, l⟩ => ⟨.inr rfl, l⟩
  | _ :: _, _ :: _, i + 1, ⟨h, l⟩ => ⟨h, leD_set i l⟩
  | [], _ :: _, _, h => h.elim
  | _ :: _, [], _, h => h.elim
theorem s_le {f : Fx} {t : TS} {Z : List Addr} {δ ε : List Sl} {E : EndsD} (h : LeD δ ε) (s : SE f t Z δ E) : SE f t Z ε E := fun σ H T st im => s σ H T ⟨st.z, ⟨st.ok.inv, st.ok.al, st.ok.sub, sto_le h st.ok.sto⟩, st.g, st.gh⟩ im
/-- a word that holds between two statements -/
theorem s_seqK {f : Fx} {t u : TS} {Z : List Addr} {δ : List Sl} {E : EndsD} (P : List Addr → List Sl → Prop) (h1 : ∀ Z' δ', P Z' δ' → SE f u Z' δ' E) (h2 : SE f t Z δ { E with nx := P }) : SE f (tSeq t u) Z δ E := fun σ H T s i =>
  h2 σ H _ s ⟨fun Z' δ' σ' H' e s' => h1 Z' δ' e σ' H' T s' i, i.bk, i.ct, i.rt, i.rw⟩
theorem sh_int (i : Int) : SeqAt.shaped (.int i) = true := by simp [SeqAt.shaped, PyData.canLay0, PyData.depth]
theorem ev_int (i j : Int) : PyData.eqv (.int i) (.int j) = decide (i = j) := by
  simp only [PyData.eqv]
  by_cases h : i = j
  · simp [h]
  · simp [h]
theorem wt_eqII {W : Wd} {K : PySem.W.Frag} {Z : List Addr} {δ : List Sl} {ta tb : TE} {G : Bool → Prop} (h : EvG W K Z δ false ta fun x => EvG W K Z δ false tb fun y => ∃ i j, x = .int i ∧ y = .int j ∧ G (decide (i = j))) : EvB W K Z δ (tTest (tOp (rEqD K) ta tb)) G :=
  wt_test (wp_eq (wp_imp h fun x hx => wp_imp hx fun y hy => by
    obtain ⟨i, j, rfl, rfl, f⟩ := hy
    exact ⟨sh_int i, sh_int j, _, rfl, by rw [ev_int]; exact f⟩))
def preTake : List D → (D → Prop) → Prop := fun ds G => ∃ n : Nat, ds = [.int n] ∧ 0 < n ∧ n < 1073741824 ∧ ∀ r : Nat, r < n → G (.int r)
theorem take_imp {K : PySem.W.Frag} {vs : List V} {H : Hp} {Q : VK} {E : XK} (h : spK K preTake vs H Q E) : spTake vs H Q E := by
  obtain ⟨p, q, Z, us, ds, G, rfl, ⟨n, rfl, h0, h1, hG⟩, dk, hp, hq, al, hd, qq⟩ := h
  cases hd with
  | cons e t =>
    cases t
    cases e
    refine ⟨p, q, n, rfl, dk, by omega, by omega, fun r H' r0 r1 dk' but => ?_⟩
    obtain ⟨m, rfl⟩ : ∃ m : Nat, r = m := ⟨r.toNat, by omega⟩
    refine qq _ H' _ (hG m (by omega)) (fun a o na e => ?_) dk' (.int _)
    simp only [List.mem_cons, List.not_mem_nil, or_false, not_or] at na
    rw [but a na.1 na.2]
    exact e
/-! ### the world of the document, by types -/
inductive Deed where
  | add (c : Nat) (n : Int)
  | flag (c : Nat) (b : Bool)
  | take (c : Nat)
  | drop (c : Nat)
  | enter (c : Nat)
  | leave (c : Nat)
  deriving DecidableEq
def Deed.d : Deed → D
  | .add c n => .tuple [.str "add", .int c, .int n]
  | .flag c b => .tuple [.str "flag", .int c, .bool b]
  | .take c => .tuple [.str "take", .int c]
  | .drop c => .tuple [.str "drop", .int c]
  | .enter c => .tuple [.str "enter", .int c]
  | .leave c => .tuple [.str "leave", .int c]
structure Things where
  cs : Nat
  fs : Nat
  ss : Nat
  rs : Nat
def Deed.ok (t : Things) : Deed → Prop
  | .add c n => c < t.cs ∧ -2 ≤ n ∧ n ≤ 2 ∧ n ≠ 0
  | .flag c _ => c < t.fs
  | .take c => c < t.ss
  | .drop c => c < t.ss
  | .enter c => c < t.rs
  | .leave c => c < t.rs
structure Stp where
  first : Nat
  second : Nat
  deeds : List Deed
def Stp.d (s : Stp) : D := .tuple [.int s.first, .int s.second, .tuple (s.deeds.map Deed.d)]
structure Stp.ok (t : Things) (places : Nat) (s : Stp) : Prop where
  fst : s.first < s.second
  snd : s.second < places
  ds : ∀ x ∈ s.deeds, x.ok t
  len : s.deeds.length ≤ 3
structure Knd where
  places : Nat
  marked : List Nat
  steps : List Stp
def Knd.d (k : Knd) : D := .tuple [.int k.places, .tuple (k.marked.map fun n => .int (n : Nat)), .tuple (k.steps.map Stp.d)]
structure Knd.ok (t : Things) (k : Knd) : Prop where
  p1 : 1 ≤ k.places
  p6 : k.places ≤ 6
  asc : k.marked.Pairwise (· < ·)
  lt : ∀ n ∈ k.marked, n < k.places
  st : ∀ s ∈ k.steps, s.ok t k.places
  len : k.steps.length ≤ 10
structure Hs where
  t : Things
  kinds : List Knd
def Things.ok (t : Things) : Prop := t.cs ≤ 2 ∧ t.fs ≤ 4 ∧ t.ss ≤ 3 ∧ t.rs ≤ 2
def Things.l (t : Things) : List D := [.int t.cs, .int t.fs, .int t.ss, .int t.rs]
def Hs.d (h : Hs) : D := .tuple [.int h.t.cs, .int h.t.fs, .int h.t.ss, .int h.t.rs, .tuple (h.kinds.map Knd.d)]
structure Hs.ok (h : Hs) : Prop where
  t : h.t.ok
  k1 : 1 ≤ h.kinds.length
  k3 : h.kinds.length ≤ 3
  ks : ∀ k ∈ h.kinds, k.ok h.t
/-! ### events, works, runs -/
inductive Ev where
  | begin (k : Nat)
  | go (w s : Nat)
  deriving DecidableEq
def Ev.d : Ev → D
  | .begin k => .tuple [.str "begin", .int k]
  | .go w s => .tuple [.str "go", .int w, .int s]
abbrev Wk := Nat × Nat
def wkD (x : Wk) : D := .tuple [.int x.1, .int x.2]
def stepsOf (h : Hs) (k : Nat) : List Stp := ((h.kinds[k]?).map Knd.steps).getD []
def secondOf (h : Hs) (k s : Nat) : Nat := (((stepsOf h k)[s]?).map Stp.second).getD 0
def moved (h : Hs) (ws : List Wk) : Ev → List Wk
  | .begin k => ws ++ [(k, 0)]
  | .go w s => ws.set w ((ws.getD w (0, 0)).1, secondOf h (ws.getD w (0, 0)).1 s)
def can (h : Hs) (ws : List Wk) : Ev → Prop
  | .begin k => k < h.kinds.length
  | .go w s => ∃ x st, ws[w]? = some x ∧ (stepsOf h x.1)[s]? = some st ∧ st.first = x.2
def wok (h : Hs) (ws : List Wk) : Prop := ∀ x ∈ ws, x.1 < h.kinds.length
inductive RunOf (h : Hs) : List Ev → List Wk → Prop
  | nil : RunOf h [] []
  | snoc {es : List Ev} {ws : List Wk} {e : Ev} : RunOf h es ws → can h ws e → RunOf h (es ++ [e]) (moved h ws e)
theorem moved_ok {h : Hs} {ws : List Wk} {e : Ev} (w : wok h ws) (c : can h ws e) : wok h (moved h ws e) := by
  intro x hx
  cases e with
  | begin k =>
    rcases List.mem_append.mp hx with hx | hx
    · exact w x hx
    · rw [List.mem_singleton.mp hx]
      exact c
  | go v s =>
    obtain ⟨y, st, h1, h2, h3⟩ := c
    rcases List.mem_or_eq_of_mem_set hx with hx | rfl
    · exact w x hx
    · have e : ws.getD v (0, 0) = y := by rw [List.getD_eq_getElem?_getD, h1]; rfl
      rw [e]
      exact w y (List.mem_of_getElem? h1)
theorem RunOf.ok {h : Hs} {es : List Ev} {ws : List Wk} (r : RunOf h es ws) : wok h ws := by
  induction r with
  | nil => exact fun x hx => absurd hx (by simp)
  | snoc _ c ih => exact moved_ok ih c
theorem moved_len (h : Hs) (ws : List Wk) (e : Ev) : (moved h ws e).length ≤ ws.length + 1 := by
  cases e with
  | begin k => simp [moved]
  | go v s => simp [moved]
theorem RunOf.len {h : Hs} {es : List Ev} {ws : List Wk} (r : RunOf h es ws) : ws.length ≤ es.length := by
  induction r with
  | nil => exact Nat.le_refl _
  | @snoc es ws e _ _ ih =>
    have := moved_len h ws e
    rw [List.length_append]
    simp
    omega
/-! ### two lists at once, of one's own -/
section
variable {f : Fx} {Z : List Addr} {δ : List Sl} {E : EndsD} {σ : Sg} {H H1 : Hp}
theorem St4.grow (s : St4 f Z δ σ H) {p : Addr} (np : H p = none) (g1 : Gr f.W.S H H1) (i1 : f.W.I H1) (hp : H1 p ≠ none) : St4 f (p :: Z) δ σ H1 := by
  have sub' : ∀ a ∈ f.W.S, a ∈ p :: Z := fun a ha => List.mem_cons_of_mem _ (s.ok.sub a ha)
  refine ⟨fun a ha => List.mem_cons_of_mem _ (s.z a ha), ⟨i1, fun a ha => ?_, sub', (s.ok.sto.all fun _ _ x => x.more np).all fun _ _ x => x.gr sub' g1⟩, s.g.trans g1, fun x hx => ((s.gh x hx).mono (hid_more np)).mono (hid_same fun b u nb q => g1 b u (fun m => nb (sub' b m)) q)⟩
  rcases List.mem_cons.mp ha with rfl | ha
  · exact hp
  · exact al_gr s.ok.al g1 i1 a ha
theorem St4.put (s : St4 f Z δ σ H) {o : Option V} {x : Sl} (i : Nat) (q : SlOk f.K f.W.S Z H o x) : St4 f Z (δ.set i x) (σ.set i o) H := ⟨s.z, s.ok.set i q, s.g, s.gh⟩
theorem s_parOO {i j : Nat} {t1 t2 : TE} (h : EvN f.W f.K Z δ t1 fun ds => ∀ p, f.H0 p = none → p ∉ Z → EvN f.W f.K (p :: Z) δ t2 fun es => ∀ q, f.H0 q = none → q ∉ p :: Z → E.nx (q :: p :: Z) ((δ.set i (.own p ds)).set j (.own q es))) :
    SE f (tPar i j (tCons t1 (tCons t2 tNil))) Z δ E := fun σ H T s im => h σ H s.ok _ fun p xs H1 ds ff np g1 i1 hp hd => by
  have s1 := s.grow np g1 i1 (by rw [hp]; simp)
  have pS : p ∉ f.W.S := fun m => f.W.al s.ok.inv p m np
  refine ff p (Gr.back s.g s.ok.inv np) (fun m => s.ok.al p m np) σ H1 s1.ok _ fun q ys H2 es fe nq g2 i2 hq he => ?_
  have s2 := s1.grow nq g2 i2 (by rw [hq]; simp)
  have qS : q ∉ f.W.S := fun m => f.W.al s1.ok.inv q m nq
  refine ⟨.ref p, .ref q, rfl, im.nx _ _ _ _ (fe q (Gr.back s1.g s1.ok.inv nq) fun m => s1.ok.al q m nq) ((s2.put i (o := some (.ref p)) (x := .own p ds) ⟨rfl, by simp, pS, xs, g2 p _ pS hp, ?_⟩).put j (o := some (.ref q)) (x := .own q es) ⟨rfl, by simp, qS, ys, hq, he⟩)⟩
  exact (hd.mono (hid_more nq)).mono (hid_same fun b u nb e => g2 b u (fun m => nb (s2.ok.sub b m)) e)
/-- the first of one's own, the second data -/
theorem s_parOD {i j : Nat} {t1 t2 : TE} (h : EvN f.W f.K Z δ t1 fun ds => ∀ p, f.H0 p = none → p ∉ Z → EvG f.W f.K (p :: Z) δ true t2 fun d => E.nx (p :: Z) ((δ.set i (.own p ds)).set j (.dat d))) :
    SE f (tPar i j (tCons t1 (tCons t2 tNil))) Z δ E := fun σ H T s im => h σ H s.ok _ fun p xs H1 ds ff np g1 i1 hp hd => by
  have s1 := s.grow np g1 i1 (by rw [hp]; simp)
  have pS : p ∉ f.W.S := fun m => f.W.al s.ok.inv p m np
  refine ff p (Gr.back s.g s.ok.inv np) (fun m => s.ok.al p m np) σ H1 s1.ok _ fun v H2 d fe g2 i2 he => ?_
  have s2 := s1.gr g2 i2
  refine ⟨.ref p, v, rfl, im.nx _ _ _ _ fe ((s2.put i (o := some (.ref p)) (x := .own p ds) ⟨rfl, by simp, pS, xs, g2 p _ pS hp, ?_⟩).put j (o := some v) (x := .dat d) ⟨v, rfl, he⟩)⟩
  exact hd.mono (hid_same fun b u nb e => g2 b u (fun m => nb (s1.ok.sub b m)) e)
end
end Kw

set_option Elab.async false
set_option linter.all false
set_option maxRecDepth 100000
namespace Kw
open PySem PySem.Spec PyProof.Rows L2
/-! ### what stands in the written part -/
section
variable {X : Cx} {K : PySem.W.Frag} {w : World} {d : Addr} {es : Array DictEntry} {n : Nat}
def rKdN (K : PySem.W.Frag) (d : Addr) : R2 := fun x y H Q => ∃ (z : Str) (r : Option Value), x = .str z ∧ y = .ref d ∧ PySem.W.nsIn K d z = some r ∧ Q (.bl (!r.isSome)) H
theorem kdN (hK : X.K = K) (hw : X.w = w) (D : KDict K w d es n) : OpR X (compareOp .NotIn) (rKdN K d) := by
  subst hK
  subst hw
  exact op_notIn_kd D
theorem kdI (hK : X.K = K) (hw : X.w = w) : IxR X (rIxD K w) := by
  subst hK
  subst hw
  exact ix_kdict
end
section
variable {W : Wd} {K : PySem.W.Frag} {w : World} {Z : List Addr} {δ : List Sl} {b : Bool} {ta tb : TE} {G : Bool → Prop} {F : D → Prop} {v : V} {d : D} {a : Addr}
theorem wp_cst (h : ∀ H, Dd K H v d) (f : F d) : EvG W K Z δ b (tC v) F := fun σ H k Q q => q _ H _ f (Gr.refl _ _) k.inv (h _)
theorem wt_kdN (h : EvG W K Z δ false ta fun x => ∃ z r, x = .str z ∧ PySem.W.nsIn K a z = some r ∧ G (!r.isSome)) : EvB W K Z δ (tTest (tOp (rKdN K a) ta (tC (.ref a)))) G := fun σ H k Q q => h σ H k _ fun v H1 x hx g1 i1 d1 => by
  obtain ⟨z, r, rfl, e, f⟩ := hx
  cases d1
  exact ⟨z, r, rfl, rfl, e, _, rfl, q _ H1 f g1 i1⟩
theorem wp_kdI (h : EvG W K Z δ false tb fun y => ∃ z v e, y = .str z ∧ KDct K w a z v ∧ (∀ H, Dd K H v e) ∧ F e) : EvG W K Z δ b (tOp (rIxD K w) (tC (.ref a)) tb) F := fun σ H k Q q => h σ H k _ fun u H1 x hx g1 i1 d1 => by
  obtain ⟨z, v, e, rfl, hd, hv, f⟩ := hx
  cases d1
  exact ⟨a, z, v, rfl, rfl, hd, q _ _ _ f g1 i1 (hv _)⟩
theorem atm {α : Type} {g : α → D} {xs : List α} {i : Nat} {x : D} (h : (xs.map g)[i]? = some x) : ∃ y, xs[i]? = some y ∧ x = g y := by
  rw [List.getElem?_map] at h
  obtain ⟨y, h1, rfl⟩ := Option.map_eq_some_iff.mp h
  exact ⟨y, h1, rfl⟩
end
def truesD (n : Nat) : List D := (List.replicate n true).map .bool
theorem trues_succ (n : Nat) : truesD n ++ [.bool true] = truesD (n + 1) := by
  unfold truesD
  rw [List.replicate_succ', List.map_append]
  rfl
theorem trues_all (n : Nat) : (List.replicate n true).all id = true := by simp
section
variable {W : Wd} {K : PySem.W.Frag} {Z : List Addr} {δ : List Sl} {b : Bool} {ta tb tc te tl : TE} {tr : TA} {tt : TT} {G : Bool → Prop} {F : D → Prop} {FL : List D → Prop} {vs : List Nat} {g : TG} {B : D → List Sl → List Sl → Prop}
theorem wt_chain {f g : Int → Int → Bool} (h : EvG W K Z δ false ta fun x => EvG W K Z δ false tb fun y => ∃ i j, x = .int i ∧ y = .int j ∧ (f i j = true → EvG W K Z δ false tc fun z => ∃ l, z = .int l ∧ G (g j l)) ∧ (f i j = false → G false)) :
    EvB W K Z δ (tTest (tChain (rI0 fun i j => .bl (f i j)) (rI0 fun i j => .bl (g i j)) ta tb tc)) G := wt_test (wp_chain (wp_imp h fun x hx => wp_imp hx fun y hy => by
  obtain ⟨i, j, rfl, rfl, h1, h2⟩ := hy
  refine ⟨i, j, rfl, rfl, fun e => wp_imp (h1 e) fun z hz => ?_, fun e => ⟨_, rfl, h2 e⟩⟩
  obtain ⟨l, rfl, q⟩ := hz
  exact ⟨l, rfl, _, rfl, q⟩))
theorem wn_lcR2 (hb : BndW K g vs B) (h : EvL W K Z δ false tr fun l => ∃ lo n : Nat, ∃ hi : Int, l = [.int lo, .int hi] ∧ n = (hi - lo).toNat ∧ lo ≤ 1000 ∧ n ≤ 1000 ∧ -1000 ≤ hi ∧ ∃ Inv : Nat → List D → Prop, Inv 0 [] ∧
      (∀ p i rs, i < n → Inv i rs → ∃ δ2, B (.int (lo + i : Nat)) (wipeD δ vs) δ2 ∧ EvB W K (p :: Z) δ2 tt fun c => (c = true → EvG W K (p :: Z) δ2 true te fun d => Inv (i + 1) (rs ++ [d])) ∧ (c = false → Inv (i + 1) rs)) ∧ ∀ rs, Inv n rs → FL rs) :
    EvN W K Z δ (tLc (iRng2 tr) g tt te vs) FL := fun σ H k Q q => h σ H k _ fun us H1 ds ff g1 i1 d1 => by
  obtain ⟨lo, n, hi, rfl, hn, h1, h2, h3, Inv, h0, hs, hd⟩ := ff
  have k1 := k.gr g1 i1
  cases d1 with
  | cons e r =>
    cases r with
    | cons e2 r =>
      cases r
      cases e
      cases e2
      refine ⟨(lo : Int), hi, rfl, ⟨by omega, by omega, by omega, by omega⟩, fun p np => lc_range (lo := (lo : Int)) (n := (hi - (lo : Int)).toNat) (Cs W K Z H1 p Inv) (Cs.start k1 np h0) (fun i H' hi' c => ?_) (fun H' c => ?_)⟩
      · rw [← hn] at hi'
        exact c.turn k1 np hi' h2 hb (by rw [show ((lo : Int) + (i : Int)) = ((lo + i : Nat) : Int) by omega]; exact .int _) (fun rs hI => hs p i rs hi' hI) fun _ x => x
      · rw [← hn] at c
        exact c.fin g1 (Gr.back g1 i1 np) hd q
/-- all([...]) where each one is True -/
theorem wp_allT (f : F (.bool true)) (hb : BndW K g vs B) (h : EvG W K Z δ true tl fun d => ∃ ds, d = .tuple ds ∧ ds.length ≤ 1000 ∧ ∀ (p : Addr) (i : Nat) (x : D), ds[i]? = some x → ∃ δ2, B x (wipeD δ vs) δ2 ∧ EvG W K (p :: Z) δ2 true te fun d => d = .bool true) :
    EvG W K Z δ b (tCB (rAll K) (tCons (tLc (iTup K tl) g tYes te vs) tNil)) F := by
  refine wp_all (wp_new (wn_lcT hb (wp_imp h fun d hd => ?_)))
  obtain ⟨ds, rfl, hl, hs⟩ := hd
  refine ⟨ds, rfl, hl, fun i rs => rs = truesD i, rfl, fun p i x rs hx hI => ?_, fun rs hI => ⟨_, congrArg _ hI, by rw [trues_all]; exact f⟩⟩
  obtain ⟨δ2, h1, h2⟩ := hs p i x hx
  refine ⟨δ2, h1, wt_yes ⟨fun _ => wp_imp h2 fun d e => ?_, fun e => by cases e⟩⟩
  rw [hI, e, trues_succ]
theorem wp_allR (f : F (.bool true)) (hb : BndW K g vs B) (h : EvL W K Z δ false tr fun l => ∃ n : Nat, l = [.int n] ∧ n ≤ 1000 ∧ ∀ p i, i < n → ∃ δ2, B (.int (i : Nat)) (wipeD δ vs) δ2 ∧ EvG W K (p :: Z) δ2 true te fun d => d = .bool true) :
    EvG W K Z δ b (tCB (rAll K) (tCons (tLc (iRng1 tr) g tYes te vs) tNil)) F := by
  refine wp_all (wp_new (wn_lcR hb (fun σ H k Q q => h σ H k Q fun vs H' ds hd g1 i1 d1 => q vs H' ds ?_ g1 i1 d1)))
  obtain ⟨n, rfl, hl, hs⟩ := hd
  refine ⟨n, rfl, hl, fun i rs => rs = truesD i, rfl, fun p i rs hx hI => ?_, fun rs hI => ⟨_, congrArg _ hI, by rw [trues_all]; exact f⟩⟩
  obtain ⟨δ2, h1, h2⟩ := hs p i hx
  refine ⟨δ2, h1, wt_yes ⟨fun _ => wp_imp h2 fun d e => ?_, fun e => by cases e⟩⟩
  rw [hI, e, trues_succ]
theorem wp_allR2 (f : F (.bool true)) (hb : BndW K g vs B) (h : EvL W K Z δ false tr fun l => ∃ lo n : Nat, ∃ hi : Int, l = [.int lo, .int hi] ∧ n = (hi - lo).toNat ∧ lo ≤ 1000 ∧ n ≤ 1000 ∧ -1000 ≤ hi ∧ ∀ p i, i < n → ∃ δ2, B (.int (lo + i : Nat)) (wipeD δ vs) δ2 ∧ EvG W K (p :: Z) δ2 true te fun d => d = .bool true) :
    EvG W K Z δ b (tCB (rAll K) (tCons (tLc (iRng2 tr) g tYes te vs) tNil)) F := by
  refine wp_all (wp_new (wn_lcR2 hb (fun σ H k Q q => h σ H k Q fun vs H' ds hd g1 i1 d1 => q vs H' ds ?_ g1 i1 d1)))
  obtain ⟨lo, n, hi, rfl, e1, e2, e3, e4, hs⟩ := hd
  refine ⟨lo, n, hi, rfl, e1, e2, e3, e4, fun i rs => rs = truesD i, rfl, fun p i rs hx hI => ?_, fun rs hI => ⟨_, congrArg _ hI, by rw [trues_all]; exact f⟩⟩
  obtain ⟨δ2, h1, h2⟩ := hs p i hx
  refine ⟨δ2, h1, wt_yes ⟨fun _ => wp_imp h2 fun d e => ?_, fun e => by cases e⟩⟩
  rw [hI, e, trues_succ]
end
end Kw

set_option Elab.async false
set_option linter.all false
set_option maxRecDepth 100000
namespace Kw
open PySem PySem.Spec PyProof.Rows L2
section
variable (W : Wd) (K : PySem.W.Frag) (Z : List Addr) (δ : List Sl)
/-- a new value of one's own, also inside -/
def EvW (te : TE) (F : D → Prop) : Prop := ∀ (σ : Sg) (H : Hp), Ok W K Z H σ δ → ∀ Q : VK, (∀ v H' d L, F d → Gr W.S H H' → W.I H' → Nw K H' (hid (L ++ Z) H') v d L → L.Nodup → (∀ a ∈ L, H a = none) → Q v H') → te σ H Q
def EvWL (Zb : List Addr) (ta : TA) (F : List D → List Addr → Prop) : Prop := ∀ (σ : Sg) (H : Hp), Ok W K Z H σ δ → ∀ Q : List V → Hp → Prop, (∀ vs H' ds L zs, F ds zs → Gr W.S H H' → W.I H' → NwL K H' (hid (L ++ Z) H') vs ds L → L.Nodup → (∀ a ∈ L, H a = none ∨ a ∈ zs) → (∀ a ∈ zs, a ∈ Zb ∧ a ∉ W.S ∧ H' a ≠ none) → Q vs H') → ta σ H Q
end
section
variable {W : Wd} {K : PySem.W.Frag} {Z Zb : List Addr} {δ : List Sl} {b : Bool} {H H' : Hp} {σ : Sg} {te ta tb tc : TE} {tr : TA} {t u : TT} {F : D → Prop} {G : Bool → Prop} {FL : List D → List Addr → Prop}
theorem hid_mores {L : List Addr} (h : ∀ a ∈ L, H a = none) : Same (hid Z H) (hid (L ++ Z) H) := fun a o e => by
  by_cases ha : a ∈ Z
  · rw [show hid Z H a = none from if_pos ha] at e
    cases e
  · rw [hid_out ha] at e
    rw [hid_out]
    · exact e
    · intro z
      rcases List.mem_append.mp z with z | z
      · rw [h a z] at e
        cases e
      · exact ha z
theorem Ok.mores {L : List Addr} (k : Ok W K Z H σ δ) (h : ∀ a ∈ L, H a = none) (g : Gr W.S H H') (i : W.I H') (al : ∀ a ∈ L, H' a ≠ none) : Ok W K (L ++ Z) H' σ δ := by
  have sub' : ∀ a ∈ W.S, a ∈ L ++ Z := fun a ha => List.mem_append_right _ (k.sub a ha)
  refine ⟨i, fun a ha => ?_, sub', (k.sto.all fun o x q => ?_).all fun _ _ x => x.gr sub' g⟩
  · rcases List.mem_append.mp ha with ha | ha
    · exact al a ha
    · exact al_gr k.al g i a ha
  · cases x with
    | no => exact True.intro
    | dat d =>
      obtain ⟨v, e, q⟩ := q
      exact ⟨v, e, q.mono (hid_mores h)⟩
    | own p ds =>
      obtain ⟨e, m, n, xs, q, hd⟩ := q
      exact ⟨e, List.mem_append_right _ m, n, xs, q, hd.mono (hid_mores h)⟩
    | raw v => exact q
    | obj p x =>
      obtain ⟨e, m, n, q⟩ := q
      exact ⟨e, List.mem_append_right _ m, n, q⟩
    | str M d =>
      obtain ⟨v, e, m, n, q⟩ := q
      exact ⟨v, e, fun a ha => ⟨List.mem_append_right _ (m a ha).1, (m a ha).2⟩, n, q.mono (hid_mores h) fun _ _ => rfl⟩
theorem ww_imp {F' : D → Prop} (h : EvW W K Z δ te F) (f : ∀ d, F d → F' d) : EvW W K Z δ te F' := fun σ H k Q q => h σ H k Q fun v H' d L x => q v H' d L (f d x)
/-- as data -/
theorem Nw.out {v : V} {d : D} {L : List Addr} (h : Nw K H' (hid (L ++ Z) H') v d L) (n : ∀ a ∈ L, a ∉ Z) : Dd K (hid Z H') v d := h.dd (hid_sub fun a m => List.mem_append_right _ m) fun a m => hid_out (n a m)
theorem wp_ofW (h : EvW W K Z δ te F) : EvG W K Z δ b te F := fun σ H k Q q => h σ H k Q fun v H' d L f g i n nd fr => q v H' d f g i (by
  have dd := n.out fun a m z => k.al a z (fr a m)
  cases b with
  | true => exact dd
  | false => exact dd.mono (hid_sub k.sub))
/-- a new list whose items are flat -/
theorem ww_ofN (h : EvN W K Z δ te fun ds => (∀ d ∈ ds, Flat d) ∧ F (.list ds)) : EvW W K Z δ te F := fun σ H k Q q => h σ H k Q fun p xs H' ds f np g i hp hd => q _ _ _ [p] f.2 g i (.lst hp (.of f.1 hd)) (by simp) fun a m => by
  rw [List.mem_singleton.mp m]
  exact np
/-! ### displays -/
theorem wwl_nil (f : FL [] []) : EvWL W K Z δ Zb tNil FL := fun σ H k Q q => q [] H [] [] [] f (Gr.refl _ _) k.inv .nil .nil (by simp) (by simp)
theorem wwl_own {i : Nat} {p : Addr} {ds : List D} (h0 : δ[i]? = some (.own p ds)) (hp : p ∈ Zb) (hf : ∀ d ∈ ds, Flat d) (f : FL [.list ds] [p]) : EvWL W K Z δ Zb (tCons (tVar i) tNil) FL := fun σ H k Q q => by
  obtain ⟨o, e, rfl, m, n, xs, hx, hd⟩ := k.sto.get h0
  refine ⟨.ref p, e, q _ H _ [p] [p] f (Gr.refl _ _) k.inv (.one (.lst hx (.of hf (hd.mono (hid_sub fun a z => ?_))))) (by simp) (by simp) fun a z => ?_⟩
  · rcases List.mem_append.mp z with z | z
    · rw [List.mem_singleton.mp z]
      exact m
    · exact z
  · rw [List.mem_singleton.mp z]
    exact ⟨hp, n, by rw [hx]; simp⟩
theorem wwl_cons (hb : ∀ a ∈ Zb, a ∈ Z) (h : EvW W K Z δ te fun d => ∀ L, EvWL W K (L ++ Z) δ Zb tr fun ds zs => FL (d :: ds) zs) : EvWL W K Z δ Zb (tCons te tr) FL := fun σ H k Q q => h σ H k _ fun v H1 d L hd g1 i1 n1 nd1 fr1 => by
  have al1 : ∀ a ∈ L, H1 a ≠ none := fun a m z => by
    obtain ⟨xs, hx⟩ := n1.alive a m
    rw [hx] at z
    cases z
  refine hd L σ H1 (k.mores fr1 g1 i1 al1) _ fun vs H2 ds M zs hs g2 i2 n2 nd2 fr2 hz => ?_
  have nS : ∀ a ∈ L, a ∉ W.S := fun a m z => W.al k.inv a z (fr1 a m)
  have dj : ∀ a ∈ L, a ∉ M := fun a m z => by
    rcases fr2 a z with e | e
    · exact al1 a m e
    · exact k.al a (hb a (hz a e).1) (fr1 a m)
  refine q _ H2 _ (L ++ M) zs hs (g1.trans g2) i2 (.cons (n1.mono (B' := hid ((L ++ M) ++ Z) H2) (fun a o e => ?_) fun a m => ?_) (n2.mono (hid_sub fun a z => ?_) fun _ _ => rfl)) (List.nodup_append.mpr ⟨nd1, nd2, fun a m c m2 e => dj a m (by rw [e]; exact m2)⟩) (fun a m => ?_) hz
  · by_cases ha : a ∈ L ++ Z
    · rw [show hid (L ++ Z) H1 a = none from if_pos ha] at e
      cases e
    · rw [hid_out ha] at e
      have hM : a ∉ M := fun z => by
        rcases fr2 a z with e' | e'
        · rw [e'] at e
          cases e
        · exact ha (List.mem_append_right _ (hb a (hz a e').1))
      rw [hid_out (fun z => ?_)]
      · exact g2 a o (fun z => ha (List.mem_append_right _ (k.sub a z))) e
      · rcases List.mem_append.mp z with z | z
        · rcases List.mem_append.mp z with z | z
          · exact ha (List.mem_append_left _ z)
          · exact hM z
        · exact ha (List.mem_append_right _ z)
  · obtain ⟨xs, hx⟩ := n1.alive a m
    rw [hx]
    exact g2 a _ (nS a m) hx
  · rcases List.mem_append.mp z with z | z
    · rcases List.mem_append.mp z with z | z
      · exact List.mem_append_right _ (List.mem_append_left _ z)
      · exact List.mem_append_left _ z
    · exact List.mem_append_right _ (List.mem_append_right _ z)
  · rcases List.mem_append.mp m with m | m
    · exact .inl (fr1 a m)
    · rcases fr2 a m with e | e
      · exact .inl (Gr.back g1 i1 e)
      · exact .inr e
/-! ### calls -/
def spW (K : PySem.W.Frag) (Pre : List D → (D → Prop) → Prop) : Sp := fun vs H Q _ => ∃ (Z : List Addr) (ds : List D) (F : D → Prop), Pre ds F ∧ (∀ z ∈ Z, H z ≠ none) ∧ DdL K (hid Z H) vs ds ∧ ∀ v H' d L, F d → Gr [] H H' → Nw K H' (hid (L ++ Z) H') v d L → L.Nodup → (∀ a ∈ L, H a = none) → Q v H'
theorem ww_call {Pre : List D → (D → Prop) → Prop} {E : XK} (h : EvL W K Z δ true tr fun ds => Pre ds F) : EvW W K Z δ (tCall (spW K Pre) [] E tr) F := fun σ H k Q q => h σ H k _ fun vs H1 ds hs g1 i1 d1 => by
  show spW K Pre (vs ++ []) H1 Q E
  rw [List.append_nil]
  exact ⟨Z, ds, F, hs, (k.gr g1 i1).al, d1, fun v H' d L f g n nd fr => q v H' d L f (g1.trans g.of0) (Wd.gr0 i1 g) n nd fun a m => Gr.back g1 i1 (fr a m)⟩
theorem spW_spD {Pre : List D → (D → Prop) → Prop} {vs : List V} {Q : VK} {E : XK} (h : spD K Pre vs H Q E) : spW K Pre vs H Q E := by
  obtain ⟨Z, ds, F, hp, al, hd, q⟩ := h
  exact ⟨Z, ds, F, hp, al, hd, fun v H' d L f g n nd fr => q v H' d f g (n.out fun a m z => al a z (fr a m))⟩
end
/-! ### statements -/
section
variable {f : Fx} {Z : List Addr} {δ : List Sl} {E : EndsD} {t u : TS} {te ti : TE} {tt : TT} {tr : TA} {σ : Sg} {H H1 : Hp}
theorem s_retOW {i : Nat} {p : Addr} {ds : List D} (h0 : δ[i]? = some (.own p ds)) (hp : f.H0 p = none) (hf : ∀ d ∈ ds, Flat d) (h : E.rw (.list ds)) : SE f (tRet (tVar i)) Z δ E := fun σ H T s im => by
  obtain ⟨o, e, rfl, m, n, xs, hx, hd⟩ := s.ok.sto.get h0
  refine ⟨.ref p, e, im.rw _ _ H [p] h s.g s.ok.inv (.lst hx (.of hf (hd.mono (hid_sub fun a z => ?_)))) (by simp) fun a z => ?_⟩
  · rcases List.mem_append.mp z with z | z
    · rw [List.mem_singleton.mp z]
      exact m
    · exact s.z a z
  · rw [List.mem_singleton.mp z]
    exact hp
theorem s_retW (h : EvW f.W f.K Z δ te E.rw) : SE f (tRet te) Z δ E := fun σ H T s im => h σ H s.ok _ fun v H1 d L ff g1 i1 n nd fr => im.rw v d H1 L ff (s.g.trans g1) i1 (n.mono (hid_sub fun a z => by
  rcases List.mem_append.mp z with z | z
  · exact List.mem_append_left _ z
  · exact List.mem_append_right _ (s.z a z)) fun _ _ => rfl) nd fun a m => Gr.back s.g s.ok.inv (fr a m)
theorem s_retWT (h : EvWL f.W f.K Z δ Z tr fun l zs => l.length ≤ 1000 ∧ (∀ z ∈ zs, f.H0 z = none) ∧ E.rw (.tuple l)) (hz0 : ∀ z ∈ f.Z0, f.H0 z ≠ none) : SE f (tRet (tTup tr)) Z δ E := fun σ H T s im => h σ H s.ok _ fun vs H1 ds L zs ff g1 i1 n nd fr hz => by
  obtain ⟨hl, hzs, f'⟩ := ff
  refine ⟨by rw [n.len]; exact Nat.le_of_lt (small1000 hl), fun p np => ?_⟩
  have gn : Gr f.W.S H1 (upd H1 p (.tup vs)) := Gr.new np
  have aL : ∀ a ∈ L, H1 a ≠ none := fun a m z => by
    obtain ⟨xs, hx⟩ := n.alive a m
    rw [hx] at z
    cases z
  have pL : p ∉ L := fun m => aL p m np
  have al1 := al_gr s.ok.al g1 i1
  have sm : Same (hid (L ++ Z) H1) (hid (L ++ f.Z0) (upd H1 p (.tup vs))) := fun a o e => by
    by_cases ha : a ∈ L ++ Z
    · rw [show hid (L ++ Z) H1 a = none from if_pos ha] at e
      cases e
    · rw [hid_out ha] at e
      rw [hid_out (fun z => ha ?_)]
      · rw [upd_ne (ne_of_none e np)]
        exact e
      · rcases List.mem_append.mp z with z | z
        · exact List.mem_append_left _ z
        · exact List.mem_append_right _ (s.z a z)
  refine im.rw _ _ _ L f' ((s.g.trans g1).trans gn) (Wd.new i1 np) (.tup (SqT.of ?_) (n.mono sm fun a m => upd_ne fun e => pL (by rw [← e]; exact m))) nd fun a m => ?_
  · rw [hid_out]
    · exact upd_same
    · intro z
      rcases List.mem_append.mp z with z | z
      · exact pL z
      · exact al1 p (s.z p z) np
  · rcases fr a m with e | e
    · exact Gr.back s.g s.ok.inv e
    · exact hzs a e
/-- a new value of one's own comes under a name -/
theorem s_str {i : Nat} (h : EvW f.W f.K Z δ te fun d => ∀ L, (∀ a ∈ L, f.H0 a = none) → (∀ a ∈ L, a ∉ Z) → E.nx (L ++ Z) (δ.set i (.str L d))) : SE f (tAsg te (gName i)) Z δ E := fun σ H T s im => h σ H s.ok _ fun v H1 d L ff g1 i1 n nd fr => by
  have aL : ∀ a ∈ L, H1 a ≠ none := fun a m z => by
    obtain ⟨xs, hx⟩ := n.alive a m
    rw [hx] at z
    cases z
  refine im.nx (L ++ Z) _ _ H1 (ff L (fun a m => Gr.back s.g s.ok.inv (fr a m)) fun a m z => s.ok.al a z (fr a m)) ⟨fun a ha => List.mem_append_right _ (s.z a ha), Ok.set (s.ok.mores fr g1 i1 aL) (o := some v) (x := .str L d) i ⟨v, rfl, fun a m => ⟨List.mem_append_left _ m, fun z => f.W.al s.ok.inv a z (fr a m)⟩, nd, n⟩, s.g.trans g1, fun x hx => ?_⟩
  exact ((s.gh x hx).mono (hid_mores fr)).mono (hid_same fun b u nb e => g1 b u (fun m => nb (List.mem_append_right _ (s.ok.sub b m))) e)
end
section
variable {W : Wd} {K : PySem.W.Frag} {Z : List Addr} {δ : List Sl} {F : D → Prop}
/-- such a value is read -/
theorem wp_str' {i : Nat} {L : List Addr} {d : D} (h : δ[i]? = some (.str L d)) (f : F d) : EvG W K Z δ false (tVar i) F := fun σ H k Q q => by
  obtain ⟨o, e, v, rfl, m, n, nw⟩ := k.sto.get h
  exact ⟨v, e, q v H d f (Gr.refl _ _) k.inv (nw.dd (hid_sub k.sub) fun a ha => hid_out (m a ha).2)⟩
end
end Kw

set_option Elab.async false
set_option linter.all false
set_option maxRecDepth 100000
namespace Kw
open PySem PySem.Spec PyProof.Rows L2
section
variable {P : Program} {w : World} {K : PySem.W.Frag} {mg : Str → Option Value} {base : Heap} {x qual : Str} {st : Stmt} {f : Addr} {fd : FuncData} {N ps : List Str} {k : Nat}
theorem imp_endW {fx : Fx} {G : D → Prop} {Q : VK} (q : ∀ v H' d L, G d → Gr fx.W.S fx.H0 H' → fx.W.I H' → Nw fx.K H' (hid (L ++ fx.Z0) H') v d L → L.Nodup → (∀ a ∈ L, fx.H0 a = none) → Q v H') : Imp fx { rt := fun _ => False, nx := fun _ _ => False, rw := G } { nx := fun _ H' => Q .non H', rt := Q } :=
  ⟨fun Z δ σ H e s => e.elim, fun Z δ σ H e s => e.elim, fun Z δ σ H e s => e.elim, fun v d H e => e.elim, fun v d H L e g i n nd fr => q v H d L e g i n nd fr⟩
/-- THE RULE for a def that makes values of its own -/
theorem fn_dataW (F : Fun K x qual st f fd) (S : FnScope N ps (defScope st)) {Pre : List D → (D → Prop) → Prop} (hlen : ∀ ds G, Pre ds G → ds.length = ps.length)
    (body : ∀ (cdv : Value) (A : Around) (outer : List Env) (s : Shared) (H : Hp) (E : XK), Room k (A.deeper (envOfC qual (defScope st) s.heap.objs.size f cdv)) →
      ∃ t, PSs (cxOf CX0 P w K mg base N qual (defScope st) f cdv A outer s H E).nox (defBody st) t ∧ ∀ Z ds G, Pre ds G → (∀ z ∈ Z, H z ≠ none) → SE ⟨W0, K, Z, H, []⟩ t Z (ds.map .dat ++ List.replicate (N.length - ps.length) .no) { rt := fun _ => False, nx := fun _ _ => False, rw := G }) :
    FnOk P w K mg base CX0 (k + 1) f fd ps (spW K Pre) := by
  refine F.ok S (fun vs H Q E h => ?_) (fun cdv A outer s H vs Q E hr h => ?_)
  · obtain ⟨Z, ds, G, hp, al, hd, q⟩ := h
    rw [hd.len]
    exact hlen ds G hp
  · obtain ⟨Z, ds, G, hp, al, hd, q⟩ := h
    obtain ⟨t, ht, hs⟩ := body cdv A outer s H E hr
    refine ⟨t, ht, hs Z ds G hp al (start N vs) H _ ⟨fun a h => h, ⟨True.intro, al, fun a h => (nomatch h), ?_⟩, Gr.refl _ _, fun x h => (nomatch h)⟩ (imp_endW fun v H' d L f g _ n nd fr => q v H' d L f g n nd fr)⟩
    unfold L2.start
    rw [hd.len, hlen ds G hp]
    exact sto_start _ hd
end
section
variable {W : Wd} {K : PySem.W.Frag} {Z : List Addr} {δ : List Sl} {b : Bool} {H H1 H' : Hp} {σ : Sg} {te tl : TE} {ta tr : TA} {tt : TT} {F : D → Prop}
/-! ### a list of new lists -/
structure CsW (W : Wd) (K : PySem.W.Frag) (Z : List Addr) (H1 : Hp) (p : Addr) (Inv : Nat → List D → Prop) (i : Nat) (H' : Hp) : Prop where
  inv : W.I H'
  g : Gr W.S H1 H'
  at_ : ∃ ys rs M, H' p = some (.lst ys) ∧ NwL K H' (hid ((p :: M) ++ Z) H') ys rs M ∧ M.Nodup ∧ p ∉ M ∧ (∀ a ∈ M, H1 a = none) ∧ Inv i rs ∧ rs.length ≤ i
theorem CsW.start (k : Ok W K Z H1 σ δ) {p : Addr} (np : H1 p = none) {Inv : Nat → List D → Prop} (h0 : Inv 0 []) : CsW W K Z H1 p Inv 0 (upd H1 p (.lst [])) :=
  ⟨Wd.new k.inv np, Gr.new np, [], [], [], upd_same, .nil, by simp, by simp, by simp, h0, Nat.le_refl _⟩
theorem CsW.turn (k : Ok W K Z H1 σ δ) {p : Addr} (np : H1 p = none) {Inv : Nat → List D → Prop} {i n : Nat} (hi : i < n) (hn : n ≤ 1000) (c : CsW W K Z H1 p Inv i H') {vs : List Nat} {g : TG} {B : D → List Sl → List Sl → Prop} (hb : BndW K g vs B) {j : Int}
    (hs : ∀ M rs, Inv i rs → ∃ δ2, B (.int j) (wipeD δ vs) δ2 ∧ EvW W K (p :: (M ++ Z)) δ2 te fun d => Inv (i + 1) (rs ++ [d])) {Nx : Hp → Prop} (nx : ∀ H, CsW W K Z H1 p Inv (i + 1) H → Nx H) :
    g (.int j) (wipe σ vs) H' fun σ2 H2 => wipe σ2 vs = wipe σ vs ∧ tYes σ2 H2 fun b H3 => if b = true then te σ2 H3 fun y H4 => ∃ acc, H4 p = some (.lst acc) ∧ acc.length < sizeLine ∧ Nx (upd H4 p (.lst (acc ++ [y]))) else Nx H3 := by
  obtain ⟨ys, rs, M, e, hd, nd, pM, fr, hI, hl⟩ := c.at_
  obtain ⟨δ2, hB, hE⟩ := hs M rs hI
  have npS : p ∉ W.S := fun m => W.al k.inv p m np
  have alM : ∀ a ∈ M, H' a ≠ none := fun a m z => by
    obtain ⟨xs, hx⟩ := hd.alive a m
    rw [hx] at z
    cases z
  have mS : ∀ a ∈ M, a ∉ W.S := fun a m z => W.al k.inv a z (fr a m)
  have ko : Ok W K ((p :: M) ++ Z) H' σ δ := k.mores (L := p :: M) (fun a m => by
    rcases List.mem_cons.mp m with rfl | m
    · exact np
    · exact fr a m) c.g c.inv fun a m => by
    rcases List.mem_cons.mp m with rfl | m
    · rw [e]
      simp
    · exact alM a m
  refine hb W ((p :: M) ++ Z) H' σ (wipeD δ vs) δ2 _ _ (ko.wipe vs) (.int j) hB _ fun σ2 k2 ew => ⟨ew, ?_⟩
  show if true = true then te σ2 H' (fun y H4 => ∃ acc, H4 p = some (.lst acc) ∧ acc.length < sizeLine ∧ Nx (upd H4 p (.lst (acc ++ [y])))) else Nx H'
  rw [if_pos rfl]
  refine hE σ2 H' k2 _ fun y H4 d L hd4 g4 i4 nw nd4 fr4 => ?_
  have e4 := g4 p _ npS e
  have pL : p ∉ L := fun m => by
    rw [fr4 p m] at e
    cases e
  have ML : ∀ a ∈ M, a ∉ L := fun a m z => alM a m (fr4 a z)
  refine ⟨ys, e4, small1000 (by rw [hd.len]; omega), nx _ ⟨Wd.put i4 npS, (c.g.trans g4).write np, ys ++ [y], rs ++ [d], M ++ L, upd_same, ?_, ?_, ?_, ?_, hd4, by rw [List.length_append]; simp; omega⟩⟩
  · refine (hd.mono (fun a o q => ?_) fun a m => ?_).append (.one (nw.mono (fun a o q => ?_) (upd_off pL)))
    · by_cases ha : a ∈ (p :: M) ++ Z
      · rw [show hid ((p :: M) ++ Z) H' a = none from if_pos ha] at q
        cases q
      · rw [hid_out ha] at q
        rw [hid_out fun z => ha ?_]
        · rw [upd_ne fun z => ha (by rw [z]; simp)]
          exact g4 a o (fun z => ha (ko.sub a z)) q
        · rcases List.mem_append.mp z with z | z
          · rcases List.mem_cons.mp z with rfl | z
            · simp
            · rcases List.mem_append.mp z with z | z
              · simp [z]
              · rw [fr4 a z] at q
                cases q
          · simp [z]
    · obtain ⟨xs, hx⟩ := hd.alive a m
      rw [upd_ne fun z => pM (by rw [← z]; exact m), hx]
      exact g4 a _ (mS a m) hx
    · by_cases ha : a ∈ L ++ (p :: (M ++ Z))
      · rw [show hid (L ++ (p :: (M ++ Z))) H4 a = none from if_pos ha] at q
        cases q
      · rw [hid_out ha] at q
        rw [hid_out fun z => ha ?_]
        · rw [upd_ne fun z => ha (by rw [z]; simp)]
          exact q
        · simp only [List.cons_append, List.mem_cons, List.mem_append] at z ⊢
          rcases z with z | (z | z) | z
          · exact .inr (.inl z)
          · exact .inr (.inr (.inl z))
          · exact .inl z
          · exact .inr (.inr (.inr z))
  · exact List.nodup_append.mpr ⟨nd, nd4, fun a m c m2 e => ML a m (by rw [e]; exact m2)⟩
  · intro m
    rcases List.mem_append.mp m with m | m
    · exact pM m
    · exact pL m
  · intro a m
    rcases List.mem_append.mp m with m | m
    · exact fr a m
    · exact Gr.back c.g c.inv (fr4 a m)
theorem ww_lcR {vs : List Nat} {g : TG} {B : D → List Sl → List Sl → Prop} (hb : BndW K g vs B) (h : EvL W K Z δ false ta fun l => ∃ n : Nat, l = [.int n] ∧ n ≤ 1000 ∧ ∃ Inv : Nat → List D → Prop, Inv 0 [] ∧
      (∀ p M i rs, i < n → Inv i rs → ∃ δ2, B (.int (i : Nat)) (wipeD δ vs) δ2 ∧ EvW W K (p :: (M ++ Z)) δ2 te fun d => Inv (i + 1) (rs ++ [d])) ∧ ∀ rs, Inv n rs → F (.list rs)) :
    EvW W K Z δ (tLc (iRng1 ta) g tYes te vs) F := fun σ H k Q q => h σ H k _ fun us H1 ds ff g1 i1 d1 => by
  obtain ⟨n, rfl, hn, Inv, h0, hs, hd⟩ := ff
  have k1 := k.gr g1 i1
  cases d1 with
  | cons e r =>
    cases r
    cases e
    refine ⟨(n : Int), rfl, by omega, by omega, fun p np => lc_range (lo := 0) (n := ((n : Int)).toNat) (CsW W K Z H1 p Inv) (CsW.start k1 np h0) (fun i H' hi c => ?_) (fun H' c => ?_)⟩
    · rw [Int.toNat_natCast] at hi
      exact c.turn k1 np hi hn hb (fun M rs hI => by rw [Int.zero_add]; exact hs p M i rs hi hI) fun _ x => x
    · rw [Int.toNat_natCast] at c
      obtain ⟨ys, rs, M, e, hl, nd, pM, fr, hI, _⟩ := c.at_
      exact q _ H' _ (p :: M) (hd rs hI) (g1.trans c.g) c.inv (.lst e hl) (List.nodup_cons.mpr ⟨pM, nd⟩) fun a m => by
        rcases List.mem_cons.mp m with rfl | m
        · exact Gr.back g1 i1 np
        · exact Gr.back g1 i1 (fr a m)
end
/-! ### what is one's own is written -/
section
variable {f : Fx} {Z : List Addr} {δ : List Sl} {E : EndsD} {t1 t2 te : TE} {σ : Sg} {H H1 : Hp}
theorem St4.writeS {i : Nat} {L : List Addr} {d d' : D} {v : V} {a : Addr} {o : HO} (s : St4 f Z δ σ H) (h0 : δ[i]? = some (.str L d)) (hv : σ[i]? = some (some v)) (m : ∀ a ∈ L, a ∈ Z ∧ a ∉ f.W.S) (nd : L.Nodup) (ha : a ∈ L) (hp : f.H0 a = none) (sp : sepL a (δ.set i .no)) (hn : Nw f.K (upd H a o) (hid Z H) v d' L) (ho : ∃ xs, o = .lst xs) :
    St4 f Z (δ.set i (.str L d')) σ (upd H a o) := by
  have mZ := (m a ha).1
  have es : σ.set i (some v) = σ := by
    apply List.ext_getElem?
    intro j
    by_cases hj : i = j
    · subst hj
      rw [List.getElem?_set_self (List.getElem?_eq_some_iff.mp hv).1, hv]
    · rw [List.getElem?_set_ne hj]
  have k1 := s.ok.set (o := some v) i (x := .no) True.intro
  rw [es] at k1
  have k2 : Ok f.W f.K Z (upd H a o) σ (δ.set i .no) := ⟨Wd.put k1.inv (m a ha).2, fun b hb => by
    by_cases q : b = a
    · rw [q, upd_same]
      simp
    · rw [upd_ne q]
      exact s.ok.al b hb, s.ok.sub, k1.sto.wr mZ sp⟩
  have k3 := k2.set (o := some v) i (x := .str L d') ⟨v, rfl, m, nd, by rw [hid_upd mZ]; exact hn⟩
  rw [es, List.set_set] at k3
  exact ⟨s.z, k3, s.g.write hp, fun x hx => by rw [hid_upd mZ]; exact s.gh x hx⟩
theorem NwL.later {W : Wd} {K : PySem.W.Frag} {vs : List V} {ds : List D} {L : List Addr} (sub : ∀ a ∈ W.S, a ∈ Z) (m : ∀ a ∈ L, a ∉ W.S) (g : Gr W.S H H1) (h : NwL K H (hid Z H) vs ds L) : NwL K H1 (hid Z H1) vs ds L := h.mono (hid_same fun a o n e => g a o (fun z => n (sub a z)) e) fun a ha => by
  obtain ⟨xs, hx⟩ := h.alive a ha
  rw [hx]
  exact g a _ (m a ha) hx
theorem nat_ix {α : Type} {xs : List α} {k : Nat} {x : α} (h : xs[k]? = some x) : atI xs (k : Int) = some x := atI_nat h
/-- told[k].append(x) -/
theorem s_appP {i : Nat} {L : List Addr} {ds : List D} (h0 : δ[i]? = some (.str L (.tuple ds))) (hH : ∀ a ∈ L, f.H0 a = none) (sp : ∀ a ∈ L, sepL a (δ.set i .no))
    (h : EvG f.W f.K Z δ false t1 fun y => ∃ (k : Nat) (es : List D), y = .int k ∧ ds[k]? = some (.list es) ∧ es.length ≤ 999 ∧ EvG f.W f.K Z δ false te fun x => scl x = true ∧ Flat x ∧ E.nx Z (δ.set i (.str L (.tuple (ds.set k (.list (es ++ [x]))))))) :
    SE f (tDrop (tBM f.K "list" rAppend (tOp (rIx f.K) (tVar i) t1) (tCons te tNil))) Z δ E := fun σ H T s im => by
  obtain ⟨o, e, v, rfl, m, nd, nw⟩ := s.ok.sto.get h0
  have mS : ∀ a ∈ L, a ∉ f.W.S := fun a ha => (m a ha).2
  refine ⟨v, e, h σ H s.ok _ fun w H1 y hy g1 i1 d1 => ?_⟩
  obtain ⟨k, es, rfl, hk, hl, hte⟩ := hy
  cases d1
  cases nw with
  | dat fl _ =>
    cases fl with
    | tup hf => cases hf _ (List.mem_of_getElem? hk)
  | @tup a xs _ _ hs nw =>
    have s1 := s.gr g1 i1
    have n1 := nw.later s.ok.sub mS g1
    have hs1 : SqT f.K (hid Z H1) a xs := Same.seqT (hid_same fun a o n e => g1 a o (fun z => n (s.ok.sub a z)) e) hs
    obtain ⟨b, ys, b1, b2, b3, b4, b5⟩ := n1.wr nd hk
    refine .inr (.inl ⟨a, xs, (k : Int), .ref b, rfl, rfl, Same.seqT hid_all hs1, nat_ix b1, .inl ⟨rfl, ys, .inl (.inl b2)⟩, hte σ H1 s1.ok _ fun u H2 x hx g2 i2 d2 => ?_⟩)
    have s2 := s1.gr g2 i2
    have n2 := n1.later s.ok.sub mS g2
    have hs2 : SqT f.K (hid Z H2) a xs := Same.seqT (hid_same fun a o n e => g2 a o (fun z => n (s.ok.sub a z)) e) hs1
    obtain ⟨c, zs, c1, c2, c3, c4, c5⟩ := n2.wr nd hk
    obtain rfl : b = c := by
      rw [c1] at b1
      cases b1
      rfl
    refine ⟨b, zs, u, rfl, rfl, c2, small1000 (by rw [c4]; omega), im.nx Z _ _ _ hx.2.2 (s2.writeS h0 e m nd c3 (hH b c3) (sp b c3) (.tup hs2 (c5 u x hx.2.1 (Dd.any hx.1 d2))) ⟨_, rfl⟩)⟩
/-- told[k][j].append(x) -/
theorem s_appP2 {i : Nat} {L : List Addr} {ds : List D} (h0 : δ[i]? = some (.str L (.tuple ds))) (hH : ∀ a ∈ L, f.H0 a = none) (sp : ∀ a ∈ L, sepL a (δ.set i .no))
    (h : EvG f.W f.K Z δ false t1 fun y => ∃ (k : Nat) (es : List D), y = .int k ∧ ds[k]? = some (.list es) ∧ EvG f.W f.K Z δ false t2 fun y2 => ∃ (j : Nat) (fs : List D), y2 = .int j ∧ es[j]? = some (.list fs) ∧ fs.length ≤ 999 ∧
      EvG f.W f.K Z δ false te fun x => scl x = true ∧ Flat x ∧ E.nx Z (δ.set i (.str L (.tuple (ds.set k (.list (es.set j (.list (fs ++ [x]))))))))) :
    SE f (tDrop (tBM f.K "list" rAppend (tOp (rIx f.K) (tOp (rIx f.K) (tVar i) t1) t2) (tCons te tNil))) Z δ E := fun σ H T s im => by
  obtain ⟨o, e, v, rfl, m, nd, nw⟩ := s.ok.sto.get h0
  have mS : ∀ a ∈ L, a ∉ f.W.S := fun a ha => (m a ha).2
  refine ⟨v, e, h σ H s.ok _ fun w H1 y hy g1 i1 d1 => ?_⟩
  obtain ⟨k, es, rfl, hk, hte⟩ := hy
  cases d1
  cases nw with
  | dat fl _ =>
    cases fl with
    | tup hf => cases hf _ (List.mem_of_getElem? hk)
  | @tup a xs _ _ hs nw =>
    have s1 := s.gr g1 i1
    have n1 := nw.later s.ok.sub mS g1
    have hs1 : SqT f.K (hid Z H1) a xs := Same.seqT (hid_same fun a o n e => g1 a o (fun z => n (s.ok.sub a z)) e) hs
    obtain ⟨b, ys, b1, b2, b3, b4, b5⟩ := n1.wr nd hk
    refine .inr (.inl ⟨a, xs, (k : Int), .ref b, rfl, rfl, Same.seqT hid_all hs1, nat_ix b1, hte σ H1 s1.ok _ fun u H2 y2 hy2 g2 i2 d2 => ?_⟩)
    obtain ⟨j, fs, rfl, hj, hl, hx⟩ := hy2
    cases d2
    have s2 := s1.gr g2 i2
    have n2 := n1.later s.ok.sub mS g2
    have hs2 : SqT f.K (hid Z H2) a xs := Same.seqT (hid_same fun a o n e => g2 a o (fun z => n (s.ok.sub a z)) e) hs1
    obtain ⟨c, zs, c', zs', c1, c2, c3, c4, c5, c6, c7, c8, c9⟩ := n2.wr2 hj nd hk
    obtain rfl : b = c := by
      rw [c1] at b1
      cases b1
      rfl
    refine .inl ⟨b, zs, (j : Int), .ref c', rfl, rfl, SqL.of c2, nat_ix c4, .inl ⟨rfl, zs', .inl (.inl c5)⟩, hx σ H2 s2.ok _ fun u H3 x hx g3 i3 d3 => ?_⟩
    have s3 := s2.gr g3 i3
    have n3 := n2.later s.ok.sub mS g3
    have hs3 : SqT f.K (hid Z H3) a xs := Same.seqT (hid_same fun a o n e => g3 a o (fun z => n (s.ok.sub a z)) e) hs2
    obtain ⟨p, ps, p', ps', p1, p2, p3, p4, p5, p6, p7, p8, p9⟩ := n3.wr2 hj nd hk
    obtain rfl : b = p := by
      rw [p1] at b1
      cases b1
      rfl
    have hz : ps = zs := by
      have h1 := g3 b _ (mS b c3) c2
      rw [p2] at h1
      cases h1
      rfl
    subst hz
    obtain rfl : c' = p' := by
      rw [p4] at c4
      cases c4
      rfl
    refine ⟨c', ps', u, rfl, rfl, p5, small1000 (by rw [p8]; omega), im.nx Z _ _ _ hx.2.2 (s3.writeS h0 e m nd p6 (hH c' p6) (sp c' p6) (.tup hs3 (p9 u x hx.2.1 (Dd.any hx.1 d3))) ⟨_, rfl⟩)⟩
end
end Kw

set_option Elab.async false
set_option linter.all false
set_option maxRecDepth 100000
namespace Kw
open PySem PySem.Spec PyProof.Rows L2
/-! ### slots wiped -/
theorem wipe_setN (σ : Sg) (i : Nat) (o : Option V) : ∀ vs : List Nat, (wipe (σ.set i o) vs).set i none = (wipe σ vs).set i none
  | [] => by
    show (σ.set i o).set i none = σ.set i none
    rw [List.set_set]
  | v :: vs => by
    show ((wipe (σ.set i o) vs).set v none).set i none = ((wipe σ vs).set v none).set i none
    by_cases h : v = i
    · subst h
      rw [List.set_set, List.set_set, wipe_setN σ v o vs]
    · rw [List.set_comm _ _ h, List.set_comm _ _ h, wipe_setN σ i o vs]
theorem wipe_set (σ : Sg) (i : Nat) (o : Option V) : ∀ vs : List Nat, i ∈ vs → wipe (σ.set i o) vs = wipe σ vs
  | v :: vs, h => by
    rcases List.mem_cons.mp h with rfl | h
    · exact wipe_setN σ i o vs
    · show (wipe (σ.set i o) vs).set v none = (wipe σ vs).set v none
      rw [wipe_set σ i o vs h]
theorem wipe_sub (σ : Sg) (us : List Nat) : ∀ vs : List Nat, (∀ v ∈ vs, v ∈ us) → wipe (wipe σ vs) us = wipe σ us
  | [], _ => rfl
  | v :: vs, h => by
    show wipe ((wipe σ vs).set v none) us = _
    rw [wipe_set _ v none us (h v (List.mem_cons_self ..)), wipe_sub σ us vs fun x m => h x (List.mem_cons_of_mem _ m)]
theorem wipe_wipe (σ : Sg) (vs : List Nat) : wipe (wipe σ vs) vs = wipe σ vs := wipe_sub σ vs vs fun _ m => m
theorem bw2v {K : PySem.W.Frag} {i j : Nat} {vs : List Nat} (hi : i ∈ vs) (hj : j ∈ vs) : BndW K (gTup K 2 (gCons (gName i) (gCons (gName j) gNil))) vs fun d δ δ' => ∃ a b, d = .tuple [a, b] ∧ δ' = (δ.set i (.dat a)).set j (.dat b) := fun W Z H σ δ δ' v d k hv e Q q => by
  obtain ⟨a, b, rfl, rfl⟩ := e
  cases hv with
  | @tup ad xs _ hs hl =>
    cases hl with
    | cons e1 r =>
      cases r with
      | cons e2 r =>
        cases r
        refine ⟨ad, _, rfl, Same.seqT hid_all hs, rfl, _, _, rfl, _, _, rfl, rfl, q _ ((k.setD i e1).setD j e2) ?_⟩
        rw [wipe_set _ j _ vs hj, wipe_set _ i _ vs hi, wipe_wipe]
/-! ### a comprehension over two -/
section
variable {W : Wd} {K : PySem.W.Frag} {Z : List Addr} {δ : List Sl} {b : Bool} {H H1 H' : Hp} {σ : Sg} {te tl tl1 : TE} {F : D → Prop} {FL : List D → Prop}
theorem Sto.grp {S : List Addr} {p : Addr} {Ha Hb : Hp} (hs : ∀ a ∈ S, a ∈ p :: Z) (g : Gr (p :: S) Ha Hb) : ∀ {σ : Sg} {δ : List Sl}, sepL p δ → Sto K S (p :: Z) Ha σ δ → Sto K S (p :: Z) Hb σ δ
  | [], [], _, _ => True.intro
  | _ :: _, .no :: _, s, ⟨_, t⟩ => ⟨True.intro, Sto.grp hs g s t⟩
  | _ :: _, .raw _ :: _, s, ⟨h, t⟩ => ⟨h, Sto.grp hs g s t⟩
  | _ :: _, .obj q x :: _, s, ⟨⟨e, m, n, h⟩, t⟩ => ⟨⟨e, m, n, g q _ (fun z => by
      rcases List.mem_cons.mp z with z | z
      · exact s.1 z
      · exact n z) h⟩, Sto.grp hs g s.2 t⟩
  | _ :: _, .dat d :: _, s, ⟨⟨v, e, h⟩, t⟩ => ⟨⟨v, e, h.mono (hid_same fun a o n e => g a o (fun z => n (by
      rcases List.mem_cons.mp z with rfl | z
      · exact List.mem_cons_self ..
      · exact hs a z)) e)⟩, Sto.grp hs g s t⟩
  | _ :: _, .own q ds :: _, s, ⟨⟨e, m, n, xs, h, hd⟩, t⟩ => ⟨⟨e, m, n, xs, g q _ (fun z => by
      rcases List.mem_cons.mp z with z | z
      · exact s.1 z
      · exact n z) h, hd.mono (hid_same fun a o n e => g a o (fun z => n (by
      rcases List.mem_cons.mp z with rfl | z
      · exact List.mem_cons_self ..
      · exact hs a z)) e)⟩, Sto.grp hs g s.2 t⟩
  | _ :: _, .str L d :: _, s, ⟨⟨v, e, m, n, h⟩, t⟩ => ⟨⟨v, e, m, n, h.mono (hid_same fun a o n e => g a o (fun z => n (by
      rcases List.mem_cons.mp z with rfl | z
      · exact List.mem_cons_self ..
      · exact hs a z)) e) fun a ha => by
      obtain ⟨xs, hx⟩ := h.alive a ha
      rw [hx]
      exact g a _ (fun z => by
        rcases List.mem_cons.mp z with z | z
        · exact s.1 (by rw [← z]; exact ha)
        · exact (m a ha).2 z) hx⟩, Sto.grp hs g s.2 t⟩
  | [], _ :: _, _, h => h.elim
  | _ :: _, [], _, h => h.elim
theorem Ok.grp {p : Addr} {Ha Hb : Hp} (k : Ok W K (p :: Z) Ha σ δ) (g : Gr (p :: W.S) Ha Hb) (i : W.I Hb) (hp : Hb p ≠ none) (s : sepL p δ) : Ok W K (p :: Z) Hb σ δ := by
  refine ⟨i, fun a ha e => ?_, k.sub, k.sto.grp k.sub g s⟩
  by_cases h1 : a = p
  · exact hp (by rw [← h1]; exact e)
  · by_cases h2 : a ∈ W.S
    · exact W.al i a h2 e
    · cases q : Ha a with
      | none => exact k.al a ha q
      | some o =>
        rw [g a o (fun z => by
          rcases List.mem_cons.mp z with z | z
          · exact h1 z
          · exact h2 z) q] at e
        cases e
theorem Gr.up {S : List Addr} {p : Addr} {Ha Hb : Hp} (g : Gr S Ha Hb) : Gr (p :: S) Ha Hb := fun a o n e => g a o (fun z => n (List.mem_cons_of_mem _ z)) e
theorem Gr.at {S : List Addr} {p : Addr} {Ha Hb : Hp} {o : HO} (g : Gr (p :: S) Ha Hb) : Gr (p :: S) Ha (upd Hb p o) := fun a u n e => by
  rw [upd_ne fun z => n (by rw [z]; exact List.mem_cons_self ..)]
  exact g a u n e
structure Ct (W : Wd) (K : PySem.W.Frag) (Z : List Addr) (H1 : Hp) (p : Addr) (Inv : List D → Prop) (H' : Hp) : Prop where
  inv : W.I H'
  g : Gr W.S H1 H'
  at_ : ∃ ys rs, H' p = some (.lst ys) ∧ DdL K (hid (p :: Z) H') ys rs ∧ Inv rs
theorem Ct.ok (k : Ok W K Z H1 σ δ) {p : Addr} (np : H1 p = none) {Inv : List D → Prop} (c : Ct W K Z H1 p Inv H') : Ok W K (p :: Z) H' σ δ := by
  obtain ⟨ys, rs, e, _⟩ := c.at_
  refine k.mores (L := [p]) (fun a m => ?_) c.g c.inv fun a m => ?_
  · rw [List.mem_singleton.mp m]
    exact np
  · rw [List.mem_singleton.mp m, e]
    simp
theorem wn_lc2 {vs vs1 : List Nat} {g g1 : TG} {B B1 : D → List Sl → List Sl → Prop} (hb : BndW K g vs B) (hb1 : BndW K g1 vs1 B1) (h : EvG W K Z δ true tl fun d => ∃ ds, d = .list ds ∧ ∃ Inv : Nat → List D → Prop, Inv 0 [] ∧
      (∀ (p : Addr) (i : Nat) (x : D) rs, ds[i]? = some x → Inv i rs → ∃ δ2, B x (wipeD δ vs) δ2 ∧ sepL p (wipeD δ2 vs1) ∧ EvG W K (p :: Z) δ2 true tl1 fun d1 => ∃ ds1, d1 = .tuple ds1 ∧ ∃ Inv1 : Nat → List D → Prop, Inv1 0 rs ∧
        (∀ (j : Nat) (y : D) rs', ds1[j]? = some y → Inv1 j rs' → rs'.length ≤ 999 ∧ ∃ δ3, B1 y (wipeD δ2 vs1) δ3 ∧ EvG W K (p :: Z) δ3 true te fun d => Inv1 (j + 1) (rs' ++ [d])) ∧ ∀ rs', Inv1 ds1.length rs' → Inv (i + 1) rs') ∧ ∀ rs, Inv ds.length rs → FL rs) :
    EvN W K Z δ (tLc2 (iList K tl) g tYes (iTup K tl1) g1 tYes te vs vs1) FL := fun σ H k Q q => h σ H k _ fun v H1 d ff g1' i1 d1 => by
  obtain ⟨ds, rfl, Inv, h0, hs, hd⟩ := ff
  have k1 := k.gr g1' i1
  obtain ⟨a, rfl⟩ : ∃ a, v = .ref a := by cases d1; exact ⟨_, rfl⟩
  have at_ : ∀ {Y : List Addr} {H' : Hp}, Dd K (hid Y H') (.ref a) (.list ds) → ∃ xs, SqL K H' a xs ∧ DdL K (hid Y H') xs ds := fun x => by
    cases x with
    | lst ha hl => exact ⟨_, SqL.of (hid_all _ _ ha), hl⟩
  obtain ⟨xs, ha, hl⟩ := at_ d1
  refine ⟨a, rfl, ⟨xs, ha⟩, fun p np => ⟨fun i m H' => m = ds.length - i ∧ i ≤ ds.length ∧ Ct W K Z H1 p (Inv i) H', ⟨ds.length, by simp, Nat.zero_le _, Wd.new k1.inv np, Gr.new np, [], [], upd_same, .nil, h0⟩, ?_⟩⟩
  rintro i m H' ⟨rfl, hi, c⟩
  have npS : p ∉ W.S := fun z => W.al k1.inv p z np
  have ko := c.ok k1 np
  have dl : Dd K (hid (p :: Z) H') (.ref a) (.list ds) := (d1.mono (hid_more np)).mono (hid_same fun b o n e => c.g b o (fun z => n (ko.sub b z)) e)
  obtain ⟨xs', ha', hl'⟩ := at_ dl
  by_cases hlt : i < ds.length
  · obtain ⟨x, hx1, hx2⟩ := hl'.get (List.getElem?_eq_getElem hlt)
    refine .inr ⟨⟨xs', x, ha', hx1⟩, Ct W K Z H1 p (Inv (i + 1)), fun H2 c2 => ⟨ds.length - (i + 1), by omega, rfl, hlt, c2⟩, fun y H2 hy => ?_⟩
    obtain ⟨rfl, hy⟩ := hy
    obtain rfl : y = x := Option.some.inj ((hy xs' ha').symm.trans hx1)
    obtain ⟨ys, rs, e, hdl, hI⟩ := c.at_
    obtain ⟨δ2, hB, hsp, hE⟩ := hs p i _ rs (List.getElem?_eq_getElem hlt) hI
    refine hb W (p :: Z) H2 σ (wipeD δ vs) δ2 _ _ (ko.wipe vs) hx2 hB _ fun σ2 k2 ew => ⟨ew, ?_⟩
    refine iteT (B := Ct W K Z H1 p (Inv (i + 1)) H2) (hE σ2 H2 k2 _ fun u H3 d3 hd3 g3 i3 dd3 => ?_)
    obtain ⟨ds1, rfl, Inv1, h10, hs1, hd1⟩ := hd3
    obtain ⟨a1, rfl⟩ : ∃ a, u = .ref a := by cases dd3; exact ⟨_, rfl⟩
    have at1 : ∀ {Y : List Addr} {H' : Hp}, Dd K (hid Y H') (.ref a1) (.tuple ds1) → ∃ xs, SqT K H' a1 xs ∧ DdL K (hid Y H') xs ds1 := fun x => by
      cases x with
      | tup ha hl => exact ⟨_, Same.seqT hid_all ha, hl⟩
    obtain ⟨zs, hz, hzl⟩ := at1 dd3
    have e3 : H3 p = some (.lst ys) := g3 p _ npS e
    have sm3 : ∀ {Hb : Hp}, Gr (p :: W.S) H3 Hb → Same (hid (p :: Z) H3) (hid (p :: Z) Hb) := fun g => hid_same fun b o n e => g b o (fun z => n (by
      rcases List.mem_cons.mp z with rfl | z
      · exact List.mem_cons_self ..
      · exact ko.sub b z)) e
    have k3 := (k2.gr g3 i3).wipe vs1
    refine ⟨a1, rfl, ⟨zs, hz⟩, fun j k' H' => k' = ds1.length - j ∧ j ≤ ds1.length ∧ Gr (p :: W.S) H3 H' ∧ Ct W K Z H1 p (Inv1 j) H', ⟨ds1.length, by simp, Nat.zero_le _, Gr.refl _ _, i3, c.g.trans g3, ys, rs, e3, hdl.mono (hid_same fun b o n e => g3 b o (fun z => n (ko.sub b z)) e), h10⟩, ?_⟩
    rintro j k' H4 ⟨rfl, hj, g4, c4⟩
    obtain ⟨ys4, rs4, e4, hd4, hI4⟩ := c4.at_
    obtain ⟨zs4, hz4, hzl4⟩ := at1 (dd3.mono (sm3 g4))
    by_cases hlt1 : j < ds1.length
    · obtain ⟨x1, hx11, hx12⟩ := hzl4.get (List.getElem?_eq_getElem hlt1)
      refine .inr ⟨⟨zs4, x1, hz4, hx11⟩, fun H' => Gr (p :: W.S) H3 H' ∧ Ct W K Z H1 p (Inv1 (j + 1)) H', fun H5 c5 => ⟨ds1.length - (j + 1), by omega, rfl, hlt1, c5⟩, fun y1 H5 hy1 => ?_⟩
      obtain ⟨rfl, hy1⟩ := hy1
      obtain rfl : y1 = x1 := Option.some.inj ((hy1 zs4 hz4).symm.trans hx11)
      obtain ⟨hlen, δ3, hB1, hE1⟩ := hs1 j _ rs4 (List.getElem?_eq_getElem hlt1) hI4
      have k4 : Ok W K (p :: Z) H5 (wipe σ2 vs1) (wipeD δ2 vs1) := k3.grp g4 c4.inv (by rw [e4]; simp) hsp
      refine hb1 W (p :: Z) H5 σ2 (wipeD δ2 vs1) δ3 _ _ k4 hx12 hB1 _ fun σ3 k5 ew3 => ⟨ew3, ?_⟩
      refine iteT (B := Gr (p :: W.S) H3 H5 ∧ Ct W K Z H1 p (Inv1 (j + 1)) H5) (hE1 σ3 H5 k5 _ fun u7 H7 d7 hd7 g7 i7 dd7 => ?_)
      have e7 := g7 p _ npS e4
      refine ⟨ys4, e7, small1000 (by rw [hd4.len]; omega), (g4.trans g7.up).at, Wd.put i7 npS, (c4.g.trans g7).write np, ys4 ++ [u7], rs4 ++ [d7], upd_same, ?_, hd7⟩
      rw [hid_upd (List.mem_cons_self ..)]
      exact (hd4.mono (hid_same fun b o n e => g7 b o (fun z => n (ko.sub b z)) e)).append (.one dd7)
    · have ej : j = ds1.length := by omega
      subst ej
      exact .inl ⟨⟨zs4, hz4, by rw [hzl4.len]; exact Nat.le_refl _⟩, c4.inv, c4.g, ys4, rs4, e4, hd4, hd1 rs4 hI4⟩
  · have e : i = ds.length := by omega
    subst e
    obtain ⟨ys, rs, e, hdl, hI⟩ := c.at_
    exact .inl ⟨⟨xs', ha', by rw [hl'.len]; exact Nat.le_refl _⟩, q p ys H' rs (hd rs hI) (Gr.back g1' i1 np) (g1'.trans c.g) c.inv e hdl⟩
end
/-! ### in a tuple of words; a structure of one's own in a display -/
section
variable {X : Cx} {K : PySem.W.Frag}
theorem inK (h : X.K = K) : OpR X (compareOp .In) (rIn K false) := h ▸ op_in_seq
end
section
variable {W : Wd} {K : PySem.W.Frag} {Z Zb : List Addr} {δ : List Sl} {b : Bool} {H H' : Hp} {ta tb : TE} {F : D → Prop} {G : Bool → Prop} {FL : List D → List Addr → Prop}
theorem strs_of {vs : List V} {ns : List Str} (h : DdL K H vs (ns.map .str)) : vs = ns.map V.str := by
  induction ns generalizing vs with
  | nil => cases h; rfl
  | cons n r ih =>
    cases h with
    | cons e t =>
      cases e
      rw [ih t]
      rfl
theorem flat_strs : ∀ ns : List Str, (ns.map V.str).all flatV = true
  | [] => rfl
  | n :: r => by
    rw [List.map_cons, List.all_cons, flat_strs r]
    rfl
theorem wt_inS (h : EvG W K Z δ false ta fun x => EvG W K Z δ false tb fun y => ∃ (z : Str) (zs : List Str), x = .str z ∧ y = .tuple (zs.map .str) ∧ G (zs.any (· == z))) : EvB W K Z δ (tTest (tOp (rIn K false) ta tb)) G := fun σ H k Q q => h σ H k _ fun v H1 x hx g1 i1 d1 => hx σ H1 (k.gr g1 i1) _ fun w H2 y hy g2 i2 d2 => by
  obtain ⟨z, zs, rfl, rfl, f⟩ := hy
  cases d1
  cases d2 with
  | @tup a vs _ ha hva =>
    obtain rfl := strs_of hva
    refine ⟨a, _, rfl, .inr (Same.seqT hid_all ha), rfl, flat_strs zs, _, rfl, ?_⟩
    refine q _ H2 ?_ (g1.trans g2) i2
    show G (inV (.str z) (zs.map V.str))
    unfold inV
    rw [List.any_map]
    exact f
theorem wwl_str {i : Nat} {L : List Addr} {d : D} (h0 : δ[i]? = some (.str L d)) (hp : ∀ a ∈ L, a ∈ Zb) (f : FL [d] L) : EvWL W K Z δ Zb (tCons (tVar i) tNil) FL := fun σ H k Q q => by
  obtain ⟨o, e, v, rfl, m, nd, nw⟩ := k.sto.get h0
  refine ⟨v, e, q _ H _ L L f (Gr.refl _ _) k.inv (.one (nw.mono (hid_sub fun a z => ?_) fun _ _ => rfl)) nd (fun a m => .inr m) fun a ha => ⟨hp a ha, (m a ha).2, fun z => ?_⟩⟩
  · rcases List.mem_append.mp z with z | z
    · exact (m a z).1
    · exact z
  · obtain ⟨xs, hx⟩ := nw.alive a ha
    rw [hx] at z
    cases z
end
end Kw

set_option Elab.async false
set_option linter.all false
set_option maxRecDepth 100000
namespace Kw
open PySem PySem.Spec PyProof.Rows L2
/-! ### runs, by types -/
def worksOf (h : Hs) (es : List Ev) : List Wk := es.foldl (moved h) []
theorem RunOf.eq {h : Hs} {es : List Ev} {ws : List Wk} (r : RunOf h es ws) : ws = worksOf h es := by
  induction r with
  | nil => rfl
  | snoc _ _ ih =>
    unfold worksOf at ih ⊢
    rw [List.foldl_append, ← ih]
    rfl
theorem take_snoc {α : Type} {es : List α} {i : Nat} {e : α} (h : es[i]? = some e) : es.take (i + 1) = es.take i ++ [e] := by
  rw [List.take_succ, h]
  rfl
theorem works_snoc (h : Hs) {es : List Ev} {i : Nat} {e : Ev} (he : es[i]? = some e) : worksOf h (es.take (i + 1)) = moved h (worksOf h (es.take i)) e := by
  unfold worksOf
  rw [take_snoc he, List.foldl_append]
  rfl
theorem RunOf.take {h : Hs} {es : List Ev} {ws : List Wk} (r : RunOf h es ws) : ∀ i, RunOf h (es.take i) (worksOf h (es.take i)) := by
  induction r with
  | nil =>
    intro i
    rw [List.take_nil]
    exact .nil
  | @snoc es ws e r c ih =>
    intro i
    by_cases hi : i ≤ es.length
    · rw [List.take_append_of_le_length hi]
      exact ih i
    · have q : (es ++ [e]).take i = es ++ [e] := List.take_of_length_le (by simp; omega)
      rw [q, ← (RunOf.snoc r c).eq]
      exact .snoc r c
theorem RunOf.can_at {h : Hs} {es : List Ev} {ws : List Wk} (r : RunOf h es ws) : ∀ {i e}, es[i]? = some e → can h (worksOf h (es.take i)) e := by
  induction r with
  | nil =>
    intro i e he
    simp at he
  | @snoc es ws e0 r c ih =>
    intro i e he
    by_cases hi : i < es.length
    · rw [List.getElem?_append_left hi] at he
      rw [List.take_append_of_le_length (Nat.le_of_lt hi)]
      exact ih he
    · have hl : i < (es ++ [e0]).length := (List.getElem?_eq_some_iff.mp he).1
      rw [List.length_append] at hl
      simp at hl
      have : i = es.length := by omega
      subst this
      rw [List.getElem?_append_right (Nat.le_refl _)] at he
      simp at he
      subst he
      rw [List.take_append_of_le_length (Nat.le_refl _), List.take_length, ← r.eq]
      exact c
theorem can_kd {h : Hs} {k s : Nat} {st : Stp} (e : (stepsOf h k)[s]? = some st) : ∃ kd, h.kinds[k]? = some kd ∧ kd.steps[s]? = some st := by
  unfold stepsOf at e
  cases hk : h.kinds[k]? with
  | none =>
    rw [hk] at e
    simp at e
  | some kd =>
    rw [hk] at e
    exact ⟨kd, rfl, e⟩
/-! ### deeds done -/
def kindsOf (es : List Ev) : List Nat := es.filterMap fun
  | .begin k => some k
  | .go _ _ => none
def goesOf (es : List Ev) : List (Nat × Nat) := es.filterMap fun
  | .begin _ => none
  | .go w s => some (w, s)
def deedsAt (h : Hs) (k s : Nat) : List Deed := (((stepsOf h k)[s]?).map Stp.deeds).getD []
def deedsBy (h : Hs) (ks : List Nat) (x : Nat × Nat) : List (Nat × Deed) := (deedsAt h (ks.getD x.1 0) x.2).map fun d => (x.1, d)
def doneOf (h : Hs) (es : List Ev) : List (Nat × Deed) := (goesOf es).flatMap (deedsBy h (kindsOf es))
def dnD (x : Nat × Deed) : D := .tuple [.int x.1, x.2.d]
theorem moved_fst (h : Hs) (ws : List Wk) (e : Ev) (c : can h ws e) : (moved h ws e).map Prod.fst = match e with
    | .begin k => ws.map Prod.fst ++ [k]
    | .go _ _ => ws.map Prod.fst := by
  cases e with
  | begin k => simp [moved]
  | go w s =>
    obtain ⟨x, st, h1, _⟩ := c
    have e : ws.getD w (0, 0) = x := by rw [List.getD_eq_getElem?_getD, h1]; rfl
    show (ws.set w ((ws.getD w (0, 0)).1, _)).map Prod.fst = ws.map Prod.fst
    rw [e, List.map_set]
    apply List.ext_getElem?
    intro j
    by_cases hj : w = j
    · subst hj
      rw [List.getElem?_set_self (by rw [List.length_map]; exact (List.getElem?_eq_some_iff.mp h1).1), List.getElem?_map, h1]
      rfl
    · rw [List.getElem?_set_ne hj]
theorem RunOf.kinds {h : Hs} {es : List Ev} {ws : List Wk} (r : RunOf h es ws) : ws.map Prod.fst = kindsOf es := by
  induction r with
  | nil => rfl
  | @snoc es ws e r c ih =>
    rw [moved_fst h ws e c, ih]
    unfold kindsOf
    rw [List.filterMap_append]
    cases e with
    | begin k => rfl
    | go w s => simp
theorem RunOf.goes {h : Hs} {es : List Ev} {ws : List Wk} (r : RunOf h es ws) : ∀ x ∈ goesOf es, ∃ k kd st, (kindsOf es)[x.1]? = some k ∧ h.kinds[k]? = some kd ∧ kd.steps[x.2]? = some st := by
  induction r with
  | nil =>
    intro x hx
    simp [goesOf] at hx
  | @snoc es ws e r c ih =>
    intro x hx
    have up : ∀ {k}, (kindsOf es)[x.1]? = some k → (kindsOf (es ++ [e]))[x.1]? = some k := fun {k} hk => by
      unfold kindsOf at hk ⊢
      rw [List.filterMap_append, List.getElem?_append_left (List.getElem?_eq_some_iff.mp hk).1]
      exact hk
    unfold goesOf at hx
    rw [List.filterMap_append, List.mem_append] at hx
    rcases hx with hx | hx
    · obtain ⟨k, kd, st, h1, h2, h3⟩ := ih x hx
      exact ⟨k, kd, st, up h1, h2, h3⟩
    · cases e with
      | begin k => simp at hx
      | go w s =>
        simp at hx
        subst hx
        obtain ⟨y, st, h1, h2, h3⟩ := c
        obtain ⟨kd, h4, h5⟩ := can_kd h2
        refine ⟨y.1, kd, st, up ?_, h4, h5⟩
        rw [← r.kinds, List.getElem?_map, h1]
        rfl
theorem deedsAt_eq {h : Hs} {k s : Nat} {kd : Knd} {st : Stp} (h1 : h.kinds[k]? = some kd) (h2 : kd.steps[s]? = some st) : deedsAt h k s = st.deeds := by
  unfold deedsAt stepsOf
  rw [h1]
  show ((kd.steps[s]?).map Stp.deeds).getD [] = _
  rw [h2]
  rfl
/-! ### the parts of the state -/
def stepC (cs : List Int) : Deed → List Int
  | .add c n => cs.set c (cs.getD c 0 + n)
  | _ => cs
def stepF (fs : List Bool) : Deed → List Bool
  | .flag c b => fs.set c b
  | _ => fs
def stepS (ss : List (Option Nat)) (w : Nat) : Deed → List (Option Nat)
  | .take c => ss.set c (some w)
  | .drop c => if ss.getD c none = some w then ss.set c none else ss
  | _ => ss
def stepN (number : Nat) (ins : List Bool) (w : Nat) : Deed → List Bool
  | .enter c => if c = number then ins.set w true else ins
  | .leave c => if c = number then ins.set w false else ins
  | _ => ins
def cntOf (n : Nat) (dn : List (Nat × Deed)) : List Int := dn.foldl (fun cs x => stepC cs x.2) (List.replicate n 0)
def flgOf (n : Nat) (dn : List (Nat × Deed)) : List Bool := dn.foldl (fun fs x => stepF fs x.2) (List.replicate n false)
def sltOf (n : Nat) (dn : List (Nat × Deed)) : List (Option Nat) := dn.foldl (fun ss x => stepS ss x.1 x.2) (List.replicate n none)
def insOf (number many : Nat) (dn : List (Nat × Deed)) : List Bool := dn.foldl (fun is x => stepN number is x.1 x.2) (List.replicate many false)
def namOf (number many : Nat) (dn : List (Nat × Deed)) : List Nat := (List.range many).filter fun w => (insOf number many dn).getD w false
def optD : Option Nat → D
  | none => .none
  | some w => .int w
def stateD (h : Hs) (es : List Ev) : D := .tuple [.list ((cntOf h.t.cs (doneOf h es)).map .int), .list ((flgOf h.t.fs (doneOf h es)).map .bool), .list ((sltOf h.t.ss (doneOf h es)).map optD),
  .list ((List.range h.t.rs).map fun k => .list ((namOf k (worksOf h es).length (doneOf h es)).map fun (n : Nat) => PyData.int (n : Int))), .list ((worksOf h es).map wkD)]
theorem fold_snoc {α β : Type} {g : β → α → β} {z : β} {xs : List α} {i : Nat} {x : α} (h : xs[i]? = some x) : (xs.take (i + 1)).foldl g z = g ((xs.take i).foldl g z) x := by
  rw [take_snoc h, List.foldl_append]
  rfl
theorem fold_all {α β : Type} {g : β → α → β} {z : β} {xs : List α} : (xs.take xs.length).foldl g z = xs.foldl g z := by
  rw [List.take_length]
theorem stepC_len (cs : List Int) (d : Deed) : (stepC cs d).length = cs.length := by cases d <;> simp [stepC]
theorem stepF_len (cs : List Bool) (d : Deed) : (stepF cs d).length = cs.length := by cases d <;> simp [stepF]
theorem stepS_len (cs : List (Option Nat)) (w : Nat) (d : Deed) : (stepS cs w d).length = cs.length := by
  cases d <;> simp [stepS]
  split <;> simp
theorem stepN_len (n : Nat) (cs : List Bool) (w : Nat) (d : Deed) : (stepN n cs w d).length = cs.length := by
  cases d <;> simp [stepN]
  all_goals split <;> simp
theorem fold_len {α β : Type} {g : List β → α → List β} (hg : ∀ c x, (g c x).length = c.length) : ∀ (xs : List α) (z : List β), (xs.foldl g z).length = z.length
  | [], _ => rfl
  | x :: xs, z => (fold_len hg xs (g z x)).trans (hg z x)
theorem flat_ints (xs : List Int) : ∀ d ∈ xs.map PyData.int, Flat d := fun d m => by
  obtain ⟨x, _, rfl⟩ := List.mem_map.mp m
  exact .int x
theorem flat_nats (xs : List Nat) : ∀ d ∈ (xs.map fun (n : Nat) => PyData.int (n : Int)), Flat d := fun d m => by
  obtain ⟨x, _, rfl⟩ := List.mem_map.mp m
  exact .int _
theorem flat_bls (xs : List Bool) : ∀ d ∈ xs.map PyData.bool, Flat d := fun d m => by
  obtain ⟨x, _, rfl⟩ := List.mem_map.mp m
  exact .bl x
theorem flat_opts (xs : List (Option Nat)) : ∀ d ∈ xs.map optD, Flat d := fun d m => by
  obtain ⟨x, _, rfl⟩ := List.mem_map.mp m
  cases x with
  | none => exact .non
  | some w => exact .int _
theorem flat_wks (xs : List Wk) : ∀ d ∈ xs.map wkD, Flat d := fun d m => by
  obtain ⟨x, _, rfl⟩ := List.mem_map.mp m
  refine .tup fun y hy => ?_
  simp at hy
  rcases hy with rfl | rfl
  · exact .int _
  · exact .int _
end Kw

set_option Elab.async false
set_option linter.all false
set_option maxRecDepth 100000
namespace Kw
open PySem PySem.Spec PyProof.Rows L2
/-! ### either way of going over a value -/
def iOr (a b : TI) : TI := fun σ H R => a σ H R ∨ b σ H R
theorem pi_or {X : Cx} {tg e : Expr} {a b : TI} (h : PI X tg e a) (g : PI X tg e b) : PI X tg e (iOr a b) := ⟨fun pins s σ H R I q => q.elim (h.run pins s σ H R I) (g.run pins s σ H R I)⟩
section
variable {f : Fx} {Z : List Addr} {δ : List Sl} {E : EndsD} {t : TS} {a b : TI} {g : TG}
theorem s_orL (h : SE f (tFor a g t) Z δ E) : SE f (tFor (iOr a b) g t) Z δ E := fun σ H T s im => .inl (h σ H T s im)
theorem s_orR (h : SE f (tFor b g t) Z δ E) : SE f (tFor (iOr a b) g t) Z δ E := fun σ H T s im => .inr (h σ H T s im)
end
/-! ### a comprehension within one: its free name is a cell there -/
def scD (sc : Scope) (z : Str) : Scope := { sc with names := [(z, .cell)] }
theorem blkOk_sc1 {N : List Str} {sc0 sc scope : Scope} {own : List (Str × Nat)} (z : Str) (h : blkC N (scD sc0 z) scope own = true) (hz : sc.names.lookup z = some .cell) : BlkOk N sc scope own := by
  have b := blkOk_by h
  refine ⟨b.kind, b.uniq, b.ix, fun y hy e => ?_, b.own⟩
  have key : y.1 = z := by
    rcases b.free y hy e with q | q
    · by_cases hq : y.1 = z
      · exact hq
      · have : (scD sc0 z).names.lookup y.1 = none := by
          show ([(z, NameKind.cell)] : List (Str × NameKind)).lookup y.1 = none
          simp only [List.lookup, beq_false_of_ne hq]
        rw [this] at q
        cases q
    · by_cases hq : y.1 = z
      · exact hq
      · have : (scD sc0 z).names.lookup y.1 = none := by
          show ([(z, NameKind.cell)] : List (Str × NameKind)).lookup y.1 = none
          simp only [List.lookup, beq_false_of_ne hq]
        rw [this] at q
        cases q
  rw [key]
  exact .inl hz
/-! ### a comprehension over a list of one's own -/
section
variable {W : Wd} {K : PySem.W.Frag} {Z : List Addr} {δ : List Sl} {b : Bool} {H H1 H' : Hp} {σ : Sg} {te : TE} {tt : TT} {F : D → Prop} {FL : List D → Prop}
theorem wn_lcO {i0 : Nat} {p0 : Addr} {ds : List D} {vs : List Nat} {g : TG} {B : D → List Sl → List Sl → Prop} (hb : BndW K g vs B) (hd0 : δ[i0]? = some (.own p0 ds)) (hl0 : ds.length ≤ 1000) (h : ∃ Inv : Nat → List D → Prop, Inv 0 [] ∧
      (∀ (p : Addr) (i : Nat) (x : D) rs, ds[i]? = some x → Inv i rs → ∃ δ2, B x (wipeD δ vs) δ2 ∧ EvB W K (p :: Z) δ2 tt fun c => (c = true → EvG W K (p :: Z) δ2 true te fun d => Inv (i + 1) (rs ++ [d])) ∧ (c = false → Inv (i + 1) rs)) ∧ ∀ rs, Inv ds.length rs → FL rs) :
    EvN W K Z δ (tLc (iList K (tVar i0)) g tt te vs) FL := fun σ H k Q q => by
  obtain ⟨Inv, h0, hs, hd⟩ := h
  obtain ⟨o, e, rfl, m, n, xs, hp, hl⟩ := k.sto.get hd0
  refine ⟨.ref p0, e, p0, rfl, ⟨xs, SqL.of hp⟩, fun p np => lc_list (xs := xs) (Cs W K Z H p Inv) (Cs.start k np h0) (fun i H' _ c => SqL.of (c.g p0 _ n hp)) (fun i x H' hx c => ?_) (fun H' c => ?_)⟩
  · have hi : i < ds.length := by rw [← hl.len]; exact (List.getElem?_eq_some_iff.mp hx).1
    obtain ⟨v, hv, hvd⟩ := hl.get (List.getElem?_eq_getElem hi)
    obtain rfl : x = v := Option.some.inj (hx.symm.trans hv)
    have ko := c.ok k np
    exact c.turn k np hi hl0 hb ((hvd.mono (hid_more np)).mono (hid_same fun b o nb e => c.g b o (fun z => nb (ko.sub b z)) e)) (fun rs hI => hs p i _ rs (List.getElem?_eq_getElem hi) hI) fun _ x => x
  · rw [hl.len] at c
    exact c.fin (Gr.refl _ _) np hd q
end
/-! ### a tuple of what one has, as data: Y is hidden -/
section
variable (W : Wd) (K : PySem.W.Frag) (Z : List Addr) (δ : List Sl) (Y : List Addr)
def EvY (te : TE) (F : D → Prop) : Prop := ∀ (σ : Sg) (H : Hp), Ok W K Z H σ δ → ∀ Q : VK, (∀ v H' d, F d → Gr W.S H H' → W.I H' → Dd K (hid Y H') v d → Q v H') → te σ H Q
def EvYL (ta : TA) (F : List D → Prop) : Prop := ∀ (σ : Sg) (H : Hp), Ok W K Z H σ δ → ∀ Q : List V → Hp → Prop, (∀ vs H' ds, F ds → Gr W.S H H' → W.I H' → DdL K (hid Y H') vs ds → Q vs H') → ta σ H Q
end
section
variable {W : Wd} {K : PySem.W.Frag} {Z Y : List Addr} {δ : List Sl} {te : TE} {tr : TA} {F : D → Prop} {FL : List D → Prop}
theorem wy_var (hY : ∀ a ∈ Y, a ∈ Z) {i : Nat} {d : D} (h : δ[i]? = some (.dat d)) (f : F d) : EvY W K Z δ Y (tVar i) F := fun σ H k Q q => by
  obtain ⟨o, e, v, rfl, hd⟩ := k.sto.get h
  exact ⟨v, e, q v H d f (Gr.refl _ _) k.inv (hd.mono (hid_sub hY))⟩
theorem wy_own (hY : ∀ a ∈ Y, a ∈ Z) {i : Nat} {p : Addr} {ds : List D} (h : δ[i]? = some (.own p ds)) (hp : p ∉ Y) (f : F (.list ds)) : EvY W K Z δ Y (tVar i) F := fun σ H k Q q => by
  obtain ⟨o, e, rfl, m, n, xs, hx, hd⟩ := k.sto.get h
  refine ⟨.ref p, e, q _ H _ f (Gr.refl _ _) k.inv (.lst ?_ (hd.mono (hid_sub hY)))⟩
  rw [hid_out hp]
  exact hx
theorem wyl_nil (f : FL []) : EvYL W K Z δ Y tNil FL := fun σ H k Q q => q [] H [] f (Gr.refl _ _) k.inv .nil
theorem wyl_cons (hS : ∀ a ∈ W.S, a ∈ Y) (h : EvY W K Z δ Y te fun d => EvYL W K Z δ Y tr fun r => FL (d :: r)) : EvYL W K Z δ Y (tCons te tr) FL := fun σ H k Q q => h σ H k _ fun v H1 d hd g1 i1 d1 => hd σ H1 (k.gr g1 i1) _ fun vs H2 ds hs g2 i2 d2 =>
  q _ _ _ hs (g1.trans g2) i2 (.cons (d1.mono (hid_same fun a o n e => g2 a o (fun z => n (hS a z)) e)) d2)
theorem s_retYT {f : Fx} {Z : List Addr} {δ : List Sl} {E : EndsD} {tr : TA} (h : EvYL f.W f.K Z δ f.Z0 tr fun l => l.length ≤ 1000 ∧ E.rt (.tuple l)) : SE f (tRet (tTup tr)) Z δ E := fun σ H T s im => h σ H s.ok _ fun vs H1 ds ff g1 i1 d1 => by
  refine ⟨by rw [d1.len]; exact Nat.le_of_lt (small1000 ff.1), fun p np => ?_⟩
  have gn : Gr f.W.S H1 (upd H1 p (.tup vs)) := Gr.new np
  refine im.rt _ _ _ ff.2 ((s.g.trans g1).trans gn) (Wd.new i1 np) (.tup (SqT.of ?_) (d1.mono ?_))
  · rw [hid_out fun z => al_gr s.ok.al g1 i1 p (s.z p z) np]
    exact upd_same
  · exact hid_same fun a o n e => (Gr.new (S := []) np) a o (by simp) e
end
section
variable {W : Wd} {K : PySem.W.Frag} {Z : List Addr} {δ : List Sl} {ta tb : TE} {G : Bool → Prop}
theorem wt_neII (h : EvG W K Z δ false ta fun x => EvG W K Z δ false tb fun y => ∃ i j, x = .int i ∧ y = .int j ∧ G (!decide (i = j))) : EvB W K Z δ (tTest (tOp (rNeD K) ta tb)) G :=
  wt_test (wp_ne (wp_imp h fun x hx => wp_imp hx fun y hy => by
    obtain ⟨i, j, rfl, rfl, f⟩ := hy
    exact ⟨sh_int i, sh_int j, _, rfl, by rw [ev_int]; exact f⟩))
theorem flat_intV : ∀ ns : List Int, (ns.map V.int).all flatV = true
  | [] => rfl
  | n :: r => by
    rw [List.map_cons, List.all_cons, flat_intV r]
    rfl
theorem wt_inI (h : EvG W K Z δ false ta fun x => EvG W K Z δ false tb fun y => ∃ (z : Int) (zs : List Int), x = .int z ∧ y = .list (zs.map .int) ∧ G (zs.any (· == z))) : EvB W K Z δ (tTest (tOp (rIn K false) ta tb)) G := fun σ H k Q q => h σ H k _ fun v H1 x hx g1 i1 d1 => hx σ H1 (k.gr g1 i1) _ fun w H2 y hy g2 i2 d2 => by
  obtain ⟨z, zs, rfl, rfl, f⟩ := hy
  cases d1
  cases d2 with
  | @lst a vs _ ha hva =>
    obtain rfl := ints_of hva
    refine ⟨a, _, rfl, .inl (SqL.of (hid_all _ _ ha)), rfl, flat_intV zs, _, rfl, ?_⟩
    refine q _ H2 ?_ (g1.trans g2) i2
    show G (inV (.int z) (zs.map V.int))
    unfold inV
    rw [List.any_map]
    exact f
end
/-! ### the rooms of the law: in any sequence -/
structure RmOk (nr N : Nat) (dn : List (Nat × Deed)) (rm : List (List Nat)) : Prop where
  len : rm.length = nr
  mem : ∀ k w, k < nr → w < N → (w ∈ rm.getD k [] ↔ (insOf k N dn).getD w false = true)
  few : ∀ l ∈ rm, l.length ≤ dn.length
theorem ins_snoc (k N : Nat) (dn : List (Nat × Deed)) (x : Nat × Deed) : insOf k N (dn ++ [x]) = stepN k (insOf k N dn) x.1 x.2 := by
  unfold insOf
  rw [List.foldl_append]
  rfl
theorem insL (m n : Nat) (dn : List (Nat × Deed)) : (insOf m n dn).length = n := (fold_len (g := fun (cs : List Bool) (x : Nat × Deed) => stepN m cs x.1 x.2) (fun c x => stepN_len m c x.1 x.2) dn _).trans (List.length_replicate ..)
theorem RmOk.start (nr N : Nat) : RmOk nr N [] (List.replicate nr []) := by
  refine ⟨List.length_replicate .., fun k w hk hw => ?_, fun l hl => ?_⟩
  · rw [List.getD_eq_getElem?_getD, List.getElem?_replicate, if_pos hk, List.getD_eq_getElem?_getD]
    show w ∈ [] ↔ ((List.replicate N false)[w]?).getD false = true
    rw [List.getElem?_replicate, if_pos hw]
    simp
  · rw [(List.mem_replicate.mp hl).2]
    exact Nat.zero_le _
theorem RmOk.same {nr N : Nat} {dn : List (Nat × Deed)} {rm : List (List Nat)} (r : RmOk nr N dn rm) (x : Nat × Deed) (h : ∀ k is, stepN k is x.1 x.2 = is) : RmOk nr N (dn ++ [x]) rm := by
  refine ⟨r.len, fun k w hk hw => ?_, fun l hl => ?_⟩
  · rw [ins_snoc, h]
    exact r.mem k w hk hw
  · rw [List.length_append]
    exact Nat.le_add_right_of_le (r.few l hl)
theorem getD_set {α : Type} (l : List α) (i j : Nat) (x z : α) (h : i < l.length) : (l.set i x).getD j z = if j = i then x else l.getD j z := by
  rw [List.getD_eq_getElem?_getD, List.getD_eq_getElem?_getD]
  by_cases e : j = i
  · subst e
    rw [List.getElem?_set_self h, if_pos rfl]
    rfl
  · rw [List.getElem?_set_ne (Ne.symm e), if_neg e]
theorem RmOk.put {nr N c v : Nat} {b : Bool} {dn : List (Nat × Deed)} {rm : List (List Nat)} (r : RmOk nr N dn rm) (dd : Deed) (hc : c < nr) (hv : v < N) (h : ∀ k is, stepN k is v dd = if c = k then is.set v b else is) :
    RmOk nr N (dn ++ [(v, dd)]) (rm.set c ((rm.getD c []).filter (fun o => !decide (o = v)) ++ if b then [v] else [])) := by
  refine ⟨by rw [List.length_set, r.len], fun k w hk hw => ?_, fun l hl => ?_⟩
  · rw [ins_snoc, h, getD_set _ _ _ _ _ (by rw [r.len]; exact hc)]
    by_cases e : k = c
    · subst e
      rw [if_pos rfl, if_pos rfl, getD_set _ _ _ _ _ (by rw [insL]; exact hv), List.mem_append, List.mem_filter, r.mem k w hk hw]
      by_cases ew : w = v
      · rw [if_pos ew]
        cases b <;> simp [ew]
      · rw [if_neg ew]
        cases b <;> simp [ew]
    · rw [if_neg e, if_neg (Ne.symm e)]
      exact r.mem k w hk hw
  · rcases List.mem_or_eq_of_mem_set hl with hl | rfl
    · rw [List.length_append]
      exact Nat.le_add_right_of_le (r.few l hl)
    · have h1 : ((rm.getD c []).filter (fun o => !decide (o = v))).length ≤ dn.length := Nat.le_trans (List.length_filter_le ..) (by
        have : rm[c]? = some (rm.getD c []) := by
          rw [List.getD_eq_getElem?_getD, List.getElem?_eq_getElem (by rw [r.len]; exact hc)]
          rfl
        exact r.few _ (List.mem_of_getElem? this))
      rw [List.length_append, List.length_append]
      cases b with
      | true =>
        show _ + 1 ≤ _ + 1
        omega
      | false =>
        show _ + 0 ≤ _ + 1
        omega
theorem any_nat (l : List Nat) (w : Nat) : (l.map fun (n : Nat) => (n : Int)).any (· == (w : Int)) = decide (w ∈ l) := by
  rw [Bool.eq_iff_iff, List.any_eq_true, decide_eq_true_iff]
  constructor
  · rintro ⟨x, hx, e⟩
    obtain ⟨y, hy, rfl⟩ := List.mem_map.mp hx
    have := eq_of_beq e
    have : y = w := by omega
    subst this
    exact hy
  · intro h
    exact ⟨w, List.mem_map.mpr ⟨w, h, rfl⟩, beq_self_eq_true _⟩
end Kw

set_option Elab.async false
set_option linter.all false
set_option maxRecDepth 100000
namespace Kw
open PySem PySem.Spec PyProof.Rows L2
section
variable {f : Fx} {Z : List Addr} {δ : List Sl} {E : EndsD} {t u : TS} {te ti : TE} {tt : TT} {ta tr : TA} {σ : Sg} {H H1 : Hp}
/-- for i, x in enumerate(a list that is data) -/
theorem s_forE {tg : TG} {B : D → List Sl → List Sl → Prop} (hb : Bnd f.K tg B) (h : EvL f.W f.K Z δ true ta fun l => ∃ ds, l = [.list ds] ∧ ∃ I : Nat → List Sl → Prop, I 0 δ ∧
      (∀ (i : Nat) x δ' v, ds[i]? = some x → I i δ' → ∃ δ2, B (.tuple [.int i, x]) δ' δ2 ∧ SE (f.with v (.list ds)) t Z δ2 { nx := fun Z' δ' => Z' = Z ∧ I (i + 1) δ', rt := E.rt, rw := E.rw, bk := E.nx, ct := fun Z' δ' => Z' = Z ∧ I (i + 1) δ' }) ∧ ∀ δ', I ds.length δ' → E.nx Z δ') :
    SE f (tFor (iEnum f.K ta) tg t) Z δ E := fun σ H T s im => h σ H s.ok _ fun vs H1 dl ff g1 i1 d1 => by
  obtain ⟨ds, rfl, I, h0, hs, hd⟩ := ff
  obtain ⟨v, rfl, dv⟩ : ∃ v, vs = [v] ∧ Dd f.K (hid Z H1) v (.list ds) := by
    cases d1 with
    | cons h t =>
      cases t
      exact ⟨_, rfl, h⟩
  have s1 := (s.gr g1 i1).with dv
  obtain ⟨a, rfl⟩ : ∃ a, v = .ref a := by cases dv; exact ⟨_, rfl⟩
  have at_ : ∀ {H' : Hp}, Dd f.K (hid Z H') (.ref a) (.list ds) → ∃ xs, SqL f.K H' a xs ∧ DdL f.K (hid Z H') xs ds := fun x => by
    cases x with
    | lst ha hl => exact ⟨_, SqL.of (hid_all _ _ ha), hl⟩
  obtain ⟨xs, ha, hl⟩ := at_ dv
  refine ⟨a, xs, rfl, ha, fun i m σ' H' => m = ds.length - i ∧ i ≤ ds.length ∧ ∃ δ', I i δ' ∧ St4 (f.with (.ref a) (.list ds)) Z δ' σ' H', ⟨ds.length, by simp, Nat.zero_le _, δ, h0, s1⟩, ?_⟩
  rintro i m σ' H' ⟨rfl, hi, δ', hI, s'⟩
  obtain ⟨ys, hy, hyl⟩ := at_ (s'.gh _ (List.mem_cons_self ..))
  have ln := hyl.len
  by_cases hlt : i < ds.length
  · obtain ⟨y, hy1, hy2⟩ := hyl.get (List.getElem?_eq_getElem hlt)
    refine .inr ⟨⟨ys, y, hy, hy1⟩, fun σ2 H2 => ∃ δ', I (i + 1) δ' ∧ St4 (f.with (.ref a) (.list ds)) Z δ' σ2 H2, fun σ2 H2 p => ⟨ds.length - (i + 1), by omega, rfl, hlt, p⟩, fun x H2 hx => ?_⟩
    obtain ⟨T1, y', rfl, nT, rfl, hx⟩ := hx
    obtain rfl : y' = y := Option.some.inj ((hx ys hy).symm.trans hy1)
    have gn : Gr f.W.S H' (upd H' T1 (.tup [.int (i : Nat), y'])) := Gr.new nT
    have in2 : f.W.I (upd H' T1 (.tup [.int (i : Nat), y'])) := Wd.new s'.ok.inv nT
    have s2 := s'.gr gn in2
    have sm : Same (hid Z H') (hid Z (upd H' T1 (.tup [.int (i : Nat), y']))) := hid_same fun b o nb e => gn b o (fun z => nb (s'.ok.sub b z)) e
    have dT : Dd f.K (hid Z (upd H' T1 (.tup [.int (i : Nat), y']))) (.ref T1) (.tuple [.int (i : Nat), ds[i]]) := .tup (SqT.of (by
      rw [hid_out fun z => s'.ok.al T1 z nT]
      exact upd_same)) (.cons (.int _) (.one (hy2.mono sm)))
    obtain ⟨δ2, hB, hse⟩ := hs i _ δ' (.ref a) (List.getElem?_eq_getElem hlt) hI
    refine hb f.W Z _ σ' δ' δ2 _ _ s2.ok dT hB _ fun σ3 k3 => hse σ3 _ _ ⟨s2.z, k3, s2.g, s2.gh⟩ ⟨?_, ?_, ?_, ?_, ?_⟩
    · rintro Z4 δ4 σ4 H4 ⟨rfl, e⟩ s4
      exact ⟨δ4, e, s4⟩
    · exact fun Z4 δ4 σ4 H4 e s4 => im.nx Z4 δ4 σ4 H4 e s4.wo
    · rintro Z4 δ4 σ4 H4 ⟨rfl, e⟩ s4
      exact ⟨δ4, e, s4⟩
    · exact im.rt
    · exact im.rw
  · have e : i = ds.length := by omega
    subst e
    exact .inl ⟨⟨ys, hy, by omega⟩, im.nx Z δ' σ' H' (hd δ' hI) s'.wo⟩
/-- a, b = a pair of a new list and a number -/
theorem nw_scl {K : PySem.W.Frag} {H B : Hp} {v : V} {d : D} {L : List Addr} (h : Nw K H B v d L) (s : scl d = true) : L = [] ∧ Dd K B v d := by
  cases h with
  | dat f h => exact ⟨rfl, h⟩
  | lst => cases s
  | tup => cases s
theorem nw_pair {K : PySem.W.Frag} {H B : Hp} {v : V} {ds : List D} {n : D} {L : List Addr} (h : Nw K H B v (.tuple [.list ds, n]) L) (s : scl n = true) : ∃ a x y, v = .ref a ∧ SqT K B a [x, y] ∧ Nw K H B x (.list ds) L ∧ Dd K B y n := by
  cases h with
  | dat f h =>
    cases f with
    | tup f => cases f _ (List.mem_cons_self ..)
  | tup ha hl =>
    cases hl with
    | cons h1 t =>
      cases t with
      | cons h2 t =>
        cases t
        obtain ⟨rfl, h3⟩ := nw_scl h2 s
        refine ⟨_, _, _, rfl, ha, ?_, h3⟩
        rw [List.append_nil, List.append_nil]
        exact h1
theorem s_bndW2 {i j : Nat} (h : EvW f.W f.K Z δ te fun d => ∃ ds n, d = .tuple [.list ds, n] ∧ scl n = true ∧ ∀ L, (∀ a ∈ L, f.H0 a = none) → (∀ a ∈ L, a ∉ Z) → E.nx (L ++ Z) ((δ.set i (.str L (.list ds))).set j (.dat n))) :
    SE f (tAsg te (gTup f.K 2 (gCons (gName i) (gCons (gName j) gNil)))) Z δ E := fun σ H T s im => h σ H s.ok _ fun v H1 d L ff g1 i1 n nd fr => by
  obtain ⟨ds, m, rfl, sm, ff⟩ := ff
  obtain ⟨a, x, y, rfl, ha, hx, hy⟩ := nw_pair n sm
  have aL : ∀ a ∈ L, H1 a ≠ none := fun a m z => by
    obtain ⟨xs, hx⟩ := n.alive a m
    rw [hx] at z
    cases z
  have ha' : SqT f.K H1 a [x, y] := Same.seqT hid_all ha
  have k1 : Ok f.W f.K (L ++ Z) H1 ((σ.set i (some x)).set j (some y)) ((δ.set i (.str L (.list ds))).set j (.dat m)) := Ok.setD (Ok.set (s.ok.mores fr g1 i1 aL) (o := some x) (x := .str L (.list ds)) i ⟨x, rfl, fun a m => ⟨List.mem_append_left _ m, fun z => f.W.al s.ok.inv a z (fr a m)⟩, nd, hx⟩) j hy
  have fin := im.nx (L ++ Z) _ _ H1 (ff L (fun a m => Gr.back s.g s.ok.inv (fr a m)) fun a m z => s.ok.al a z (fr a m)) ⟨fun a ha => List.mem_append_right _ (s.z a ha), k1, s.g.trans g1, fun x hx => ((s.gh x hx).mono (hid_mores fr)).mono (hid_same fun b u nb e => g1 b u (fun m => nb (List.mem_append_right _ (s.ok.sub b m))) e)⟩
  exact ⟨a, [x, y], rfl, ha', rfl, _, _, rfl, _, _, rfl, rfl, fin⟩
/-- return a pair of a list of one's own and a number -/
theorem wwl_ownc {W : Wd} {K : PySem.W.Frag} {Zb : List Addr} {FL : List D → List Addr → Prop} {i : Nat} {p : Addr} {ds : List D} (h0 : δ[i]? = some (.own p ds)) (hp : p ∈ Zb) (hf : ∀ d ∈ ds, Flat d) (h : EvG W K Z δ false te fun d => scl d = true ∧ FL [.list ds, d] [p]) : EvWL W K Z δ Zb (tCons (tVar i) (tCons te tNil)) FL := fun σ H k Q q => by
  obtain ⟨o, e, rfl, m, n, xs, hx, hd⟩ := k.sto.get h0
  refine ⟨.ref p, e, h σ H k _ fun v H1 d ff g1 i1 d1 => ?_⟩
  have hx1 := g1 p _ n hx
  have fl : Flat d := by
    obtain ⟨s, _⟩ := ff
    cases d with
    | none => exact .non
    | bool b => exact .bl b
    | int b => exact .int b
    | str b => exact .str b
    | _ => cases s
  refine q _ H1 _ [p] [p] ff.2 g1 i1 ?_ (by simp) (by simp) fun a z => ?_
  · refine NwL.cons (L := [p]) (M := []) (.lst hx1 (.of hf ((hd.mono (hid_sub fun a z => ?_)).mono (hid_same fun b u nb e => g1 b u (fun m => nb (List.mem_append_right _ (k.sub b m))) e)))) (NwL.cons (L := []) (M := []) (.dat fl (Dd.any ff.1 d1)) .nil)
    rcases List.mem_append.mp z with z | z
    · rw [List.mem_singleton.mp z]
      exact m
    · exact z
  · rw [List.mem_singleton.mp z]
    exact ⟨hp, n, by rw [hx1]; simp⟩
/-- return x if .. else None, with x a value of one's own -/
theorem s_retIfS {i : Nat} {L : List Addr} {d : D} (h0 : δ[i]? = some (.str L d)) (hH : ∀ a ∈ L, f.H0 a = none) (h : EvB f.W f.K Z δ tt fun c => (c = true → E.rw d) ∧ (c = false → EvG f.W f.K Z δ true te E.rt)) : SE f (tRet (tIf tt (tVar i) te)) Z δ E := fun σ H T s im => h σ H s.ok _ fun c H1 hc g1 i1 => by
  cases c with
  | true =>
    show tVar i σ H1 _
    have k1 := s.ok.gr g1 i1
    obtain ⟨o, e, v, rfl, m, n, hn⟩ := k1.sto.get h0
    refine ⟨v, e, im.rw v d H1 L (hc.1 rfl) (s.g.trans g1) i1 (hn.mono (hid_sub fun a z => ?_) fun _ _ => rfl) n hH⟩
    rcases List.mem_append.mp z with z | z
    · exact (m a z).1
    · exact s.z a z
  | false =>
    exact hc.2 rfl σ H1 (s.ok.gr g1 i1) _ fun v H2 d f2 g2 i2 d2 => im.rt v d H2 f2 (s.g.trans (g1.trans g2)) i2 (d2.mono (hid_sub s.z))
end
end Kw

set_option Elab.async false
set_option linter.all false
set_option maxRecDepth 100000
namespace Kw
open PySem PySem.Spec PyProof.Rows L2
/-! ### defs that run where no repr is under way -/
structure FnG (P : Program) (w : World) (K : PySem.W.Frag) (mg : Str → Option Value) (base : Heap) (CX : CXT) (k : Nat) (f : Addr) (fd : FuncData) (ps : List Str) (sp : Sp) : Prop where
  len : ∀ vs H Q E, sp vs H Q E → vs.length = ps.length
  run : ∀ (A : Around) (outer : List Env) (s : Shared) (H : Hp) (args : Args) (us : List Value) (vs : List V) (Q : VK) (E : XK), Room k A → A.guards = some [] → Env0 P w K mg base A outer s H → BindsTo s fd args (ps.zip us) → Vals vs us →
    sp vs H Q E → codeAny (model P w) A (.call (.ref f) args) (CR CX outer P w H s Q E) s
theorem FnG.of {P : Program} {w : World} {K : PySem.W.Frag} {mg : Str → Option Value} {base : Heap} {CX : CXT} {k : Nat} {f : Addr} {fd : FuncData} {ps : List Str} {sp : Sp} (F : FnOk P w K mg base CX k f fd ps sp) : FnG P w K mg base CX k f fd ps sp :=
  ⟨F.len, fun A outer s H args us vs Q E hr _ e0 hb r hs => F.run A outer s H args us vs Q E hr e0 hb r hs⟩
section
variable {P : Program} {w : World} {K : PySem.W.Frag} {mg : Str → Option Value} {base : Heap}
theorem funG {x qual : Str} {st : Stmt} {f : Addr} {fd : FuncData} {N ps : List Str} {k : Nat} {sp : Sp} (F : Fun K x qual st f fd) (S : FnScope N ps (defScope st)) (len : ∀ vs H Q E, sp vs H Q E → vs.length = ps.length)
    (body : ∀ (cdv : Value) (A : Around) (outer : List Env) (s : Shared) (H : Hp) (vs : List V) (Q : VK) (E : XK), Room k (A.deeper (envOfC qual (defScope st) s.heap.objs.size f cdv)) → A.guards = some [] → sp vs H Q E →
      ∃ t, PSs (cxOf CX0 P w K mg base N qual (defScope st) f cdv A outer s H E).nox (defBody st) t ∧ t { nx := fun _ H' => Q .non H', rt := Q } (start N vs) H) : FnG P w K mg base CX0 (k + 1) f fd ps sp := by
  obtain ⟨oc, od, kV, doc, pm, an, cdv, ct, osl, rfl, lk, hcd⟩ := F.ex
  constructor
  · exact len
  intro A outer s H args us vs Q E hr hgd e0 hb r hsp
  have ln := len _ _ _ _ hsp
  have inK : K.In s.heap := e0.mod.kin.keeps (fun b o e => (e0.bs b o e).1)
  have noL : s.heap.NoLimit := e0.mod.nolimit.keeps (fun b o e => (e0.bs b o e).1)
  have kd : ∀ y ∈ ps.zip us, (defScope st).names.lookup y.1 = some .local ∨ ((defScope st).names.lookup y.1 = some .cell ∧ ((cellsFrom (s.heap.objs.size + 1) (defScope st).names []).lookup y.1).isSome = true) := by
    rintro ⟨n, v⟩ hy
    exact (S.par n (List.of_mem_zip hy).1).imp id fun q => ⟨q, PySem.W.cellsFrom_some _ _ _ (.inl q)⟩
  refine codeAny_call_function hr.depth (inK _ _ lk) rfl S.co S.gen rfl (PySem.W.codeRec_of inK hcd) (hb _ _ _ _ (wpAny_newFunctionEnv_cells S.kind kd fun env he s1 x => ?_))
  subst he
  refine ⟨noL.keeps x.toInCall.keep, codeAny_func ?_⟩
  obtain ⟨t, ht, hq⟩ := body cdv A outer s H vs Q E (hr.deeper _) hgd hsp
  have I := inv_start (CX := CX0) (P := P) (w := w) (f := f) (qual := qual) (cd := cdv) (E := E) S hr.hd e0 ln r x
  refine wpAny_mono (ht.nox.run [] s1 (start N vs) H _ I hq) (fun fl s' z => ?_) fun e s' z => z
  have out : ∀ {σ' : L2.St} {H' : Hp} {v : V} {u : Value}, Inv (cxOf CX0 P w K mg base N qual (defScope st) f cdv A outer s H E) [] σ' H' s' → RelV v u → Q v H' → CE outer P w H s Q u s' := fun {σ' H' v u} J rv q => ⟨v, H', J.os, J.bare, J.base, J.hok, rv, q⟩
  cases fl with
  | next =>
    obtain ⟨σ', H', J, q⟩ := z
    exact out (v := V.non) (u := Value.none) J rfl q
  | ret u =>
    obtain ⟨v, σ', H', J, rv, q⟩ := z
    exact out J rv q
  | brk =>
    obtain ⟨_, _, _, q⟩ := z
    exact q.elim
  | cont =>
    obtain ⟨_, _, _, q⟩ := z
    exact q.elim
end
section
variable {X : Cx} {CX : CXT} {k : Nat} {f : Addr} {fd : FuncData} {ps : List Str} {sp : Sp} {x : Str} {p pos : Pos} {e : Expr} {es : List Expr} {t : TA} {E : XK}
theorem pe_callG (F : FnG X.prog X.w X.K X.mg X.base CX k f fd ps sp) (hr : Room k X.A) (hgd : X.A.guards = some []) (hg : Gl X x) (hm : X.mg x = some (.ref f)) (hk : PySem.W.keepIn X.K (.ref f) = true) (hb : Binds X.K fd ps []) (hx : Passes CX X E)
    (ha : PA X (e :: es) t) (hdb : (x == ("__debug__" : Str)) = false := by decide) (he : starEach (e :: es) X.env = (false, eval e X.env) :: starEach es X.env := by rfl) (hpl : (backTo pos (starEach es X.env)).any (·.1) = false := by rfl) :
    PE X (.Call (.Name x p) (e :: es) [] pos) (tCall sp [] E t) := by
  constructor
  intro pins s σ H Q I h
  refine wpAny_Call_Name_kw (ld_glob I hg hm ?_ hdb)
  refine PySem.W.callWith_K (h₀ := X.base) I.ok.mod.kin hk (thn (ha.run pos pins s σ H _ I h) fun us s1 hh => ?_) he hpl
  obtain ⟨vs, H1, I1, r, q⟩ := hh
  refine ⟨I1.kIn, ?_⟩
  rw [List.append_nil] at q
  have ln : us.length = ps.length := by rw [← r.length]; exact F.len _ _ _ _ q
  have bd := hb s1 us I1.kIn (by rw [List.append_nil]; exact ln)
  rw [List.append_nil] at bd
  refine wpAny_call (codeAny_mono (F.run X.A X.stack s1 H1 ⟨us, []⟩ us vs Q E hr hgd I1.env0 bd r q) fun r s' z => ?_)
  rcases r with er | (_ | _ | _ | u)
  · exact hx pins σ H1 s1 er s' I1 z
  · exact z.elim
  · exact z.elim
  · exact z.elim
  · exact I1.after z
/-- repr of data -/
def rRepr (K : PySem.W.Frag) : List V → Hp → VK → Prop := fun xs H Q => ∃ (a : Addr) (d : PyData), xs = [.ref a] ∧ Dp K H (.ref a) d ∧ d.showable = true ∧ d.hasDict = false ∧ d.shown.length ≤ sizeLine ∧ d.depth ≤ 60 ∧ Q (.str d.shown) H
theorem call_reprD (hu : X.A.units + 64 < cLine) (hgd : X.A.guards = some []) : CallR X (.builtin "repr") (rRepr X.K) := by
  intro pins s σ H xs us Q I r h
  obtain ⟨a, d, rfl, hD, h1, h2, h3, h4, q⟩ := h
  obtain ⟨u, rfl, r1⟩ := vals1 r
  cases (show u = Value.ref a from r1)
  obtain ⟨as, rd⟩ := Dp.reads I d (.ref a) (.ref a) hD rfl
  refine repr_of_reads' rd h1 (fun z => ?_) hgd (by omega) (fun _ _ e => e) (fun h' u tk st => ?_) h3
  · rw [h2] at z
    cases z
  · exact ⟨.str d.shown, H, I.kept (t' := tk) st, ⟨_, rfl⟩, q⟩
end
/-! ### the law's end over such a def -/
theorem law_callG {P : Program} {w : World} {K : PySem.W.Frag} {mg mb : Str → Option Value} {CX : CXT} {k : Nat} {fa a : Addr} {fd : FuncData} {x : Str} {sp : Sp} {s1 : Shared} {vs : List Value} {ns : List Int}
    (KX : K.In s1.heap) (g1 : s1.heap.Ns mainGlobals mg) (g2 : s1.heap.Ns builtinsNs mb) (g3 : ∀ x : Str, x ≠ "__name__" → mb x = bootBuiltins x) (g4 : s1.heap.NoLimit) (g5 : s1.gens = #[])
    (ha : s1.heap.get? a = some { cls := .type "list", data := .seq vs.toArray }) (hi : IntsAre vs ns) (hl : ns.length ≤ sizeLine) (hr : Room k callerA)
    (F : ∀ base : Heap, K.In base → base.Ns mainGlobals mg → FnG P w K mg base CX k fa fd [x] sp) (hbind : ∀ (s : Shared) (u : Value), BindsTo s fd ⟨[u], []⟩ [(x, u)])
    (hsp : ∀ H : Hp, Only H → SqL K H a (ns.map V.int) → sp [.ref a] H (fun v _ => v = .bl true) fun _ _ _ => False) (hCX : ∀ H e s', CX [] H s1 (fun _ _ _ => False) e s' → False) :
    codeAny (model P w) callerA (.call (.ref fa) ⟨[.ref a], []⟩) (fun r s' => r = .ok (.ret (.bool true)) ∧ OldK s1.heap s'.heap ∧ s'.os = s1.os ∧ AllBare s'.gens) s1 := by
  have rv := vals_ints hi
  have core : ∀ H : Hp, Only H → SqL K H a (ns.map V.int) → HOk P w H s1.heap → (∀ b, H b ≠ none → b = a ∧ K.lookup a = none) →
      codeAny (model P w) callerA (.call (.ref fa) ⟨[.ref a], []⟩) (fun r s' => r = .ok (.ret (.bool true)) ∧ OldK s1.heap s'.heap ∧ s'.os = s1.os ∧ AllBare s'.gens) s1 := by
    intro H hO hS hok hA
    have un : ∀ {b : Addr} {m : Str → Option Value}, s1.heap.Ns b m → (hidT s1.heap H).Ns b m := by
      rintro b m ⟨o, es, ep, e, d, r⟩
      refine ⟨o, es, ep, hidT_get e ?_, d, r⟩
      cases q : H b with
      | none => rfl
      | some u =>
        obtain ⟨rfl, _⟩ := hA b (by rw [q]; simp)
        rw [ha] at e
        cases e
        exact absurd (show Data.seq vs.toArray _ = Data.dict es ep from d) (fun z => by cases z)
    have kin : K.In (hidT s1.heap H) := by
      intro b o e
      refine hidT_get (KX b o e) ?_
      cases q : H b with
      | none => rfl
      | some u =>
        obtain ⟨rfl, z⟩ := hA b (by rw [q]; simp)
        rw [z] at e
        cases e
    have lim : (hidT s1.heap H).NoLimit := by
      obtain ⟨mc, l1, l2⟩ := g4
      exact ⟨mc, un l1, l2⟩
    have e0 : Env0 P w K mg (hidT s1.heap H) callerA [] s1 H := ⟨rfl, ⟨kin, un g1, ⟨mb, un g2, g3⟩, lim⟩, fun b o e => of_hidT e, Nat.le_of_eq (hidT_size _ _), trivial, fun b hb => absurd (show b ∈ ([] : List Addr) from hb) (by simp), hok, .of_eq g5⟩
    refine codeAny_mono ((F _ kin (un g1)).run callerA [] s1 H ⟨[.ref a], []⟩ [.ref a] [.ref a] _ _ hr rfl e0 (hbind s1 (.ref a)) (.cons rfl .nil) (hsp H hO hS)) fun r s' h => ?_
    rcases r with er | (_ | _ | _ | u)
    · exact (hCX H er s' h).elim
    · exact h.elim
    · exact h.elim
    · exact h.elim
    · obtain ⟨v, H', os, bare, un, hok', r', q⟩ := h
      have q' : v = .bl true := q
      subst q'
      obtain rfl : u = Value.bool true := r'
      refine ⟨rfl, OldK.of_keep fun b o e => ?_, os, bare⟩
      rcases hO b with z | ⟨ob, xs, z⟩
      · exact un.keep b o e z (by intro y; exact absurd (show b ∈ ([] : List Addr) from y) (by simp)) (by simp)
      · obtain ⟨y1, _⟩ := hok b _ z
        obtain ⟨y2, _⟩ := hok' b _ (un.frzs b ob _ z)
        rw [e] at y1
        cases y1
        exact y2
  have ln : vs.length = ns.length := hi.length
  cases hk : K.lookup a with
  | some o =>
    have e := KX a o hk
    rw [ha] at e
    cases e
    exact core (fun _ => none) (fun _ => .inl rfl) (.inr ⟨_, vs.toArray, _, hk, rfl, rfl, rfl, by rw [List.size_toArray, ln]; exact hl, by simpa using rv⟩) (fun b u z => absurd (show (none : Option HO) = some u from z) (by simp)) (fun b z => absurd rfl z)
  | none =>
    refine core (fun b => if b = a then some (.frz { cls := .type "list", data := .seq vs.toArray } (.lst (ns.map V.int))) else none) (fun b => ?_) (.inl (.inr ⟨{ cls := .type "list", data := .seq vs.toArray }, if_pos rfl⟩)) (fun b u z => ?_) (fun b z => ?_)
    · by_cases hb : b = a
      · exact .inr ⟨_, _, if_pos hb⟩
      · exact .inl (if_neg hb)
    · by_cases hb : b = a
      · cases (if_pos hb).symm.trans z
        subst hb
        exact ⟨ha, by rw [List.length_map]; exact hl, vs, _, rv, ha⟩
      · cases (if_neg hb).symm.trans z
    · by_cases hb : b = a
      · exact ⟨hb, hk⟩
      · exact absurd (if_neg hb) z
theorem walk_ofG {l : PySem.W.OpenLaw} {n k : Nat} {q : Program} {loose : List Str} {XP : (Str → Option Value) → Heap → Prop} {YP : World → Heap → Prop} {d : DefRec} {K : Params → PySem.W.Frag} {CX : World → CXT} {sp : World → Sp} {x : Str}
    (hn : l.most = some n) (hn2 : n ≤ sizeLine) (hdf : d.params.defaults = []) (hr : Room k callerA) (hY : ∀ (w : World) (h : Heap), YP w h → (K w.params).In h)
    (F : ∀ (w : World) (mg : Str → Option Value) (fa : Addr) (h : Heap), (K w.params).In h → h.Ns mainGlobals mg → mg d.name = some (.ref fa) →
      ∃ fd : FuncData, (∀ (s : Shared) (u : Value), BindsTo s fd ⟨[u], []⟩ [(x, u)]) ∧ ∀ base : Heap, (K w.params).In base → base.Ns mainGlobals mg → FnG l.prog w (K w.params) mg base (CX w) k fa fd [x] (sp w))
    (hsp : ∀ (w : World) (H : Hp) (a : Addr) (ns : List Int), ns.length ≤ n → Only H → SqL (K w.params) H a (ns.map V.int) → sp w [.ref a] H (fun v _ => v = .bl true) fun _ _ _ => False)
    (hCX : ∀ (w : World) (H : Hp) (s : Shared) (e : Value) (s' : Shared), CX w [] H s (fun _ _ _ => False) e s' → False) : PySem.W.WalkO q loose XP YP l.row.toRowW d [] (fun f vs => PySem.call f vs) := by
  refine Att.attach_call hn hdf fun w s₀ s₁ mg mb fa o pm cd doc a vs ns G Y ho hd hcd hmg hobj hints hlen hg => ?_
  have KX := hY w _ Y
  obtain ⟨fd, hb, hF⟩ := F w mg fa _ KX G.T.g hmg
  refine law_callG KX G.T.g G.T.b G.T.builtins G.T.nolimit hg hobj hints (Nat.le_trans hlen hn2) hr hF hb (fun H hO hS => hsp w H a ns hlen hO hS) fun H e s' => ?_
  exact hCX w H s₁ e s'
end Kw

set_option Elab.async false
set_option linter.all false
set_option maxRecDepth 100000
namespace Kw
open PySem PySem.Spec PyProof.Rows L2
/-! ### f(b = .., a = ..), nothing by position -/
def BindRev (fd : FuncData) (a b : Str) : Prop := ∀ (s : Shared) (u w : Value), BindsTo s fd ⟨[], [(b, u), (a, w)]⟩ [(a, w), (b, u)]
def tCallR (sp : Sp) (E : XK) (tk : TA) : TE := fun σ H Q => tk σ H fun zs H2 => ∃ r h, zs = [r, h] ∧ sp [h, r] H2 Q E
section
variable {X : Cx} {CX : CXT} {k : Nat} {f : Addr} {fd : FuncData} {a b : Str} {sp : Sp} {E : XK} {x : Str} {p pos : Pos} {kws : List Keyword} {tk : TA}
theorem pe_callR (F : FnOk X.prog X.w X.K X.mg X.base CX k f fd [a, b] sp) (hr : Room k X.A) (hg : Gl X x) (hm : X.mg x = some (.ref f)) (hk : PySem.W.keepIn X.K (.ref f) = true) (hb : BindRev fd a b) (hx : Passes CX X E) (hkw : PK X kws tk)
    (hall : (backToKw pos (keywordEach kws X.env)).all (·.1.isSome) = true := by rfl) (hks : (backToKw pos (keywordEach kws X.env)).filterMap (·.1) = [b, a] := by rfl) (hdb : (x == ("__debug__" : Str)) = false := by decide)
    (hpl : ((backTo pos (starEach [] X.env)).any (·.1) || (backToKw pos (keywordEach kws X.env)).any (·.1.isNone)) = false := by rfl) : PE X (.Call (.Name x p) [] kws pos) (tCallR sp E tk) := by
  refine ⟨fun pins s σ H Q I h => ?_⟩
  refine wpAny_Call_Name_kw (ld_glob I hg hm ?_ hdb)
  refine PySem.W.callWith_KW0 (h₀ := X.base) I.ok.mod.kin hk hall (thn (hkw.run pos pins s σ H _ I h) fun ws s2 hh => ?_) hpl
  obtain ⟨zs, H2, I2, rz, r, hv, rfl, q⟩ := hh
  refine ⟨I2.kIn, ?_⟩
  rw [hks]
  cases rz with
  | cons r1 rz =>
    cases rz with
    | cons r2 rz =>
      cases rz
      refine wpAny_call (codeAny_mono (F.run X.A X.stack s2 H2 ⟨[], [(b, _), (a, _)]⟩ [_, _] [hv, r] Q E hr I2.env0 (hb s2 _ _) (.cons r2 (.cons r1 .nil)) q) fun r s' hq => ?_)
      rcases r with er | (_ | _ | _ | u)
      · exact hx pins σ H2 s2 er s' I2 hq
      · exact hq.elim
      · exact hq.elim
      · exact hq.elim
      · exact I2.after hq
end
section
variable {W : Wd} {K : PySem.W.Frag} {Z : List Addr} {δ : List Sl} {b : Bool} {H H' : Hp} {σ : Sg} {te : TE} {tk : TA} {F : D → Prop} {FL : List D → Prop}
theorem ww_callR {Pre : List D → (D → Prop) → Prop} {E : XK} (h : EvL W K Z δ true tk fun ds => ∃ x y, ds = [x, y] ∧ Pre [y, x] F) : EvW W K Z δ (tCallR (spW K Pre) E tk) F := fun σ H k Q q => h σ H k _ fun vs H1 ds hs g1 i1 d1 => by
  obtain ⟨x, y, rfl, hp⟩ := hs
  cases d1 with
  | cons e1 r =>
    cases r with
    | cons e2 r =>
      cases r
      exact ⟨_, _, rfl, Z, [y, x], F, hp, (k.gr g1 i1).al, .cons e2 (.cons e1 .nil), fun v H' d L f g n nd fr => q v H' d L f (g1.trans g.of0) (Wd.gr0 i1 g) n nd fun a m => Gr.back g1 i1 (fr a m)⟩
/-! ### list(x) -/
def rLsO (K : PySem.W.Frag) : List V → Hp → VK → Prop := fun xs H Q => ∃ p ys, xs = [.ref p] ∧ (SqL K H p ys ∨ SqT K H p ys) ∧ ∀ l, H l = none → Q (.ref l) (upd H l (.lst ys))
theorem listK {X : Cx} (h : X.K = K) : CallR X (.type "list") (rLsO K) := h ▸ call_list_of
theorem wn_listof (h : EvG W K Z δ true te fun x => ∃ ds, x = .list ds ∧ FL ds) : EvN W K Z δ (tCB (rLsO K) (tCons te tNil)) FL := fun σ H k Q q => h σ H k _ fun v H1 x hx g1 i1 d1 => by
  obtain ⟨ds, rfl, f⟩ := hx
  cases d1 with
  | @lst a vs _ ha hva =>
    refine ⟨a, vs, rfl, .inl (SqL.of (hid_all _ _ ha)), fun l nl => q l _ _ _ f (Gr.back g1 i1 nl) (g1.trans (Gr.new nl)) (Wd.new i1 nl) upd_same ?_⟩
    rw [hid_upd (List.mem_cons_self ..)]
    exact hva.mono (hid_more nl)
end
/-! ### small data: what can be shown -/
structure Small (dep wt : Nat) (d : D) : Prop where
  can : d.canLay0 = true
  sh : d.showable = true
  nd : d.hasDict = false
  is : d.intsShort 13 = true
  dp : d.depth ≤ dep
  wt : d.weight ≤ wt
theorem Small.mono {a b c e : Nat} {d : D} (h : Small a b d) (h1 : a ≤ c) (h2 : b ≤ e) : Small c e d := ⟨h.can, h.sh, h.nd, h.is, Nat.le_trans h.dp h1, Nat.le_trans h.wt h2⟩
theorem small_int {i : Int} (h : i.natAbs < 1024) : Small 0 16 (.int i) := by
  have hl : i.natAbs.log2 ≤ 10 := by
    by_cases h0 : i.natAbs = 0
    · rw [h0]
      decide
    · exact Nat.le_of_lt ((Nat.log2_lt h0).mpr (Nat.lt_of_lt_of_le h (by decide)))
  refine ⟨by simp only [PyData.canLay0], ?_, by simp only [PyData.hasDict], ?_, by simp only [PyData.depth]; omega, ?_⟩
  · simp only [PyData.showable, decide_eq_true_eq]
    omega
  · simp only [PyData.intsShort, decide_eq_true_eq]
    exact PyData.shown_int_le (Nat.lt_of_lt_of_le h (by decide))
  · simp only [PyData.weight]
    split <;> omega
theorem small_nat {n : Nat} (h : n < 1024) : Small 0 16 (.int (n : Int)) := small_int (by omega)
theorem small_non : Small 0 16 .none := ⟨by simp only [PyData.canLay0], by simp only [PyData.showable], by simp only [PyData.hasDict], by simp only [PyData.intsShort], by simp only [PyData.depth]; omega, by simp only [PyData.weight]; omega⟩
theorem small_bl (b : Bool) : Small 0 16 (.bool b) := ⟨by simp only [PyData.canLay0], by simp only [PyData.showable], by simp only [PyData.hasDict], by simp only [PyData.intsShort], by simp only [PyData.depth]; omega, by simp only [PyData.weight]; omega⟩
theorem small_str {z : Str} (h : PyData.strOk z = true) (hl : z.cps.size ≤ 16) : Small 0 16 (.str z) := ⟨by simp only [PyData.canLay0]; exact h, by simp only [PyData.showable], by simp only [PyData.hasDict], by simp only [PyData.intsShort], by simp only [PyData.depth]; omega, by simp only [PyData.weight]; exact hl⟩
structure SmallL (dep wt : Nat) (xs : List D) : Prop where
  can : PyData.canLayAll0 xs = true
  sh : PyData.showableAll xs = true
  nd : PyData.hasDictAll xs = false
  is : PyData.intsShortAll 13 xs = true
  dp : PyData.depthAll xs ≤ dep
  wt : PyData.weightAll xs ≤ xs.length * (wt + 1)
theorem smallL {dep wt : Nat} : ∀ {xs : List D}, (∀ x ∈ xs, Small dep wt x) → SmallL dep wt xs
  | [], _ => ⟨by simp only [PyData.canLayAll0], by simp only [PyData.showableAll], by simp only [PyData.hasDictAll], by simp only [PyData.intsShortAll], by simp only [PyData.depthAll]; omega, by simp only [PyData.weightAll]; omega⟩
  | x :: xs, h => by
    have a := h x (List.mem_cons_self ..)
    have b := smallL (xs := xs) fun y hy => h y (List.mem_cons_of_mem _ hy)
    refine ⟨?_, ?_, ?_, ?_, ?_, ?_⟩
    · simp only [PyData.canLayAll0, a.can, b.can, Bool.and_self]
    · simp only [PyData.showableAll, a.sh, b.sh, Bool.and_self]
    · simp only [PyData.hasDictAll, a.nd, b.nd, Bool.or_self]
    · simp only [PyData.intsShortAll, a.is, b.is, Bool.and_self]
    · simp only [PyData.depthAll]
      exact Nat.max_le.mpr ⟨a.dp, b.dp⟩
    · simp only [PyData.weightAll, List.length_cons]
      have h1 := a.wt
      have h2 := b.wt
      rw [Nat.succ_mul]
      omega
theorem small_list {dep wt n : Nat} {xs : List D} (h : ∀ x ∈ xs, Small dep wt x) (hl : xs.length ≤ n) : Small (dep + 1) (n * (wt + 1)) (.list xs) := by
  have a := smallL h
  refine ⟨by simp only [PyData.canLay0, a.can], by simp only [PyData.showable, a.sh], by simp only [PyData.hasDict, a.nd], by simp only [PyData.intsShort, a.is], ?_, ?_⟩
  · simp only [PyData.depth]
    exact Nat.succ_le_succ a.dp
  · simp only [PyData.weight]
    exact Nat.le_trans a.wt (Nat.mul_le_mul_right _ hl)
theorem small_tup {dep wt n : Nat} {xs : List D} (h : ∀ x ∈ xs, Small dep wt x) (hl : xs.length ≤ n) : Small (dep + 1) (n * (wt + 1)) (.tuple xs) := by
  have a := smallL h
  refine ⟨by simp only [PyData.canLay0, a.can], by simp only [PyData.showable, a.sh], by simp only [PyData.hasDict, a.nd], by simp only [PyData.intsShort, a.is], ?_, ?_⟩
  · simp only [PyData.depth]
    exact Nat.succ_le_succ a.dp
  · simp only [PyData.weight]
    exact Nat.le_trans a.wt (Nat.mul_le_mul_right _ hl)
theorem Small.fits {dep wt : Nat} {d : D} (h : Small dep wt d) (h1 : dep ≤ 60) (h2 : wt ≤ 1048576) : d.showable = true ∧ d.hasDict = false ∧ d.shown.length ≤ sizeLine ∧ d.depth ≤ 60 := by
  refine ⟨h.sh, h.nd, PyData.shown_fits_of_layable0 (B := 13) (by decide) (by decide) ?_ h.is, Nat.le_trans h.dp h1⟩
  unfold PyData.layable0
  rw [h.can, decide_eq_true (show d.depth ≤ 64 from Nat.le_trans h.dp (by omega)), decide_eq_true (show d.weight ≤ 2 ^ 20 from Nat.le_trans h.wt (Nat.le_trans h2 (by decide)))]
  rfl
theorem Small.shaped {dep wt : Nat} {d : D} (h : Small dep wt d) (h1 : dep ≤ 60) : SeqAt.shaped d = true := by
  unfold SeqAt.shaped
  rw [h.can, decide_eq_true (show d.depth ≤ 64 from Nat.le_trans h.dp (by omega))]
  rfl
theorem Small.refl {dep wt : Nat} {d : D} (h : Small dep wt d) : PyData.eqv d d = true := SeqAt.eqv_refl d h.can
section
variable {X : Cx} {K : PySem.W.Frag} {W : Wd} {Z : List Addr} {δ : List Sl} {b : Bool} {te : TE} {F : D → Prop}
theorem reprK (h : X.K = K) (hu : X.A.units + 64 < cLine) (hgd : X.A.guards = some []) : CallR X (.builtin "repr") (rRepr K) := h ▸ call_reprD hu hgd
theorem wp_repr (h : EvG W K Z δ false te fun x => ∃ dep wt, ((∃ l, x = .list l) ∨ ∃ l, x = .tuple l) ∧ Small dep wt x ∧ dep ≤ 60 ∧ wt ≤ 1048576 ∧ F (.str x.shown)) : EvG W K Z δ b (tCB (rRepr K) (tCons te tNil)) F := fun σ H k Q q => h σ H k _ fun v H1 x hx g1 i1 d1 => by
  obtain ⟨dep, wt, hs, sm, h1, h2, f⟩ := hx
  obtain ⟨s1, s2, s3, s4⟩ := sm.fits h1 h2
  have dp := (d1.mono hid_all).dp
  obtain ⟨a, rfl⟩ : ∃ a, v = .ref a := by
    rcases hs with ⟨l, rfl⟩ | ⟨l, rfl⟩
    · cases d1
      exact ⟨_, rfl⟩
    · cases d1
      exact ⟨_, rfl⟩
  exact ⟨a, x, rfl, dp, s1, s2, s3, s4, q _ _ _ f g1 i1 (.str _)⟩
end
end Kw

set_option Elab.async false
set_option linter.all false
set_option maxRecDepth 100000
namespace Kw
open PySem PySem.Spec PyProof.Rows L2
theorem small_deed {t : Things} (ht : t.ok) {x : Deed} (h : x.ok t) : Small 1 51 x.d := by
  obtain ⟨t1, t2, t3, t4⟩ := ht
  have w : ∀ z ∈ (["add", "flag", "take", "drop", "enter", "leave"] : List Str), Small 0 16 (.str z) := fun z hz => by
    simp only [List.mem_cons, List.not_mem_nil, or_false] at hz
    rcases hz with rfl | rfl | rfl | rfl | rfl | rfl <;> exact small_str (by decide +kernel) (by decide +kernel)
  cases x with
  | add c n =>
    obtain ⟨a1, a2, a3, a4⟩ := h
    refine small_tup (dep := 0) (wt := 16) (n := 3) (fun y hy => ?_) (Nat.le_refl _)
    simp only [List.mem_cons, List.not_mem_nil, or_false] at hy
    rcases hy with rfl | rfl | rfl
    · exact w _ (by simp)
    · exact small_nat (by omega)
    · exact small_int (by omega)
  | flag c b =>
    have a1 : c < t.fs := h
    refine small_tup (dep := 0) (wt := 16) (n := 3) (fun y hy => ?_) (Nat.le_refl _)
    simp only [List.mem_cons, List.not_mem_nil, or_false] at hy
    rcases hy with rfl | rfl | rfl
    · exact w _ (by simp)
    · exact small_nat (by omega)
    · exact small_bl _
  | take c =>
    have a1 : c < t.ss := h
    refine small_tup (dep := 0) (wt := 16) (n := 3) (fun y hy => ?_) (by show 2 ≤ 3; omega)
    simp only [List.mem_cons, List.not_mem_nil, or_false] at hy
    rcases hy with rfl | rfl
    · exact w _ (by simp)
    · exact small_nat (by omega)
  | drop c =>
    have a1 : c < t.ss := h
    refine small_tup (dep := 0) (wt := 16) (n := 3) (fun y hy => ?_) (by show 2 ≤ 3; omega)
    simp only [List.mem_cons, List.not_mem_nil, or_false] at hy
    rcases hy with rfl | rfl
    · exact w _ (by simp)
    · exact small_nat (by omega)
  | enter c =>
    have a1 : c < t.rs := h
    refine small_tup (dep := 0) (wt := 16) (n := 3) (fun y hy => ?_) (by show 2 ≤ 3; omega)
    simp only [List.mem_cons, List.not_mem_nil, or_false] at hy
    rcases hy with rfl | rfl
    · exact w _ (by simp)
    · exact small_nat (by omega)
  | leave c =>
    have a1 : c < t.rs := h
    refine small_tup (dep := 0) (wt := 16) (n := 3) (fun y hy => ?_) (by show 2 ≤ 3; omega)
    simp only [List.mem_cons, List.not_mem_nil, or_false] at hy
    rcases hy with rfl | rfl
    · exact w _ (by simp)
    · exact small_nat (by omega)
theorem mem_mapD {α : Type} {g : α → D} {xs : List α} {d : D} {P : D → Prop} (h : ∀ x ∈ xs, P (g x)) (m : d ∈ xs.map g) : P d := by
  obtain ⟨x, hx, rfl⟩ := List.mem_map.mp m
  exact h x hx
theorem small_stp {t : Things} (ht : t.ok) {n : Nat} {x : Stp} (h : x.ok t n) (hn : n ≤ 6) : Small 3 471 x.d := by
  obtain ⟨h1, h2, h3, h4⟩ := h
  refine small_tup (n := 3) (wt := 156) (fun y hy => ?_) (Nat.le_refl _)
  simp only [List.mem_cons, List.not_mem_nil, or_false] at hy
  rcases hy with rfl | rfl | rfl
  · exact (small_nat (by omega)).mono (by omega) (by omega)
  · exact (small_nat (by omega)).mono (by omega) (by omega)
  · exact small_tup (n := 3) (fun d m => mem_mapD (fun x hx => small_deed ht (h3 x hx)) m) (by rw [List.length_map]; exact h4)
theorem small_knd {t : Things} (ht : t.ok) {x : Knd} (h : x.ok t) (hm : x.marked.length ≤ 6) : Small 5 14163 x.d := by
  obtain ⟨p1, p6, a, l, s, n⟩ := h
  refine small_tup (n := 3) (wt := 4720) (fun y hy => ?_) (Nat.le_refl _)
  simp only [List.mem_cons, List.not_mem_nil, or_false] at hy
  rcases hy with rfl | rfl | rfl
  · exact (small_nat (by omega)).mono (by omega) (by omega)
  · exact (small_tup (n := 6) (fun d m => mem_mapD (fun x hx => small_nat (Nat.lt_of_lt_of_le (l x hx) (by omega))) m) (by rw [List.length_map]; exact hm)).mono (by omega) (by omega)
  · exact small_tup (n := 10) (fun d m => mem_mapD (fun x hx => small_stp ht (s x hx) p6) m) (by rw [List.length_map]; exact n)
theorem small_hs {h : Hs} (ok : h.ok) (hm : ∀ k ∈ h.kinds, k.marked.length ≤ 6) : Small 7 212465 h.d := by
  obtain ⟨ht, k1, k3, ks⟩ := ok
  have ht' := ht
  obtain ⟨t1, t2, t3, t4⟩ := ht'
  refine small_tup (n := 5) (wt := 42492) (fun y hy => ?_) (Nat.le_refl _)
  simp only [List.mem_cons, List.not_mem_nil, or_false] at hy
  rcases hy with rfl | rfl | rfl | rfl | rfl
  · exact (small_nat (by omega)).mono (by omega) (by omega)
  · exact (small_nat (by omega)).mono (by omega) (by omega)
  · exact (small_nat (by omega)).mono (by omega) (by omega)
  · exact (small_nat (by omega)).mono (by omega) (by omega)
  · exact small_tup (n := 3) (fun d m => mem_mapD (fun x hx => small_knd ht (ks x hx) (hm x hx)) m) (by rw [List.length_map]; exact k3)
/-! ### runs and states -/
structure Bnd4 (h : Hs) (ws : List Wk) : Prop where
  k : ∀ x ∈ ws, x.1 < h.kinds.length
  p : ∀ x ∈ ws, x.2 ≤ 6
theorem RunOf.bnd {h : Hs} (ok : h.ok) {es : List Ev} {ws : List Wk} (r : RunOf h es ws) : Bnd4 h ws := by
  refine ⟨r.ok, ?_⟩
  induction r with
  | nil => exact fun x hx => absurd hx (by simp)
  | @snoc es ws e r c ih =>
    intro x hx
    cases e with
    | begin k =>
      rcases List.mem_append.mp hx with hx | hx
      · exact ih x hx
      · rw [List.mem_singleton.mp hx]
        exact Nat.zero_le _
    | go v s =>
      obtain ⟨y, st, h1, h2, h3⟩ := c
      obtain ⟨kd, h4, h5⟩ := can_kd h2
      rcases List.mem_or_eq_of_mem_set hx with hx | rfl
      · exact ih x hx
      · show secondOf h (List.getD ws v (0, 0)).1 s ≤ 6
        rw [show ws.getD v (0, 0) = y by rw [List.getD_eq_getElem?_getD, h1]; rfl]
        unfold secondOf
        rw [h2]
        have k := ok.ks kd (List.mem_of_getElem? h4)
        have := (k.st st (List.mem_of_getElem? h5)).snd
        have := k.p6
        show st.second ≤ 6
        omega
theorem small_ev {h : Hs} (ok : h.ok) {ws : List Wk} (hw : ws.length ≤ 900) {e : Ev} (c : can h ws e) : Small 1 51 e.d := by
  cases e with
  | begin k =>
    have c : k < h.kinds.length := c
    have := ok.k3
    refine small_tup (dep := 0) (wt := 16) (n := 3) (fun y hy => ?_) (by show 2 ≤ 3; omega)
    simp only [List.mem_cons, List.not_mem_nil, or_false] at hy
    rcases hy with rfl | rfl
    · exact small_str (by decide +kernel) (by decide +kernel)
    · exact small_nat (by omega)
  | go v s =>
    obtain ⟨y, st, h1, h2, h3⟩ := c
    obtain ⟨kd, h4, h5⟩ := can_kd h2
    have l1 := (List.getElem?_eq_some_iff.mp h1).1
    have l2 := (List.getElem?_eq_some_iff.mp h5).1
    have := (ok.ks kd (List.mem_of_getElem? h4)).len
    refine small_tup (dep := 0) (wt := 16) (n := 3) (fun y hy => ?_) (Nat.le_refl _)
    simp only [List.mem_cons, List.not_mem_nil, or_false] at hy
    rcases hy with rfl | rfl | rfl
    · exact small_str (by decide +kernel) (by decide +kernel)
    · exact small_nat (by omega)
    · exact small_nat (by omega)
theorem small_evs {h : Hs} (ok : h.ok) {es : List Ev} {ws : List Wk} (r : RunOf h es ws) (hl : es.length ≤ 100) : Small 2 5200 (.list (es.map Ev.d)) := by
  refine small_list (dep := 1) (wt := 51) (n := 100) (fun d m => mem_mapD (g := Ev.d) (fun x hx => ?_) m) (by rw [List.length_map]; exact hl)
  obtain ⟨i, hi, rfl⟩ := List.mem_iff_getElem.mp hx
  have he := List.getElem?_eq_getElem hi
  refine small_ev ok ?_ (r.can_at he)
  have := (r.take i).len
  rw [List.length_take] at this
  omega
theorem cnt_small {t : Things} (n : Nat) : ∀ (dn : List (Nat × Deed)) (m : Nat) (cs : List Int), (∀ x ∈ dn, x.2.ok t) → (∀ c ∈ cs, c.natAbs ≤ m) → ∀ c ∈ dn.foldl (fun cs x => stepC cs x.2) cs, c.natAbs ≤ m + 2 * dn.length
  | [], m, cs, _, h => fun c hc => by
    have := h c hc
    simp
    omega
  | x :: dn, m, cs, ok, h => fun c hc => by
    have key : ∀ c ∈ stepC cs x.2, c.natAbs ≤ m + 2 := fun c hc => by
      have hx := ok x (List.mem_cons_self ..)
      cases hd : x.2 with
      | add j i =>
        rw [hd] at hc hx
        obtain ⟨a1, a2, a3, a4⟩ := hx
        rcases List.mem_or_eq_of_mem_set hc with hc | rfl
        · have := h c hc
          omega
        · have g : (cs.getD j 0).natAbs ≤ m := by
            rw [List.getD_eq_getElem?_getD]
            cases q : cs[j]? with
            | none => show (0 : Int).natAbs ≤ m; simp
            | some y => exact h y (List.mem_of_getElem? q)
          omega
      | _ =>
        rw [hd] at hc
        have := h c hc
        omega
    have := cnt_small n dn (m + 2) (stepC cs x.2) (fun y hy => ok y (List.mem_cons_of_mem _ hy)) key c hc
    rw [List.length_cons]
    omega
theorem slt_small {N : Nat} : ∀ (dn : List (Nat × Deed)) (ss : List (Option Nat)), (∀ x ∈ dn, x.1 < N) → (∀ c ∈ ss, ∀ w, c = some w → w < N) → ∀ c ∈ dn.foldl (fun ss x => stepS ss x.1 x.2) ss, ∀ w, c = some w → w < N
  | [], ss, _, h => h
  | x :: dn, ss, ok, h => by
    refine slt_small dn _ (fun y hy => ok y (List.mem_cons_of_mem _ hy)) fun c hc w e => ?_
    have hx := ok x (List.mem_cons_self ..)
    have hc : c ∈ stepS ss x.1 x.2 := hc
    cases hd : x.2 with
    | take j =>
      rw [hd] at hc
      rcases List.mem_or_eq_of_mem_set hc with hc | rfl
      · exact h c hc w e
      · cases e
        exact hx
    | drop j =>
      rw [hd] at hc
      have hc : c ∈ if ss.getD j none = some x.1 then ss.set j none else ss := hc
      split at hc
      · rcases List.mem_or_eq_of_mem_set hc with hc | rfl
        · exact h c hc w e
        · cases e
      · exact h c hc w e
    | _ =>
      rw [hd] at hc
      exact h c hc w e
end Kw

set_option Elab.async false
set_option linter.all false
set_option maxRecDepth 100000
namespace Kw
open PySem PySem.Spec PyProof.Rows L2
def topS (i : Nat) : Stmt := PySem.Challenge.pw_whilebusy_k04_states_of_runs.main.body.getD i (.Pass ⟨0, 0, 0, 0⟩)
abbrev s_law_deck : Stmt := topS 35
theorem sc_law_deck : FnScope ["script", "seed", "cell"] ["script"] (defScope s_law_deck) := ⟨rfl, rfl, rfl, by decide +kernel, rfl, by decide +kernel, by decide +kernel⟩
abbrev s_law_take : Stmt := topS 36
theorem sc_law_take : FnScope ["deck", "wide", "left", "mixed"] ["deck", "wide"] (defScope s_law_take) := ⟨rfl, rfl, rfl, by decide +kernel, rfl, by decide +kernel, by decide +kernel⟩
structure TB (mg : Str → Option Value) : Prop where
  n_int : mg "int" = none
  n_abs : mg "abs" = none
  n_len : mg "len" = none
section
variable {P : Program} {w : World} {K : PySem.W.Frag} {mg : Str → Option Value} {base : Heap}
theorem pow1 : CPowB 10 60 := ⟨by decide, by decide +kernel⟩
theorem pow2 : CPowB (10 ^ (60 : Int).toNat) 10 := ⟨by decide, by decide +kernel⟩
theorem pow3 : (0 : Int) < (10 ^ (60 : Int).toNat) ^ (10 : Int).toNat := by decide +kernel
theorem ok_deck {f : Addr} {fd : FuncData} {k : Nat} (F : Fun K "_law_deck" "_law_deck" s_law_deck f fd) (T : TB mg) : FnOk P w K mg base CX0 (k + 1) f fd ["script"] (spDeck K) := by
  refine F.ok sc_law_deck (fun vs H Q E h => ?_) (fun cdv A outer s H vs Q E hr h => ?_)
  · obtain ⟨a, ns, rfl, _⟩ := h
    rfl
  · obtain ⟨a, ns, rfl, hS, hl, hq⟩ := h
    refine ⟨_, (pss_cons (ps_set (i := 1) sc_law_deck.nd rfl (.inl rfl) pe_int)
      (pss_cons (ps_for PassesOwn.never rfl (pi_list (pe_slice (slK (K := K) rfl) (pv 0) po_none (po_some pe_int))) (pg_name (i := 2) sc_law_deck.nd rfl (.inl rfl)) (pss_one (ps_set (i := 1) sc_law_deck.nd rfl (.inl rfl) (pe_op op_mod (pe_callTy call_int1 (by rfl) T.n_int (by decide +kernel) (pa_cons (pe_op op_add (pe_op op_add (pe_op op_mul (pv 1) pe_int) (pe_op op_mod (pe_callTy call_int1 (by rfl) T.n_int (by decide +kernel) (pa_cons (pv 2) pa_nil)) pe_int)) pe_int) pa_nil)) pe_int))))
      (pss_one (ps_ret (pe_lst (pa_cons (pe_lc (own := [("cell", 2)]) (g := (gName 2)) rfl sc_law_deck.nd (pi_list (pe_slice (slK (K := K) rfl) (pv 0) po_none (po_some pe_int))) (blkOk_by (own := [("cell", 2)]) (N := ["script", "seed", "cell"]) (sc := defScope s_law_deck) (by decide +kernel)) (fun _ _ _ _ _ => (pg_name (i := 2) sc_law_deck.nd rfl (Or.inl rfl))) (fun _ _ _ _ _ => pts_nil) (fun _ _ _ _ _ => (pe_op op_mod (pe_callTy call_int1 (by rfl) T.n_int (by decide +kernel) (pa_cons (pe_callB call_abs (by rfl) T.n_abs (by decide +kernel) (pa_cons (pv 2) pa_nil)) pa_nil)) (pe_op op_powW (pe_op op_powW pe_int pe_int) pe_int)))) (pa_cons pe_int (pa_cons (pv 1) (pa_cons pe_int pa_nil))))))))), ?_⟩
    have cl : cutV (ns.map V.int) none (some 63) = ns.map V.int := cut_all _ (by rw [List.length_map]; exact hl)
    refine ⟨.ref a, rfl, 63, rfl, a, ns.map V.int, rfl, hS, fun c nc => ?_⟩
    rw [cl]
    have s1 : Same H (upd H c (.lst (ns.map V.int))) := same_upd nc
    refine ⟨c, rfl, ⟨_, SqL.of upd_same⟩, for_list (xs := ns.map V.int) (fun i σ H' => H' = upd H c (.lst (ns.map V.int)) ∧ ∃ (z : Int) (y : Option V), σ = [some (.ref a), some (.int z), y] ∧ 0 ≤ z ∧ z < 2147483647) ⟨rfl, 40009, none, rfl, by decide, by decide⟩
      (fun i σ H' _ h => by rw [h.1]; exact SqL.of upd_same) (fun i x σ H' hx h => ?_) (fun σ H' h => ?_)⟩
    · obtain ⟨rfl, z, y, rfl, z0, z1⟩ := h
      rw [List.getElem?_map] at hx
      obtain ⟨n, _, rfl⟩ := Option.map_eq_some_iff.mp hx
      refine ⟨.int z, rfl, z, 62089911, rfl, rfl, .inl ⟨by omega, by omega⟩, .int n, rfl, .inl ⟨n, rfl, n, 2147483629, rfl, rfl, by show (0 : Int) < 2147483629; decide, _, _, rfl, rfl, _, _, rfl, rfl, .inl ⟨_, rfl, _, 2147483647, rfl, rfl, by show (0 : Int) < 2147483647; decide, ?_⟩⟩⟩
      exact ⟨rfl, _, some (.int n), rfl, Int.emod_nonneg _ (by decide), Int.emod_lt_of_pos _ (by decide)⟩
    · obtain ⟨rfl, z, y, rfl, z0, z1⟩ := h
      refine ⟨.ref a, rfl, 63, rfl, a, ns.map V.int, rfl, s1.seq hS, fun c2 nc2 => ?_⟩
      rw [cl]
      refine ⟨c2, rfl, ⟨_, SqL.of upd_same⟩, fun D hD => lc_list (xs := ns.map V.int) (fun i H' => Same (upd (upd H c (.lst (ns.map V.int))) c2 (.lst (ns.map V.int))) H' ∧ ∃ ms : List Int, H' D = some (.lst (ms.map V.int)) ∧ ms.length = i ∧ ∀ m ∈ ms, 0 ≤ m)
        ⟨same_upd hD, [], upd_same, rfl, by simp⟩ (fun i H' _ h => SqL.of (h.1 _ _ upd_same)) (fun i x H' hx h => ?_) (fun H' h => ?_)⟩
      · obtain ⟨sm, ms, hms, lm, nn⟩ := h
        rw [List.getElem?_map] at hx
        obtain ⟨n, hn, rfl⟩ := Option.map_eq_some_iff.mp hx
        have hi : i < ns.length := (List.getElem?_eq_some_iff.mp hn).1
        refine ⟨rfl, ?_⟩
        refine ⟨.int n, rfl, _, rfl, .inl ⟨_, rfl, 10, 60, rfl, rfl, pow1, _, 10, rfl, rfl, pow2, _, _, rfl, rfl, pow3, _, hms, ?_, ?_⟩⟩
        · rw [List.length_map]
          exact Nat.lt_of_lt_of_le (show ms.length < 64 by omega) (by decide)
        · refine ⟨fun b x e => ?_, ms ++ [(if n < 0 then -n else n) % ((10 ^ (60 : Int).toNat) ^ (10 : Int).toNat)], ?_, ?_, ?_⟩
          · have nb : b ≠ D := ne_of_none e hD
            rw [upd_ne nb]
            exact sm _ _ e
          · rw [upd_same, List.map_append]
            rfl
          · rw [List.length_append, lm]
            rfl
          · intro m hm
            rcases List.mem_append.mp hm with hm | hm
            · exact nn m hm
            · rw [List.mem_singleton.mp hm]
              exact Int.emod_nonneg _ (Int.ne_of_gt pow3)
      · obtain ⟨sm, ms, hms, lm, nn⟩ := h
        rw [List.length_map] at lm
        have s2 : Same (upd H c (.lst (ns.map V.int))) (upd (upd H c (.lst (ns.map V.int))) c2 (.lst (ns.map V.int))) := same_upd nc2
        have sH : Same H H' := (s1.trans s2).trans sm
        refine ⟨.int z, rfl, by show 4 ≤ sizeLine; decide, fun p np => ?_⟩
        have nDp : D ≠ p := ne_of_none hms np
        refine hq p D _ (sH.trans (same_upd np)) (sH.free np) ((s1.trans s2).free hD) ⟨ms, 0, 0, z, upd_same, ?_, nn, by omega, z0, z1⟩
        rw [upd_ne nDp]
        exact hms
theorem at_list {H : Hp} {p : Addr} {xs ys : List V} {G : Hp → Prop} (e : xs = ys) (h : G (upd H p (.lst ys))) : G (upd H p (.lst xs)) := by
  rw [e]
  exact h
theorem ok_take {f : Addr} {fd : FuncData} {k : Nat} (F : Fun K "_law_take" "_law_take" s_law_take f fd) (T : TB mg) : FnOk P w K mg base CX0 (k + 1) f fd ["deck", "wide"] spTake := by
  refine F.ok sc_law_take (fun vs H Q E h => ?_) (fun cdv A outer s H vs Q E hr h => ?_)
  · obtain ⟨p, q, w, rfl, _⟩ := h
    rfl
  · obtain ⟨p, q, w, rfl, ⟨ns, i, c, z, hp, hc, hn, hl, hz0, hz1⟩, hw0, hw1, hq⟩ := h
    refine ⟨_, (pss_cons (ps_while PassesOwn.never (PW.pt (pw_and (pt_cmpR op_lt (pe_ix ix_list (pv 0) pe_int (fun _ _ => rfl)) (pe_callB call_len_seq (by rfl) T.n_len (by decide +kernel) (pa_cons (pe_ix ix_list (pv 0) pe_int (fun _ _ => rfl)) pa_nil)) (nomark _)) (pw_and1 (pt_cmpR op_eq (pe_ix ix_list (pe_ix ix_list (pv 0) pe_int (fun _ _ => rfl)) (pe_ix ix_list (pv 0) pe_int (fun _ _ => rfl)) (fun _ _ => rfl)) pe_int (nomark _))))) (pss_one (ps_asg (pe_op op_add (pe_ix ix_list (pv 0) pe_int (fun _ _ => rfl)) pe_int) (pg_sub (pv 0) pe_int set_list))))
      (pss_cons (ps_if (pt_cmpR op_lt (pe_ix ix_list (pv 0) pe_int (fun _ _ => rfl)) (pe_callB call_len_seq (by rfl) T.n_len (by decide +kernel) (pa_cons (pe_ix ix_list (pv 0) pe_int (fun _ _ => rfl)) pa_nil)) (nomark _)) (pss_cons (ps_set (i := 2) sc_law_take.nd rfl (.inl rfl) (pe_ix ix_list (pe_ix ix_list (pv 0) pe_int (fun _ _ => rfl)) (pe_ix ix_list (pv 0) pe_int (fun _ _ => rfl)) (fun _ _ => rfl)))
      (pss_cons (ps_asg (pe_op op_fdiv (pv 2) (pv 1)) (pg_sub (pe_ix ix_list (pv 0) pe_int (fun _ _ => rfl)) (pe_ix ix_list (pv 0) pe_int (fun _ _ => rfl)) set_list))
      (pss_one (ps_ret (pe_op op_mod (pe_callTy call_int1 (by rfl) T.n_int (by decide +kernel) (pa_cons (pv 2) pa_nil)) (pv 1)))))) pss_nil)
      (pss_cons (ps_asg (pe_op op_add (pe_ix ix_list (pv 0) pe_int (fun _ _ => rfl)) pe_int) (pg_sub (pv 0) pe_int set_list))
      (pss_cons (ps_set (i := 3) sc_law_take.nd rfl (.inl rfl) (pe_op op_add (pe_op op_add (pe_op op_add (pe_op op_powW (pe_ix ix_list (pv 0) pe_int (fun _ _ => rfl)) pe_int) (pe_op op_mul pe_int (pe_ix ix_list (pv 0) pe_int (fun _ _ => rfl)))) (pe_op op_mul pe_int (pe_ix ix_list (pv 0) pe_int (fun _ _ => rfl)))) pe_int))
      (pss_cons (ps_asg (pe_op op_mod (pe_callTy call_int1 (by rfl) T.n_int (by decide +kernel) (pa_cons (pv 3) pa_nil)) pe_int) (pg_sub (pv 0) pe_int set_list))
      (pss_one (ps_ret (pe_op op_mod (pe_op op_fdiv (pe_callTy call_int1 (by rfl) T.n_int (by decide +kernel) (pa_cons (pe_op op_add (pe_op op_mul (pe_ix ix_list (pv 0) pe_int (fun _ _ => rfl)) (pe_ix ix_list (pv 0) pe_int (fun _ _ => rfl))) (pe_op op_fdiv (pe_ix ix_list (pv 0) pe_int (fun _ _ => rfl)) pe_int)) pa_nil)) pe_int) (pv 1))))))))), ?_⟩
    have npq : p ≠ q := deck_ne hp hc
    refine ⟨fun m σ H' => ∃ i : Nat, m = ns.length - i ∧ σ = [some (.ref p), some (.int w), none, none] ∧ H' = upd H p (.lst [.ref q, .int (i : Int), .int z, .int (c : Int)]), ⟨_, i, rfl, rfl, ?_⟩, ?_⟩
    · funext b
      by_cases hb : b = p
      · rw [hb, upd_same, hp]
      · rw [upd_ne hb]
    rintro m σ H' ⟨i, rfl, rfl, rfl⟩
    have eqq : ∀ o : HO, (upd H p o) q = some (.lst (ns.map V.int)) := fun o => by
      rw [upd_ne npq.symm]
      exact hc
    have lm : ((ns.map V.int).length : Int) = (ns.length : Int) := by rw [List.length_map]
    -- deck[1] < len(deck[0])
    refine ⟨.ref p, rfl, p, _, 1, .int i, rfl, rfl, SqL.of upd_same, rfl, .ref p, rfl, p, _, 0, .ref q, rfl, rfl, SqL.of upd_same, rfl, q, ns.map V.int, rfl, .inl (SqL.of (eqq _)), (i : Int), _, rfl, rfl, _, rfl, ?_⟩
    rw [lm]
    by_cases hi : (i : Int) < (ns.length : Int)
    · rw [decide_eq_true hi]
      refine iteT ?_
      have hi' : i < ns.length := by omega
      have gi : (ns.map V.int)[i]? = some (.int ns[i]) := by
        rw [List.getElem?_map, List.getElem?_eq_getElem hi']
        rfl
      -- deck[0][deck[1]] == 0
      refine ⟨.ref p, rfl, p, _, 0, .ref q, rfl, rfl, SqL.of upd_same, rfl, .ref p, rfl, p, _, 1, .int i, rfl, rfl, SqL.of upd_same, rfl, q, ns.map V.int, (i : Int), .int ns[i], rfl, rfl, SqL.of (eqq _), atI_nat gi, rfl, _, rfl, ?_⟩
      by_cases h0 : ns[i] = 0
      · rw [decide_eq_true (show V.int ns[i] = V.int 0 by rw [h0])]
        refine iteT ⟨fun σ' H' => σ' = [some (.ref p), some (.int w), none, none] ∧ H' = upd H p (.lst [.ref q, .int ((i + 1 : Nat) : Int), .int z, .int (c : Int)]), ?_, ?_⟩
        · rintro σ' H' ⟨rfl, rfl⟩
          exact ⟨ns.length - (i + 1), by omega, i + 1, rfl, rfl, rfl⟩
        · refine ⟨.ref p, rfl, p, _, 1, .int i, rfl, rfl, SqL.of upd_same, rfl, (i : Int), 1, rfl, rfl, .ref p, rfl, p, _, 1, 1, rfl, rfl, upd_same, rfl, rfl, ?_⟩
          rw [upd_upd]
          rfl
      · rw [decide_eq_false (show ¬ V.int ns[i] = V.int 0 from fun e => h0 (V.int.inj e))]
        refine iteF ?_
        -- if deck[1] < len(deck[0])
        refine ⟨.ref p, rfl, p, _, 1, .int i, rfl, rfl, SqL.of upd_same, rfl, .ref p, rfl, p, _, 0, .ref q, rfl, rfl, SqL.of upd_same, rfl, q, ns.map V.int, rfl, .inl (SqL.of (eqq _)), (i : Int), _, rfl, rfl, _, rfl, ?_⟩
        rw [lm, decide_eq_true hi]
        refine iteT ?_
        refine ⟨.ref p, rfl, p, _, 0, .ref q, rfl, rfl, SqL.of upd_same, rfl, .ref p, rfl, p, _, 1, .int i, rfl, rfl, SqL.of upd_same, rfl, q, ns.map V.int, (i : Int), .int ns[i], rfl, rfl, SqL.of (eqq _), atI_nat gi, ?_⟩
        refine ⟨.int ns[i], rfl, .int w, rfl, ns[i], w, rfl, rfl, ⟨hw0, hw1⟩, .ref p, rfl, p, _, 0, .ref q, rfl, rfl, SqL.of upd_same, rfl, .ref p, rfl, p, _, 1, .int i, rfl, rfl, SqL.of upd_same, rfl, q, ns.map V.int, (i : Int), i, rfl, rfl, eqq _, Evl.ixN_nat (by rw [List.length_map]; exact hi'), ?_⟩
        refine ⟨.int ns[i], rfl, .inl ⟨ns[i], rfl, .int w, rfl, ns[i], w, rfl, rfl, hw0, ?_⟩⟩
        refine hq _ _ (Int.emod_nonneg _ (by omega)) (Int.emod_lt_of_pos _ hw0) ⟨ns.set i (ns[i] / w), i, c, z, ?_, ?_, ?_, ?_, hz0, hz1⟩ ?_
        · rw [upd_ne npq, upd_same]
        · rw [upd_same, List.map_set]
        · intro n hn'
          rcases List.mem_or_eq_of_mem_set hn' with h | h
          · exact hn n h
          · rw [h]
            exact Int.ediv_nonneg (hn _ (List.getElem_mem hi')) (by omega)
        · rw [List.length_set]
          exact hl
        · intro b b1 b2
          rw [upd_ne b2, upd_ne b1]
    · rw [decide_eq_false hi]
      refine iteF ?_
      refine ⟨.ref p, rfl, p, _, 1, .int i, rfl, rfl, SqL.of upd_same, rfl, .ref p, rfl, p, _, 0, .ref q, rfl, rfl, SqL.of upd_same, rfl, q, ns.map V.int, rfl, .inl (SqL.of (eqq _)), (i : Int), _, rfl, rfl, _, rfl, ?_⟩
      rw [lm, decide_eq_false hi]
      refine iteF ?_
      -- deck[3] = deck[3] + 1
      refine ⟨.ref p, rfl, p, _, 3, .int c, rfl, rfl, SqL.of upd_same, rfl, (c : Int), 1, rfl, rfl, .ref p, rfl, p, _, 3, 3, rfl, rfl, upd_same, rfl, ?_⟩
      rw [upd_upd]
      have bz : Builtin.Int.intBits z ≤ 64 := intBits_le_64 (by omega) (by omega)
      refine ⟨.ref p, rfl, p, _, 2, .int z, rfl, rfl, SqL.of upd_same, rfl, z, 3, rfl, rfl, ⟨by decide, by omega⟩, .ref p, rfl, p, _, 2, .int z, rfl, rfl, SqL.of upd_same, rfl, 69997, z, rfl, rfl, .inl ⟨by decide, by decide⟩, _, _, rfl, rfl,
        .ref p, rfl, p, _, 3, .int (c + 1), rfl, rfl, SqL.of upd_same, rfl, 1009, (c : Int) + 1, rfl, rfl, .inl ⟨by decide, by decide⟩, _, _, rfl, rfl, _, _, rfl, rfl, ?_⟩
      refine ⟨.int _, rfl, .inl ⟨_, rfl, _, 2147483647, rfl, rfl, by show (0 : Int) < 2147483647; decide, .ref p, rfl, p, _, 2, 2, rfl, rfl, upd_same, rfl, ?_⟩⟩
      rw [upd_upd]
      obtain ⟨z', hz'⟩ : ∃ z' : Int, z' = (z ^ (3 : Int).toNat + 69997 * z + 1009 * ((c : Int) + 1) + 5) % 2147483647 := ⟨_, rfl⟩
      have z0' : 0 ≤ z' := by rw [hz']; exact Int.emod_nonneg _ (by decide)
      have z1' : z' < 2147483647 := by rw [hz']; exact Int.emod_lt_of_pos _ (by decide)
      refine at_list (H := H) (p := p) (ys := [.ref q, .int (i : Int), .int z', .int ((c : Int) + 1)]) (by rw [hz']; rfl) ?_
      refine ⟨.ref p, rfl, p, _, 2, .int z', rfl, rfl, SqL.of upd_same, rfl, .ref p, rfl, p, _, 2, .int z', rfl, rfl, SqL.of upd_same, rfl, z', z', rfl, rfl, .inl ⟨by omega, by omega⟩, .ref p, rfl, p, _, 2, .int z', rfl, rfl, SqL.of upd_same, rfl, z', 7919, rfl, rfl, ⟨by decide, by decide⟩, _, _, rfl, rfl, .inl ⟨_, rfl, _, 31, rfl, rfl, ⟨by decide, by decide⟩, .int w, rfl, _, w, rfl, rfl, hw0, ?_⟩⟩
      refine hq _ _ (Int.emod_nonneg _ (by omega)) (Int.emod_lt_of_pos _ hw0) ⟨ns, i, c + 1, z', ?_, ?_, hn, hl, z0', z1'⟩ ?_
      · rw [upd_same]
        rfl
      · rw [upd_ne npq.symm]
        exact hc
      · intro b b1 b2
        rw [upd_ne b1]
end
end Kw

set_option Elab.async false
set_option linter.all false
set_option maxRecDepth 100000
namespace Kw
open PySem PySem.Spec PyProof.Rows L2
abbrev s_law_deed : Stmt := topS 37
theorem sc_law_deed : FnScope ["deck", "counts", "k", "some", "number", "way"] ["deck", "counts"] (defScope s_law_deed) := ⟨rfl, rfl, rfl, by decide +kernel, rfl, by decide +kernel, by decide +kernel⟩

local macro_rules | `(tactic| walk_at "ev") => `(tactic| first
  | refine wp_var rfl ?_
  | refine wp_int ?_
  | refine wp_str ?_
  | refine wp_bl ?_
  | refine wp_non ?_
  | refine wl_nil ?_
  | refine wl_cons ?_
  | refine wp_tup ?_
  | refine wp_lst ?_
  | refine wp_ix ?_
  | refine wp_I0 ?_
  | refine wp_I ?_
  | refine wp_IB ?_
  | refine wp_neg ?_
  | refine wp_len rfl ?_
  | refine wt_test (wp_IB ?_)
  | refine wt_eqI ?_
  | refine wt_val ?_
  | refine ⟨_, _, rfl, rfl, ?_⟩
  | refine ⟨_, _, _, .inr rfl, rfl, rfl, ?_⟩
  | refine ⟨_, _, _, .inl rfl, rfl, rfl, ?_⟩
  | refine ⟨_, .inl rfl, ?_⟩
  | refine ⟨_, .inr rfl, ?_⟩
  | refine ⟨_, rfl, ?_⟩)
structure TG (mg : Str → Option Value) : Prop extends TB mg where
  n_range : mg "range" = none
  n_tuple : mg "tuple" = none
  n_sum : mg "sum" = none
  n_list : mg "list" = none
  n_all : mg "all" = none
  n_isinstance : mg "isinstance" = none
  n_bool : mg "bool" = none
  n_str : mg "str" = none
  n_repr : mg "repr" = none
  n_enumerate : mg "enumerate" = none
def Things.get (t : Things) : Nat → Nat
  | 0 => t.cs
  | 1 => t.fs
  | 2 => t.ss
  | 3 => t.rs
  | _ => 0
theorem Things.at (t : Things) {i : Nat} (h : i < 4) : atI t.l (i : Int) = some (.int (t.get i)) := by
  refine atI_nat ?_
  match i, h with
  | 0, _ => rfl
  | 1, _ => rfl
  | 2, _ => rfl
  | 3, _ => rfl
  | n + 4, h => exact absurd h (by omega)
def Things.some (t : Things) (n : Nat) : List Nat := (List.range n).filter fun j => decide (0 < t.get j)
def natsD (l : List Nat) : List D := l.map fun (n : Nat) => .int (n : Int)
theorem some_next (t : Things) (n : Nat) : t.some (n + 1) = if 0 < t.get n then t.some n ++ [n] else t.some n := by
  unfold Things.some
  rw [List.range_succ, List.filter_append]
  by_cases h : 0 < t.get n
  · rw [if_pos h]
    simp [h]
  · rw [if_neg h]
    simp [h]
theorem some_mem {t : Things} {n k : Nat} (h : k ∈ t.some n) : k < n ∧ 0 < t.get k := by
  unfold Things.some at h
  rw [List.mem_filter, List.mem_range] at h
  exact ⟨h.1, of_decide_eq_true h.2⟩
theorem some_len (t : Things) (n : Nat) : (t.some n).length ≤ n := by
  unfold Things.some
  have := List.length_filter_le (fun j => decide (0 < t.get j)) (List.range n)
  rw [List.length_range] at this
  exact this
theorem some_pos {t : Things} (h : 0 < t.cs + t.fs + t.ss + t.rs) : 0 < (t.some 4).length := by
  rcases (show 0 < t.cs ∨ 0 < t.fs ∨ 0 < t.ss ∨ 0 < t.rs by omega) with h | h | h | h
  · exact List.length_pos_of_mem (a := 0) (by unfold Things.some; rw [List.mem_filter]; exact ⟨by simp, decide_eq_true h⟩)
  · exact List.length_pos_of_mem (a := 1) (by unfold Things.some; rw [List.mem_filter]; exact ⟨by simp, decide_eq_true h⟩)
  · exact List.length_pos_of_mem (a := 2) (by unfold Things.some; rw [List.mem_filter]; exact ⟨by simp, decide_eq_true h⟩)
  · exact List.length_pos_of_mem (a := 3) (by unfold Things.some; rw [List.mem_filter]; exact ⟨by simp, decide_eq_true h⟩)
theorem nats_at {l : List Nat} {r : Nat} (h : r < l.length) : atI (natsD l) (r : Int) = .some (.int (l[r] : Nat)) := by
  refine atI_nat ?_
  unfold natsD
  rw [List.getElem?_map, List.getElem?_eq_getElem h]
  rfl
section
variable {P : Program} {w : World} {K : PySem.W.Frag} {mg : Str → Option Value} {base : Heap}
def preDeed : List D → (D → Prop) → Prop := fun ds G => ∃ t : Things, ds = [.list t.l] ∧ 0 < t.cs + t.fs + t.ss + t.rs ∧ t.ok ∧ ∀ x : Deed, x.ok t → G x.d
theorem ok__law_deed {f f1 : Addr} {fd fd1 : FuncData} {k : Nat} (F : Fun K "_law_deed" "_law_deed" s_law_deed f fd) (F_law_take : Fun K "_law_take" "_law_take" s_law_take f1 fd1) (B_law_take : Binds K fd1 ["deck", "wide"] []) (g_law_take : mg "_law_take" = some (.ref f1)) (T : TG mg)
    (G_law_take : FnOk P w K mg base CX0 k f1 fd1 ["deck", "wide"] (spK K preTake)) : FnOk P w K mg base CX0 (k + 1) f fd ["deck", "counts"] (spK K preDeed) := by
  refine fn_deck F sc_law_deed (fun ds G h => ?_) (fun cdv A outer s H E hr => ?_)
  · obtain ⟨t, rfl, _⟩ := h
    rfl
  refine ⟨_, (pss_cons (ps_setLc (i := 3) (own := [("k", 2)]) (g := (gName 2)) (by rfl) sc_law_deed.nd rfl rfl (sw_true rfl rfl rfl (by decide +kernel)) (pi_range1 (by rfl) T.n_range (pa_cons pe_int pa_nil)) (blkOk_by (own := [("k", 2)]) (N := ["deck", "counts", "k", "some", "number", "way"]) (sc := defScope s_law_deed) (by decide +kernel)) (fun _ _ _ _ _ => (pg_name (i := 2) sc_law_deed.nd rfl (Or.inl rfl))) (fun _ _ _ _ _ => (pts_one (pt_cmpR op_gt (pe_ix (ixK (K := K) rfl) (pv 1) (pv 2) (fun _ _ => rfl)) pe_int (nomark _)))) (fun _ _ _ _ _ => (pv 2)))
      (pss_cons (ps_set (i := 2) sc_law_deed.nd rfl (.inl rfl) (pe_ix (ixK (K := K) rfl) (pv 3) (pe_call G_law_take hr (by rfl) g_law_take F_law_take.kp B_law_take .nil pass0 (pa_cons (pv 0) (pa_cons (pe_callB (lenK (K := K) rfl) (by rfl) T.n_len (by decide +kernel) (pa_cons (pv 3) pa_nil)) pa_nil))) (fun _ _ => rfl)))
      (pss_cons (ps_par (i := 4) (j := 5) (by rfl) sc_law_deed.nd rfl rfl (by decide) rfl rfl (pa_cons (pe_call G_law_take hr (by rfl) g_law_take F_law_take.kp B_law_take .nil pass0 (pa_cons (pv 0) (pa_cons (pe_ix (ixK (K := K) rfl) (pv 1) (pv 2) (fun _ _ => rfl)) pa_nil))) (pa_cons (pe_call G_law_take hr (by rfl) g_law_take F_law_take.kp B_law_take .nil pass0 (pa_cons (pv 0) (pa_cons pe_int pa_nil))) pa_nil)) (by rfl))
      (pss_cons (ps_if (pt_cmpR op_eq (pv 2) pe_int (nomark _)) (pss_one (ps_ret (pe_tup (pa_cons pe_str (pa_cons (pv 4) (pa_cons (pe_ix (ixK (K := K) rfl) (pe_lst (pa_cons pe_int (pa_cons (pe_un un_neg pe_int) (pa_cons pe_int (pa_cons (pe_un un_neg pe_int) pa_nil))))) (pv 5) (fun _ _ => rfl)) pa_nil)))))) pss_nil)
      (pss_cons (ps_if (pt_cmpR op_eq (pv 2) pe_int (nomark _)) (pss_one (ps_ret (pe_tup (pa_cons pe_str (pa_cons (pv 4) (pa_cons (pe_cmpR op_gt (pv 5) pe_int (nomark _)) pa_nil)))))) pss_nil)
      (pss_one (ps_ret (pe_tup (pa_cons (pe_ix (ixK (K := K) rfl) (pe_ix (ixK (K := K) rfl) (pe_lst (pa_cons (pe_lst (pa_cons pe_str (pa_cons pe_str pa_nil))) (pa_cons (pe_lst (pa_cons pe_str (pa_cons pe_str pa_nil))) pa_nil))) (pe_op op_sub (pv 2) pe_int) (fun _ _ => rfl)) (pe_op op_fdiv (pv 5) pe_int) (fun _ _ => rfl)) (pa_cons (pv 4) pa_nil)))))))))), fun p q Z ds G h => ?_⟩
  obtain ⟨t, rfl, h0, ⟨tc, tf, ts, tr⟩, hG⟩ := h
  show SE _ _ _ [.raw (.ref p), .dat (.list t.l), .no, .no, .no, .no] _
  refine s_seq (s_asg (wp_new (wn_lcR bw1 (wl_cons (wp_int (wl_nil ⟨4, rfl, by decide, fun i rs => rs = natsD (t.some i), rfl, fun pp i rs hi hI => ⟨_, rfl, ?_⟩, fun rs hI => ?_⟩))))))
  · refine wt_test (wp_IB (wp_ix (wp_var rfl (wp_var rfl ⟨t.l, i, _, .inl rfl, rfl, t.at hi, wp_int ⟨_, _, rfl, rfl, _, rfl, fun c => wp_var rfl ?_, fun c => ?_⟩⟩))))
    · have c' : 0 < t.get i := by have := of_decide_eq_true c; omega
      show _ = natsD (t.some (i + 1))
      rw [hI, some_next, if_pos c']
      unfold natsD
      rw [List.map_append]
      rfl
    · have c' : ¬ 0 < t.get i := by have := of_decide_eq_false c; omega
      show _ = natsD (t.some (i + 1))
      rw [hI, some_next, if_neg c']
  · subst hI
    have hp := some_pos h0
    have hl := some_len t 4
    refine s_seq (s_asg (wp_ix (wp_var rfl (wp_callKS rfl (wl_cons (wp_len rfl (wp_var rfl ⟨_, .inl rfl, wl_nil ⟨(t.some 4).length, by unfold natsD; rw [List.length_map], hp, by omega, fun r hr => ⟨rfl, _, (r : Int), _, .inl rfl, rfl, nats_at hr, ?_⟩⟩⟩)))))))
    obtain ⟨kk, ek⟩ : ∃ kk, (t.some 4)[r] = kk := ⟨_, rfl⟩
    obtain ⟨k4, kp⟩ := some_mem (List.getElem_mem hr)
    rw [ek] at k4 kp ⊢
    have kb : t.get kk ≤ 4 := by
      match kk, k4 with
      | 0, _ => show t.cs ≤ 4; omega
      | 1, _ => show t.fs ≤ 4; omega
      | 2, _ => show t.ss ≤ 4; omega
      | 3, _ => show t.rs ≤ 4; omega
      | n + 4, h => exact absurd h (by omega)
    refine s_seq (s_par (wl_cons (wp_callKS rfl (wl_cons (wp_ix (wp_var rfl (wp_var rfl ⟨t.l, kk, _, .inl rfl, rfl, t.at k4, wl_nil ⟨t.get kk, rfl, kp, by omega, fun nn hnn => ⟨rfl, ?_⟩⟩⟩)))))))
    refine wl_cons (wp_callKS rfl (wl_cons (wp_int (wl_nil ⟨4, rfl, by decide, by decide, fun way hw => ⟨rfl, wl_nil ⟨_, _, rfl, ?_⟩⟩⟩))))
    refine s_seq (s_if (wt_eqI (wp_var rfl (wp_int ⟨_, _, rfl, rfl, fun c => ?_, fun c => ?_⟩))))
    · have e : kk = 0 := by have := of_decide_eq_true c; omega
      subst e
      obtain ⟨v, hv, v0, v1, v2⟩ : ∃ v : Int, atI [PyData.int 1, .int (-1), .int 2, .int (-2)] (way : Int) = .some (.int v) ∧ -2 ≤ v ∧ v ≤ 2 ∧ v ≠ 0 := by
        match way, hw with
        | 0, _ => exact ⟨1, rfl, by decide, by decide, by decide⟩
        | 1, _ => exact ⟨-1, rfl, by decide, by decide, by decide⟩
        | 2, _ => exact ⟨2, rfl, by decide, by decide, by decide⟩
        | 3, _ => exact ⟨-2, rfl, by decide, by decide, by decide⟩
        | n + 4, h => exact absurd h (by omega)
      refine s_ret (wp_tup (wl_cons (wp_str (wl_cons (wp_var rfl (wl_cons ?_))))))
      refine wp_ix (wp_lst (wl_cons (wp_int (wl_cons ?_))))
      refine wp_neg (wp_int ⟨_, rfl, ?_⟩)
      refine wl_cons (wp_int (wl_cons (wp_neg (wp_int ⟨_, rfl, ?_⟩))))
      refine wl_nil ⟨by show 4 ≤ 1000; decide, ?_⟩
      exact wp_var rfl ⟨_, _, _, .inl rfl, rfl, hv, wl_nil ⟨by show 3 ≤ 1000; decide, hG (.add nn v) ⟨hnn, v0, v1, v2⟩⟩⟩
    · refine s_next ?_
      refine s_seq (s_if (wt_eqI (wp_var rfl (wp_int ⟨_, _, rfl, rfl, fun c1 => ?_, fun c1 => ?_⟩))))
      · have e : kk = 1 := by have := of_decide_eq_true c1; omega
        subst e
        exact s_ret (wp_tup (wl_cons (wp_str (wl_cons (wp_var rfl (wl_cons (wp_IB (wp_var rfl (wp_int ⟨_, _, rfl, rfl, wl_nil ⟨by show 3 ≤ 1000; decide, hG (.flag nn _) hnn⟩⟩)))))))))
      · refine s_next ?_
        have hk : kk = 2 ∨ kk = 3 := by
          have e0 := of_decide_eq_false c
          have e1 := of_decide_eq_false c1
          omega
        obtain ⟨wd, x, hx1, hx2, hxd, hxo⟩ : ∃ (l : List D) (wd : Str) , atI [PyData.list [.str "take", .str "drop"], .list [.str "enter", .str "leave"]] ((kk : Int) - 2) = .some (.list l) ∧ atI l ((way : Int) / 2) = .some (.str wd) ∧ (∃ x : Deed, x.d = .tuple [.str wd, .int nn] ∧ x.ok t) ∧ True := by
          have hw2 : (way : Int) / 2 = 0 ∨ (way : Int) / 2 = 1 := by omega
          rcases hk with rfl | rfl
          · rcases hw2 with e | e
            · exact ⟨_, "take", rfl, by rw [e]; rfl, ⟨.take nn, rfl, hnn⟩, True.intro⟩
            · exact ⟨_, "drop", rfl, by rw [e]; rfl, ⟨.drop nn, rfl, hnn⟩, True.intro⟩
          · rcases hw2 with e | e
            · exact ⟨_, "enter", rfl, by rw [e]; rfl, ⟨.enter nn, rfl, hnn⟩, True.intro⟩
            · exact ⟨_, "leave", rfl, by rw [e]; rfl, ⟨.leave nn, rfl, hnn⟩, True.intro⟩
        obtain ⟨y, hy, hyo⟩ := hxd
        refine s_ret (wp_tup (wl_cons ?_))
        refine wp_ix (wp_ix (wp_lst (wl_cons ?_)))
        refine wp_lst (wl_cons (wp_str (wl_cons (wp_str (wl_nil ⟨by show 2 ≤ 1000; decide, ?_⟩)))))
        refine wl_cons (wp_lst (wl_cons (wp_str (wl_cons (wp_str (wl_nil ⟨by show 2 ≤ 1000; decide, ?_⟩))))))
        refine wl_nil ⟨by show 2 ≤ 1000; decide, ?_⟩
        refine wp_I0 (wp_var rfl (wp_int ⟨_, _, rfl, rfl, _, _, _, .inl rfl, rfl, hx1, ?_⟩))
        refine wp_I (wp_var rfl (wp_int ⟨_, _, rfl, rfl, ⟨by decide, by decide⟩, _, _, _, .inl rfl, rfl, hx2, ?_⟩))
        refine wl_cons (wp_var rfl (wl_nil ⟨by show 2 ≤ 1000; decide, ?_⟩))
        rw [← hy]
        exact hG y hyo
end
end Kw

set_option Elab.async false
set_option linter.all false
set_option maxRecDepth 100000
namespace Kw
open PySem PySem.Spec PyProof.Rows L2
local macro_rules | `(tactic| walk_at "ev") => `(tactic| first
  | refine wp_var rfl ?_
  | refine wp_int ?_
  | refine wp_str ?_
  | refine wp_bl ?_
  | refine wp_non ?_
  | refine wl_nil ?_
  | refine wl_cons ?_
  | refine wp_tup ?_
  | refine wp_lst ?_
  | refine wp_ix ?_
  | refine wp_I0 ?_
  | refine wp_I ?_
  | refine wp_IB ?_
  | refine wp_neg ?_
  | refine wp_len rfl ?_
  | refine wt_test (wp_IB ?_)
  | refine wt_eqI ?_
  | refine wt_val ?_
  | refine ⟨_, _, rfl, rfl, ?_⟩
  | refine ⟨_, _, _, .inr rfl, rfl, rfl, ?_⟩
  | refine ⟨_, _, _, .inl rfl, rfl, rfl, ?_⟩
  | refine ⟨_, .inl rfl, ?_⟩
  | refine ⟨_, .inr rfl, ?_⟩
  | refine ⟨_, rfl, ?_⟩)
abbrev s_law_step : Stmt := topS 38
theorem sc_law_step : FnScope ["deck", "counts", "places", "first", "second", "many", "turn"] ["deck", "counts", "places"] (defScope s_law_step) := ⟨rfl, rfl, rfl, by decide +kernel, rfl, by decide +kernel, by decide +kernel⟩

abbrev s_law_kind : Stmt := topS 39
theorem sc_law_kind : FnScope ["deck", "counts", "most", "long", "places", "marked", "many", "at", "turn"] ["deck", "counts", "most", "long"] (defScope s_law_kind) := ⟨rfl, rfl, rfl, by decide +kernel, rfl, by decide +kernel, by decide +kernel⟩

abbrev s_law_house : Stmt := topS 40
theorem sc_law_house : FnScope ["deck", "wide", "most", "long", "counts", "kinds_here", "bound", "turn"] ["deck", "wide", "most", "long"] (defScope s_law_house) := ⟨rfl, rfl, rfl, by decide +kernel, rfl, by decide +kernel, by decide +kernel⟩

section
variable {P : Program} {w : World} {K : PySem.W.Frag} {mg : Str → Option Value} {base : Heap}
theorem Things.ints (t : Things) : PyData.list t.l = .list ([(t.cs : Int), t.fs, t.ss, t.rs].map .int) := rfl
def preStep : List D → (D → Prop) → Prop := fun ds G => ∃ (t : Things) (n : Nat), ds = [.list t.l, .int n] ∧ 2 ≤ n ∧ n ≤ 6 ∧ t.ok ∧ ∀ x : Stp, x.ok t n → G x.d
theorem ok__law_step {f f1 f2 : Addr} {fd fd1 fd2 : FuncData} {k : Nat} (F : Fun K "_law_step" "_law_step" s_law_step f fd) (F_law_take : Fun K "_law_take" "_law_take" s_law_take f1 fd1) (B_law_take : Binds K fd1 ["deck", "wide"] []) (g_law_take : mg "_law_take" = some (.ref f1))
    (F_law_deed : Fun K "_law_deed" "_law_deed" s_law_deed f2 fd2) (B_law_deed : Binds K fd2 ["deck", "counts"] []) (g_law_deed : mg "_law_deed" = some (.ref f2)) (T : TG mg)
    (G_law_take : FnOk P w K mg base CX0 k f1 fd1 ["deck", "wide"] (spK K preTake)) (G_law_deed : FnOk P w K mg base CX0 k f2 fd2 ["deck", "counts"] (spK K preDeed)) : FnOk P w K mg base CX0 (k + 1) f fd ["deck", "counts", "places"] (spK K preStep) := by
  refine fn_deck F sc_law_step (fun ds G h => ?_) (fun cdv A outer s H E hr => ?_)
  · obtain ⟨t, n, rfl, _⟩ := h
    rfl
  refine ⟨_, (pss_cons (ps_set (i := 3) sc_law_step.nd rfl (.inl rfl) (pe_call G_law_take hr (by rfl) g_law_take F_law_take.kp B_law_take .nil pass0 (pa_cons (pv 0) (pa_cons (pe_op op_sub (pv 2) pe_int) pa_nil))))
      (pss_cons (ps_set (i := 4) sc_law_step.nd rfl (.inl rfl) (pe_op op_add (pe_op op_add (pv 3) pe_int) (pe_call G_law_take hr (by rfl) g_law_take F_law_take.kp B_law_take .nil pass0 (pa_cons (pv 0) (pa_cons (pe_op op_sub (pe_op op_sub (pv 2) pe_int) (pv 3)) pa_nil)))))
      (pss_cons (ps_set (i := 5) sc_law_step.nd rfl (.inl rfl) (pe_ifExp (pt_cmpR op_gt (pe_callB (sumK (K := K) rfl rfl) (by rfl) T.n_sum (by decide +kernel) (pa_cons (pv 1) pa_nil)) pe_int (nomark _)) (pe_call G_law_take hr (by rfl) g_law_take F_law_take.kp B_law_take .nil pass0 (pa_cons (pv 0) (pa_cons pe_int pa_nil))) pe_int))
      (pss_one (ps_ret (pe_tup (pa_cons (pv 3) (pa_cons (pv 4) (pa_cons (pe_callTy (tupK (K := K) rfl) (by rfl) T.n_tuple (by decide +kernel) (pa_cons (pe_lc (own := [("turn", 6)]) (g := (gName 6)) rfl sc_law_step.nd (pi_range1 (by rfl) T.n_range (pa_cons (pv 5) pa_nil)) (blkOk_by (own := [("turn", 6)]) (N := ["deck", "counts", "places", "first", "second", "many", "turn"]) (sc := defScope s_law_step) (by decide +kernel)) (fun _ _ _ _ _ => (pg_name (i := 6) sc_law_step.nd rfl (Or.inl rfl))) (fun _ _ _ _ _ => pts_nil) (fun _ _ _ _ _ => (pe_call G_law_deed hr (by rfl) g_law_deed F_law_deed.kp B_law_deed .nil pass0 (pa_cons (pv 0) (pa_cons (pv 1) pa_nil))))) pa_nil)) pa_nil))))))))), fun p q Z ds G h => ?_⟩
  obtain ⟨t, n, rfl, n2, n6, tok, hG⟩ := h
  show SE _ _ _ [.raw (.ref p), .dat (.list t.l), .dat (.int n), .no, .no, .no, .no] _
  refine s_seq (s_asg (wp_callKS rfl ?_))
  repeat walk_at "ev"
  refine ⟨n - 1, by rw [show ((n : Int) - 1) = ((n - 1 : Nat) : Int) by omega], by omega, by omega, fun a ha => ⟨rfl, ?_⟩⟩
  refine s_seq (s_asg ?_)
  repeat walk_at "ev"
  refine wp_callKS rfl ?_
  repeat walk_at "ev"
  refine ⟨n - 1 - a, by rw [show ((n : Int) - 1 - a) = ((n - 1 - a : Nat) : Int) by omega], by omega, by omega, fun c hc => ⟨rfl, ?_⟩⟩
  repeat walk_at "ev"
  refine s_seq (s_asg (wp_if ?_))
  refine wt_test (wp_IB (wp_sum (wp_var rfl ⟨_, t.ints, wp_int ⟨_, _, rfl, rfl, _, rfl, ?_⟩⟩)))
  -- many
  have key : ∀ m : Nat, m ≤ 3 → (m = 0 ∨ 0 < t.cs + t.fs + t.ss + t.rs) → SE ⟨WK p q, K, Z, H, []⟩ (tRet (tTup (tCons (tVar 3) (tCons (tVar 4) (tCons (tCB (rTupOf K) (tCons (tLc (iRng1 (tCons (tVar 5) tNil)) (gName 6) tYes (tCall (spK K preDeed) [] E0 (tCons (tVar 0) (tCons (tVar 1) tNil))) [6]) tNil)) tNil))))) Z
      [.raw (.ref p), .dat (.list t.l), .dat (.int n), .dat (.int a), .dat (.int (a + 1 + c)), .dat (.int m), .no] { rt := G, nx := fun _ _ => G .none } := by
    intro m hm h0
    refine s_ret ?_
    repeat walk_at "ev"
    refine wp_tupof rfl (wp_new (wn_lcR bw1 ?_))
    repeat walk_at "ev"
    refine ⟨by omega, fun i rs => ∃ xs : List Deed, rs = xs.map Deed.d ∧ xs.length = i ∧ ∀ x ∈ xs, x.ok t, ⟨[], rfl, rfl, by simp⟩, fun pp i rs hi hI => ⟨_, rfl, ?_⟩, fun rs hI => ?_⟩
    · obtain ⟨xs, rfl, hl, hx⟩ := hI
      refine wt_yes ⟨fun _ => ?_, fun h => by cases h⟩
      refine wp_callK rfl ?_
      repeat walk_at "ev"
      refine ⟨by omega, tok, fun x hx' => ⟨xs ++ [x], by rw [List.map_append]; rfl, by rw [List.length_append, hl]; rfl, fun y hy => ?_⟩⟩
      rcases List.mem_append.mp hy with hy | hy
      · exact hx y hy
      · rw [List.mem_singleton.mp hy]
        exact hx'
    · obtain ⟨xs, rfl, hl, hx⟩ := hI
      refine ⟨_, rfl, wl_nil ⟨by show 3 ≤ 1000; decide, ?_⟩⟩
      exact hG ⟨a, a + 1 + c, xs⟩ ⟨by show a < a + 1 + c; omega, by show a + 1 + c < n; omega, hx, by show xs.length ≤ 3; omega⟩
  refine ⟨fun c1 => wp_callKS rfl ?_, fun c1 => ?_⟩
  · repeat walk_at "ev"
    refine ⟨by decide, by decide, fun m hm => ⟨rfl, key m (Nat.lt_succ_iff.mp (show m < 4 from hm)) ?_⟩⟩
    have := of_decide_eq_true c1
    simp at this
    omega
  · repeat walk_at "ev"
    exact key 0 (by omega) (.inl rfl)
def preKind : List D → (D → Prop) → Prop := fun ds G => ∃ (t : Things) (most long : Nat), ds = [.list t.l, .int most, .int long] ∧ 1 ≤ most ∧ most ≤ 6 ∧ long ≤ 10 ∧ t.ok ∧ ∀ x : Knd, x.ok t → x.places ≤ most → x.steps.length ≤ long → G x.d
theorem ok__law_kind {f f1 f2 : Addr} {fd fd1 fd2 : FuncData} {k : Nat} (F : Fun K "_law_kind" "_law_kind" s_law_kind f fd) (F_law_take : Fun K "_law_take" "_law_take" s_law_take f1 fd1) (B_law_take : Binds K fd1 ["deck", "wide"] []) (g_law_take : mg "_law_take" = some (.ref f1))
    (F_law_step : Fun K "_law_step" "_law_step" s_law_step f2 fd2) (B_law_step : Binds K fd2 ["deck", "counts", "places"] []) (g_law_step : mg "_law_step" = some (.ref f2)) (T : TG mg)
    (G_law_take : FnOk P w K mg base CX0 k f1 fd1 ["deck", "wide"] (spK K preTake)) (G_law_step : FnOk P w K mg base CX0 k f2 fd2 ["deck", "counts", "places"] (spK K preStep)) : FnOk P w K mg base CX0 (k + 1) f fd ["deck", "counts", "most", "long"] (spK K preKind) := by
  refine fn_deck F sc_law_kind (fun ds G h => ?_) (fun cdv A outer s H E hr => ?_)
  · obtain ⟨t, n, l, rfl, _⟩ := h
    rfl
  refine ⟨_, (pss_cons (ps_set (i := 4) sc_law_kind.nd rfl (.inr rfl) (pe_op op_add pe_int (pe_call G_law_take hr (by rfl) g_law_take F_law_take.kp B_law_take .nil pass0 (pa_cons (pv 0) (pa_cons (pv 2) pa_nil)))))
      (pss_cons (ps_set (i := 5) sc_law_kind.nd rfl (.inl rfl) (pe_callTy (tupK (K := K) rfl) (by rfl) T.n_tuple (by decide +kernel) (pa_cons (pe_lc (own := [("at", 7)]) (g := (gName 7)) rfl sc_law_kind.nd (pi_range1 (by rfl) T.n_range (pa_cons (pv 4) pa_nil)) (blkOk_by (own := [("at", 7)]) (N := ["deck", "counts", "most", "long", "places", "marked", "many", "at", "turn"]) (sc := defScope s_law_kind) (by decide +kernel)) (fun _ _ _ _ _ => (pg_name (i := 7) sc_law_kind.nd rfl (Or.inl rfl))) (fun _ _ _ _ _ => (pts_one (pt_cmpR op_eq (pe_call G_law_take hr (by rfl) g_law_take F_law_take.kp B_law_take .nil pass0 (pa_cons (pv 0) (pa_cons pe_int pa_nil))) pe_int (nomark _)))) (fun _ _ _ _ _ => (pv 7))) pa_nil)))
      (pss_cons (ps_set (i := 6) sc_law_kind.nd rfl (.inl rfl) (pe_ifExp (pt_cmpR op_gt (pv 4) pe_int (nomark _)) (pe_call G_law_take hr (by rfl) g_law_take F_law_take.kp B_law_take .nil pass0 (pa_cons (pv 0) (pa_cons (pe_op op_add (pv 3) pe_int) pa_nil))) pe_int))
      (pss_one (ps_ret (pe_tup (pa_cons (pv 4) (pa_cons (pv 5) (pa_cons (pe_callTy (tupK (K := K) rfl) (by rfl) T.n_tuple (by decide +kernel) (pa_cons (pe_lc (own := [("turn", 8)]) (g := (gName 8)) rfl sc_law_kind.nd (pi_range1 (by rfl) T.n_range (pa_cons (pv 6) pa_nil)) (blkOk_by (own := [("turn", 8)]) (N := ["deck", "counts", "most", "long", "places", "marked", "many", "at", "turn"]) (sc := defScope s_law_kind) (by decide +kernel)) (fun _ _ _ _ _ => (pg_name (i := 8) sc_law_kind.nd rfl (Or.inl rfl))) (fun _ _ _ _ _ => pts_nil) (fun _ _ _ _ _ => (pe_call G_law_step hr (by rfl) g_law_step F_law_step.kp B_law_step .nil pass0 (pa_cons (pv 0) (pa_cons (pv 1) (pa_cons (pv 4) pa_nil)))))) pa_nil)) pa_nil))))))))), fun p q Z ds G h => ?_⟩
  obtain ⟨t, most, long, rfl, m1, m6, l10, tok, hG⟩ := h
  show SE _ _ _ [.raw (.ref p), .dat (.list t.l), .dat (.int most), .dat (.int long), .no, .no, .no, .no, .no] _
  refine s_seq (s_asg ?_)
  repeat walk_at "ev"
  refine wp_callKS rfl ?_
  repeat walk_at "ev"
  refine ⟨by omega, by omega, fun a ha => ⟨rfl, ?_⟩⟩
  repeat walk_at "ev"
  -- marked
  refine s_seq (s_asg (wp_tupof rfl (wp_new (wn_lcR bw1 ?_))))
  repeat walk_at "ev"
  have ea : ((1 : Int) + (a : Int)) = ((1 + a : Nat) : Int) := by omega
  refine ⟨by show 1 + a ≤ 1000; omega, fun i rs => ∃ xs : List Nat, rs = natsD xs ∧ xs.Pairwise (· < ·) ∧ ∀ x ∈ xs, x < i, ⟨[], rfl, .nil, by simp⟩, fun pp i rs hi hI => ⟨_, rfl, ?_⟩, fun rs hI => ?_⟩
  · obtain ⟨xs, rfl, hp, hx⟩ := hI
    refine wt_eqI (wp_callKS rfl ?_)
    repeat walk_at "ev"
    refine ⟨by decide, by decide, fun r hr => ⟨rfl, ?_⟩⟩
    repeat walk_at "ev"
    refine ⟨fun _ => wp_var rfl ⟨xs ++ [i], by unfold natsD; rw [List.map_append]; rfl, ?_, fun y hy => ?_⟩, fun _ => ⟨xs, rfl, hp, fun y hy => Nat.lt_succ_of_lt (hx y hy)⟩⟩
    · refine List.pairwise_append.mpr ⟨hp, by simp, fun y hy z hz => ?_⟩
      rw [List.mem_singleton.mp hz]
      exact hx y hy
    · rcases List.mem_append.mp hy with hy | hy
      · exact Nat.lt_succ_of_lt (hx y hy)
      · rw [List.mem_singleton.mp hy]
        exact Nat.lt_succ_self i
  obtain ⟨ms, rfl, hms, hlt⟩ := hI
  refine ⟨_, rfl, ?_⟩
  refine s_seq (s_asg (wp_if ?_))
  refine wt_test (wp_IB (wp_var rfl (wp_int ⟨_, _, rfl, rfl, _, rfl, ?_⟩)))
  have key : ∀ m : Nat, m ≤ long → (m = 0 ∨ 2 ≤ 1 + a) → SE ⟨WK p q, K, Z, H, []⟩ (tRet (tTup (tCons (tVar 4) (tCons (tVar 5) (tCons (tCB (rTupOf K) (tCons (tLc (iRng1 (tCons (tVar 6) tNil)) (gName 8) tYes (tCall (spK K preStep) [] E0 (tCons (tVar 0) (tCons (tVar 1) (tCons (tVar 4) tNil)))) [8]) tNil)) tNil))))) Z
      [.raw (.ref p), .dat (.list t.l), .dat (.int most), .dat (.int long), .dat (.int (1 + (a : Int))), .dat (.tuple (natsD ms)), .dat (.int m), .no, .no] { rt := G, nx := fun _ _ => G .none } := by
    intro m hm h0
    refine s_ret ?_
    repeat walk_at "ev"
    refine wp_tupof rfl (wp_new (wn_lcR bw1 ?_))
    repeat walk_at "ev"
    refine ⟨by omega, fun i rs => ∃ xs : List Stp, rs = xs.map Stp.d ∧ xs.length = i ∧ ∀ x ∈ xs, x.ok t (1 + a), ⟨[], rfl, rfl, by simp⟩, fun pp i rs hi hI => ⟨_, rfl, ?_⟩, fun rs hI => ?_⟩
    · obtain ⟨xs, rfl, hl, hx⟩ := hI
      refine wt_yes ⟨fun _ => ?_, fun h => by cases h⟩
      refine wp_callK rfl ?_
      repeat walk_at "ev"
      refine ⟨t, 1 + a, by rw [ea], by omega, by omega, tok, fun x hx' => ⟨xs ++ [x], by rw [List.map_append]; rfl, by rw [List.length_append, hl]; rfl, fun y hy => ?_⟩⟩
      rcases List.mem_append.mp hy with hy | hy
      · exact hx y hy
      · rw [List.mem_singleton.mp hy]
        exact hx'
    · obtain ⟨xs, rfl, hl, hx⟩ := hI
      refine ⟨_, rfl, wl_nil ⟨by show 3 ≤ 1000; decide, ?_⟩⟩
      have g := hG ⟨1 + a, ms, xs⟩ ⟨by show 1 ≤ 1 + a; omega, by show 1 + a ≤ 6; omega, hms, hlt, hx, by show xs.length ≤ 10; omega⟩ (by show 1 + a ≤ most; omega) (by show xs.length ≤ long; omega)
      rw [ea]
      exact g
  refine ⟨fun c1 => wp_callKS rfl ?_, fun c1 => ?_⟩
  · repeat walk_at "ev"
    refine ⟨by show 0 < long + 1; omega, by show long + 1 < 1073741824; omega, fun m hm => ⟨rfl, key m (Nat.lt_succ_iff.mp (show m < long + 1 from hm)) (.inr ?_)⟩⟩
    have := of_decide_eq_true c1
    omega
  · repeat walk_at "ev"
    exact key 0 (by omega) (.inl rfl)
def preHouse : List D → (D → Prop) → Prop := fun ds G => ∃ (wide most long : Nat), ds = [.int wide, .int most, .int long] ∧ 1 ≤ wide ∧ wide ≤ 3 ∧ 1 ≤ most ∧ most ≤ 6 ∧ long ≤ 10 ∧ ∀ x : Hs, x.ok → G x.d
theorem ok__law_house {f f1 f2 : Addr} {fd fd1 fd2 : FuncData} {k : Nat} (F : Fun K "_law_house" "_law_house" s_law_house f fd) (F_law_take : Fun K "_law_take" "_law_take" s_law_take f1 fd1) (B_law_take : Binds K fd1 ["deck", "wide"] []) (g_law_take : mg "_law_take" = some (.ref f1))
    (F_law_kind : Fun K "_law_kind" "_law_kind" s_law_kind f2 fd2) (B_law_kind : Binds K fd2 ["deck", "counts", "most", "long"] []) (g_law_kind : mg "_law_kind" = some (.ref f2)) (T : TG mg)
    (G_law_take : FnOk P w K mg base CX0 k f1 fd1 ["deck", "wide"] (spK K preTake)) (G_law_kind : FnOk P w K mg base CX0 k f2 fd2 ["deck", "counts", "most", "long"] (spK K preKind)) : FnOk P w K mg base CX0 (k + 1) f fd ["deck", "wide", "most", "long"] (spK K preHouse) := by
  refine fn_deck F sc_law_house (fun ds G h => ?_) (fun cdv A outer s H E hr => ?_)
  · obtain ⟨t, n, l, rfl, _⟩ := h
    rfl
  refine ⟨_, (pss_cons (ps_set (i := 4) sc_law_house.nd rfl (.inr rfl) (pe_lc (own := [("bound", 6)]) (g := (gName 6)) rfl sc_law_house.nd (pi_tup (pe_tup (pa_cons pe_int (pa_cons pe_int (pa_cons pe_int (pa_cons pe_int pa_nil)))))) (blkOk_by (own := [("bound", 6)]) (N := ["deck", "wide", "most", "long", "counts", "kinds_here", "bound", "turn"]) (sc := defScope s_law_house) (by decide +kernel)) (fun _ _ _ _ _ => (pg_name (i := 6) sc_law_house.nd rfl (Or.inl rfl))) (fun _ _ _ _ _ => pts_nil) (fun _ _ _ _ _ => (pe_call G_law_take hr (by rfl) g_law_take F_law_take.kp B_law_take .nil pass0 (pa_cons (pv 0) (pa_cons (pe_op op_add (pv 6) pe_int) pa_nil))))))
      (pss_cons (ps_setLc (i := 5) (own := [("turn", 7)]) (g := (gName 7)) (by rfl) sc_law_house.nd rfl rfl (sw_true rfl rfl rfl (by decide +kernel)) (pi_range1 (by rfl) T.n_range (pa_cons (pe_op op_add pe_int (pe_call G_law_take hr (by rfl) g_law_take F_law_take.kp B_law_take .nil pass0 (pa_cons (pv 0) (pa_cons (pv 1) pa_nil)))) pa_nil)) (blkOk_by (own := [("turn", 7)]) (N := ["deck", "wide", "most", "long", "counts", "kinds_here", "bound", "turn"]) (sc := defScope s_law_house) (by decide +kernel)) (fun _ _ _ _ _ => (pg_name (i := 7) sc_law_house.nd rfl (Or.inl rfl))) (fun _ _ _ _ _ => pts_nil) (fun _ _ _ _ _ => (pe_call G_law_kind hr (by rfl) g_law_kind F_law_kind.kp B_law_kind .nil pass0 (pa_cons (pv 0) (pa_cons (pv 4) (pa_cons (pv 2) (pa_cons (pv 3) pa_nil)))))))
      (pss_one (ps_ret (pe_tup (pa_cons (pe_ix (ixK (K := K) rfl) (pv 4) pe_int (fun _ _ => rfl)) (pa_cons (pe_ix (ixK (K := K) rfl) (pv 4) pe_int (fun _ _ => rfl)) (pa_cons (pe_ix (ixK (K := K) rfl) (pv 4) pe_int (fun _ _ => rfl)) (pa_cons (pe_ix (ixK (K := K) rfl) (pv 4) pe_int (fun _ _ => rfl)) (pa_cons (pe_callTy (tupK (K := K) rfl) (by rfl) T.n_tuple (by decide +kernel) (pa_cons (pv 5) pa_nil)) pa_nil)))))))))), fun p q Z ds G h => ?_⟩
  obtain ⟨wide, most, long, rfl, w1, w3, m1, m6, l10, hG⟩ := h
  show SE _ _ _ [.raw (.ref p), .dat (.int wide), .dat (.int most), .dat (.int long), .no, .no, .no, .no] _
  -- counts
  refine s_seq (s_asg (wp_new (wn_lcT bw1 ?_)))
  repeat walk_at "ev"
  refine ⟨by show 4 ≤ 1000; decide, ?_⟩
  refine ⟨_, rfl, by show 4 ≤ 1000; decide, fun i rs => ∃ xs : List Nat, rs = natsD xs ∧ xs.length = i ∧ ∀ j (h : j < xs.length), xs[j] ≤ [2, 4, 3, 2].getD j 0, ⟨[], rfl, rfl, fun j h => absurd h (by simp)⟩, fun pp i x rs hx hI => ⟨_, rfl, ?_⟩, fun rs hI => ?_⟩
  · obtain ⟨xs, rfl, hl, hb⟩ := hI
    refine wt_yes ⟨fun _ => ?_, fun h => by cases h⟩
    obtain ⟨b, rfl, hb4, hbi⟩ : ∃ b : Nat, x = .int b ∧ b ≤ 4 ∧ [2, 4, 3, 2].getD i 0 = b := by
      match i, hx with
      | 0, hx => exact ⟨2, (Option.some.inj hx).symm, by decide, rfl⟩
      | 1, hx => exact ⟨4, (Option.some.inj hx).symm, by decide, rfl⟩
      | 2, hx => exact ⟨3, (Option.some.inj hx).symm, by decide, rfl⟩
      | 3, hx => exact ⟨2, (Option.some.inj hx).symm, by decide, rfl⟩
      | n + 4, hx => exact absurd hx (by simp)
    refine wp_callKS rfl ?_
    repeat walk_at "ev"
    refine ⟨by show 0 < b + 1; omega, by show b + 1 < 1073741824; omega, fun r hr => ⟨rfl, xs ++ [r], by unfold natsD; rw [List.map_append]; rfl, by rw [List.length_append, hl]; rfl, fun j hj => ?_⟩⟩
    have hr' : r < b + 1 := hr
    by_cases hjl : j < xs.length
    · rw [List.getElem_append_left hjl]
      exact hb j hjl
    · have e : j = i := by
        rw [List.length_append] at hj
        simp at hj
        omega
      subst e
      rw [List.getElem_append_right (by omega), hbi]
      simp
      omega
  obtain ⟨xs, rfl, hl, hb⟩ := hI
  obtain ⟨a, b, c, d, rfl⟩ : ∃ a b c d, xs = [a, b, c, d] := by
    match xs, hl with
    | [a, b, c, d], _ => exact ⟨a, b, c, d, rfl⟩
  have tok : Things.ok ⟨a, b, c, d⟩ := ⟨hb 0 (by show 0 < 4; decide), hb 1 (by show 1 < 4; decide), hb 2 (by show 2 < 4; decide), hb 3 (by show 3 < 4; decide)⟩
  -- kinds_here
  refine s_seq (s_asg (wp_new (wn_lcR bw1 ?_)))
  repeat walk_at "ev"
  refine wp_callKS rfl ?_
  repeat walk_at "ev"
  refine ⟨by omega, by omega, fun r hr => ⟨rfl, ?_⟩⟩
  repeat walk_at "ev"
  refine ⟨by show 1 + r ≤ 1000; omega, fun i rs => ∃ xs : List Knd, rs = xs.map Knd.d ∧ xs.length = i ∧ ∀ x ∈ xs, x.ok ⟨a, b, c, d⟩, ⟨[], rfl, rfl, by simp⟩, fun pp i rs hi hI => ⟨_, rfl, ?_⟩, fun rs hI => ?_⟩
  · obtain ⟨xs, rfl, hl, hx⟩ := hI
    refine wt_yes ⟨fun _ => ?_, fun h => by cases h⟩
    refine wp_callK rfl ?_
    repeat walk_at "ev"
    refine ⟨⟨a, b, c, d⟩, most, long, rfl, m1, m6, l10, tok, fun x hx' _ _ => ⟨xs ++ [x], by rw [List.map_append]; rfl, by rw [List.length_append, hl]; rfl, fun y hy => ?_⟩⟩
    rcases List.mem_append.mp hy with hy | hy
    · exact hx y hy
    · rw [List.mem_singleton.mp hy]
      exact hx'
  obtain ⟨ks, rfl, hkl, hks⟩ := hI
  have hkl' : ks.length = 1 + r := hkl
  refine s_ret ?_
  repeat walk_at "ev"
  refine wp_tupof rfl (wp_var rfl ⟨_, rfl, wl_nil ⟨by show 5 ≤ 1000; decide, ?_⟩⟩)
  exact hG ⟨⟨a, b, c, d⟩, ks⟩ ⟨tok, by show 1 ≤ ks.length; omega, by show ks.length ≤ 3; omega, hks⟩
end
end Kw

set_option Elab.async false
set_option linter.all false
set_option maxRecDepth 100000
namespace Kw
open PySem PySem.Spec PyProof.Rows L2
local macro_rules | `(tactic| walk_at "ev") => `(tactic| first
  | refine wp_var rfl ?_
  | refine wp_int ?_
  | refine wp_str ?_
  | refine wp_bl ?_
  | refine wp_non ?_
  | refine wl_nil ?_
  | refine wl_cons ?_
  | refine wp_tup ?_
  | refine wp_lst ?_
  | refine wp_ix ?_
  | refine wp_I0 ?_
  | refine wp_I ?_
  | refine wp_IB ?_
  | refine wp_neg ?_
  | refine wp_len rfl ?_
  | refine wt_test (wp_IB ?_)
  | refine wt_eqI ?_
  | refine wt_val ?_
  | refine ⟨_, _, rfl, rfl, ?_⟩
  | refine ⟨_, _, _, .inr rfl, rfl, rfl, ?_⟩
  | refine ⟨_, _, _, .inl rfl, rfl, rfl, ?_⟩
  | refine ⟨_, .inl rfl, ?_⟩
  | refine ⟨_, .inr rfl, ?_⟩
  | refine ⟨_, rfl, ?_⟩)
abbrev s_law_next : Stmt := topS 41
theorem sc_law_next : FnScope ["home", "works_here", "kind_here", "found", "work_here", "place_here", "rows", "at"] ["home", "works_here"] (defScope s_law_next) := ⟨rfl, rfl, rfl, by decide +kernel, rfl, by decide +kernel, by decide +kernel⟩

abbrev s_law_moved : Stmt := topS 42
theorem sc_law_moved : FnScope ["home", "works_here", "event", "kind_here", "second"] ["home", "works_here", "event"] (defScope s_law_moved) := ⟨rfl, rfl, rfl, by decide +kernel, rfl, by decide +kernel, by decide +kernel⟩

abbrev s_law_run : Stmt := topS 43
theorem sc_law_run : FnScope ["deck", "home", "long", "found", "works_here", "turn", "some", "event", "goes"] ["deck", "home", "long"] (defScope s_law_run) := ⟨rfl, rfl, rfl, by decide +kernel, rfl, by decide +kernel, by decide +kernel⟩

theorem at_map {α : Type} {l : List α} {g : α → D} {i : Nat} {x : α} (h : l[i]? = .some x) : atI (l.map g) (i : Int) = .some (g x) := by
  refine atI_nat ?_
  rw [List.getElem?_map, h]
  rfl
theorem stepsOf_at {h : Hs} {k : Nat} {x : Knd} (e : h.kinds[k]? = .some x) : stepsOf h k = x.steps := by
  unfold stepsOf
  rw [e]
  rfl
section
variable {P : Program} {w : World} {K : PySem.W.Frag} {mg : Str → Option Value} {base : Heap}
def preNext : List D → (D → Prop) → Prop := fun ds G => ∃ (h : Hs) (ws : List Wk), ds = [h.d, .list (ws.map wkD)] ∧ h.ok ∧ wok h ws ∧ ws.length ≤ 61 ∧ ∀ es : List Ev, (∀ e ∈ es, can h ws e) → 0 < es.length → es.length ≤ 3 + 10 * ws.length → G (.list (es.map Ev.d))
theorem ok__law_next {f : Addr} {fd : FuncData} {k : Nat} (F : Fun K "_law_next" "_law_next" s_law_next f fd) (T : TG mg) : FnOk P w K mg base CX0 (k + 1) f fd ["home", "works_here"] (spD K preNext) := by
  refine fn_data F sc_law_next (fun ds G h => ?_) (fun cdv A outer s H E hr => ?_)
  · obtain ⟨t, n, rfl, _⟩ := h
    rfl
  refine ⟨_, (pss_cons (ps_setLc (i := 3) (own := [("kind_here", 2)]) (g := (gName 2)) (by rfl) sc_law_next.nd rfl rfl (sw_true rfl rfl rfl (by decide +kernel)) (pi_range1 (by rfl) T.n_range (pa_cons (pe_callB (lenK (K := K) rfl) (by rfl) T.n_len (by decide +kernel) (pa_cons (pe_ix (ixK (K := K) rfl) (pv 0) pe_int (fun _ _ => rfl)) pa_nil)) pa_nil)) (blkOk_by (own := [("kind_here", 2)]) (N := ["home", "works_here", "kind_here", "found", "work_here", "place_here", "rows", "at"]) (sc := defScope s_law_next) (by decide +kernel)) (fun _ _ _ _ _ => (pg_name (i := 2) sc_law_next.nd rfl (Or.inl rfl))) (fun _ _ _ _ _ => pts_nil) (fun _ _ _ _ _ => (pe_tup (pa_cons pe_str (pa_cons (pv 2) pa_nil)))))
      (pss_cons (ps_for PassesOwn.never rfl (pi_range1 (by rfl) T.n_range (pa_cons (pe_callB (lenK (K := K) rfl) (by rfl) T.n_len (by decide +kernel) (pa_cons (pv 1) pa_nil)) pa_nil)) (pg_name (i := 4) sc_law_next.nd rfl (.inl rfl)) (pss_cons (ps_asg (pe_ix (ixK (K := K) rfl) (pv 1) (pv 4) (fun _ _ => rfl)) (pg_tup (by rfl) (pgs_cons (pg_name (i := 2) sc_law_next.nd rfl (.inl rfl)) (pgs_cons (pg_name (i := 5) sc_law_next.nd rfl (.inl rfl)) pgs_nil))))
      (pss_cons (ps_set (i := 6) sc_law_next.nd rfl (.inl rfl) (pe_ix (ixK (K := K) rfl) (pe_ix (ixK (K := K) rfl) (pe_ix (ixK (K := K) rfl) (pv 0) pe_int (fun _ _ => rfl)) (pv 2) (fun _ _ => rfl)) pe_int (fun _ _ => rfl)))
      (pss_one (ps_for PassesOwn.never rfl (pi_range1 (by rfl) T.n_range (pa_cons (pe_callB (lenK (K := K) rfl) (by rfl) T.n_len (by decide +kernel) (pa_cons (pv 6) pa_nil)) pa_nil)) (pg_name (i := 7) sc_law_next.nd rfl (.inl rfl)) (pss_one (ps_if (pt_cmpR (eqK (K := K) rfl hr.units) (pe_ix (ixK (K := K) rfl) (pe_ix (ixK (K := K) rfl) (pv 6) (pv 7) (fun _ _ => rfl)) pe_int (fun _ _ => rfl)) (pv 5) (nomark _)) (pss_one (ps_expr (pe_bm PySem.F.plainAttrs_list PySem.F.slot_list_append PySem.F.type_list_append mt_append (pv 3) (pa_cons (pe_tup (pa_cons pe_str (pa_cons (pv 4) (pa_cons (pv 7) pa_nil)))) pa_nil)))) pss_nil)))))))
      (pss_one (ps_ret (pv 3))))), fun Z ds G h => ?_⟩
  obtain ⟨h, ws, rfl, hok, hw, hlen, hG⟩ := h
  show SE _ _ _ [.dat h.d, .dat (.list (ws.map wkD)), .no, .no, .no, .no, .no, .no] _
  have kl := hok.k3
  refine s_seq (s_own (wn_lcR bw1 ?_))
  repeat walk_at "ev"
  refine ⟨by rw [List.length_map]; omega, fun i rs => rs = ((List.range i).map Ev.begin).map Ev.d, rfl, fun pp i rs hi hI => ⟨_, rfl, ?_⟩, fun rs hI p hp0 hpZ => ?_⟩
  · refine wt_yes ⟨fun _ => ?_, fun h => by cases h⟩
    repeat walk_at "ev"
    refine ⟨by show 2 ≤ 1000; decide, ?_⟩
    rw [hI]
    show _ = ((List.range (i + 1)).map Ev.begin).map Ev.d
    rw [List.range_succ, List.map_append, List.map_append]
    rfl
  subst hI
  rw [List.length_map]
  refine s_seq (s_forR ?_)
  repeat walk_at "ev"
  refine ⟨by rw [List.length_map]; omega, fun i δ' => ∃ es : List Ev, LeD [.dat h.d, .dat (.list (ws.map wkD)), .no, .own p (es.map Ev.d), .no, .no, .no, .no] δ' ∧ (∀ e ∈ es, can h ws e) ∧ 0 < es.length ∧ es.length ≤ 3 + 10 * i, ⟨(List.range h.kinds.length).map Ev.begin, leD_refl _, fun e he => ?_, ?_, ?_⟩, fun i δ' hi hI => ?_, fun δ' hI => ?_⟩
  · obtain ⟨k, hk, rfl⟩ := List.mem_map.mp he
    exact List.mem_range.mp hk
  · rw [List.length_map, List.length_range]
    exact hok.k1
  · rw [List.length_map, List.length_range]
    omega
  · obtain ⟨es, le, he, h0, hl⟩ := hI
    rw [List.length_map] at hi
    refine s_le (leD_set 4 le) ?_
    have hx : ws[i]? = .some ws[i] := List.getElem?_eq_getElem hi
    have hk := hw _ (List.getElem_mem hi)
    obtain ⟨x, ex⟩ : ∃ x, ws[i] = x := ⟨_, rfl⟩
    rw [ex] at hx hk
    have hkk : h.kinds[x.1]? = .some h.kinds[x.1] := List.getElem?_eq_getElem hk
    obtain ⟨kd, ek⟩ : ∃ kd, h.kinds[x.1] = kd := ⟨_, rfl⟩
    rw [ek] at hkk
    have sl : kd.steps.length ≤ 10 := (hok.ks kd (by rw [← ek]; exact List.getElem_mem hk)).len
    refine s_seq (s_bnd bnd2 ?_)
    refine wp_ix (wp_var rfl (wp_var rfl ⟨_, _, _, .inl rfl, rfl, at_map hx, _, ⟨_, _, rfl, rfl⟩, ?_⟩))
    refine s_seq (s_asg ?_)
    refine wp_ix (wp_ix (wp_ix (wp_var rfl (wp_int ⟨_, _, _, .inr rfl, rfl, rfl, wp_var rfl ⟨_, _, _, .inr rfl, rfl, at_map hkk, wp_int ⟨_, _, _, .inr rfl, rfl, rfl, ?_⟩⟩⟩))))
    refine s_le (δ := [.dat h.d, .dat (.list (ws.map wkD)), .no, .own p (es.map Ev.d), .dat (.int i), .dat (.int x.2), .dat (.tuple (kd.steps.map Stp.d)), .no]) ⟨.inr rfl, .inr rfl, .inl rfl, .inr rfl, .inr rfl, .inr rfl, .inr rfl, .inr rfl, trivial⟩ ?_
    refine s_forR ?_
    repeat walk_at "ev"
    refine ⟨by rw [List.length_map]; omega, fun j δ' => ∃ es : List Ev, LeD [.dat h.d, .dat (.list (ws.map wkD)), .no, .own p (es.map Ev.d), .dat (.int i), .dat (.int x.2), .dat (.tuple (kd.steps.map Stp.d)), .no] δ' ∧ (∀ e ∈ es, can h ws e) ∧ 0 < es.length ∧ es.length ≤ 3 + 10 * i + j, ⟨es, leD_refl _, he, h0, hl⟩, fun j δ' hj hI => ?_, fun δ' hI => ?_⟩
    · obtain ⟨es, le, he, h0, hl⟩ := hI
      rw [List.length_map] at hj
      refine s_le (leD_set 7 le) ?_
      have hs : kd.steps[j]? = .some kd.steps[j] := List.getElem?_eq_getElem hj
      obtain ⟨st, es'⟩ : ∃ st, kd.steps[j] = st := ⟨_, rfl⟩
      rw [es'] at hs
      refine s_if (wt_eqII ?_)
      refine wp_ix (wp_ix (wp_var rfl (wp_var rfl ⟨_, _, _, .inr rfl, rfl, at_map hs, wp_int ⟨_, _, _, .inr rfl, rfl, rfl, wp_var rfl ⟨_, _, rfl, rfl, fun c => ?_, fun c => ?_⟩⟩⟩)))
      · refine s_app rfl hp0 (by simp [sepL]) (by rw [List.length_map]; omega) ?_
        repeat walk_at "ev"
        have e1 : st.first = x.2 := by have := of_decide_eq_true c; omega
        have hc : can h ws (.go i j) := ⟨x, st, hx, by rw [stepsOf_at hkk]; exact hs, e1⟩
        refine ⟨by show 3 ≤ 1000; decide, rfl, es ++ [.go i j], ?_, fun e he' => ?_, ?_, ?_⟩
        · rw [List.map_append]
          exact ⟨.inr rfl, .inr rfl, .inl rfl, .inr rfl, .inr rfl, .inr rfl, .inr rfl, .inl rfl, trivial⟩
        · rcases List.mem_append.mp he' with he' | he'
          · exact he e he'
          · rw [List.mem_singleton.mp he']
            exact hc
        · rw [List.length_append]
          omega
        · rw [List.length_append]
          simp
          omega
      · exact s_next ⟨rfl, es, ⟨.inr rfl, .inr rfl, .inl rfl, .inr rfl, .inr rfl, .inr rfl, .inr rfl, .inl rfl, trivial⟩, he, h0, by omega⟩
    · obtain ⟨es, le, he, h0, hl⟩ := hI
      rw [List.length_map] at hl
      exact ⟨rfl, es, leD_trans (b := [.dat h.d, .dat (.list (ws.map wkD)), .no, .own p (es.map Ev.d), .dat (.int i), .dat (.int x.2), .dat (.tuple (kd.steps.map Stp.d)), .no]) ⟨.inr rfl, .inr rfl, .inl rfl, .inr rfl, .inl rfl, .inl rfl, .inl rfl, .inl rfl, trivial⟩ le, he, h0, by omega⟩
  · obtain ⟨es, le, he, h0, hl⟩ := hI
    rw [List.length_map] at hl
    exact s_le le (s_retO rfl hpZ (hG es he h0 hl))
theorem cut_set {α : Type} (l : List α) (i : Nat) (x : α) (h : i < l.length) : l.take i ++ [x] ++ l.drop (i + 1) = l.set i x := by
  rw [List.set_eq_take_append_cons_drop, if_pos h, List.append_assoc]
  rfl
theorem cutD_lo (xs : List D) (i : Nat) : cutD xs none (.some (i : Int)) = xs.take i := by
  unfold cutD
  rw [HT.sIx_none, show HT.sIx xs.length xs.length (.some (i : Int)) = min i xs.length from HT.sIx_nat xs.length xs.length i, List.drop_zero, Nat.sub_zero]
  rw [List.take_eq_take_iff]
  omega
theorem cutD_hi (xs : List D) (i : Nat) : cutD xs (.some (i : Int)) none = xs.drop i := by
  unfold cutD
  rw [HT.sIx_none, show HT.sIx xs.length 0 (.some (i : Int)) = min i xs.length from HT.sIx_nat xs.length 0 i]
  by_cases h : i ≤ xs.length
  · rw [Nat.min_eq_left h]
    exact List.take_of_length_le (by rw [List.length_drop]; omega)
  · rw [Nat.min_eq_right (by omega), Nat.sub_self, List.take_zero, List.drop_eq_nil_of_le (by omega)]
def preMoved : List D → (D → Prop) → Prop := fun ds G => ∃ (h : Hs) (ws : List Wk) (e : Ev), ds = [h.d, .list (ws.map wkD), e.d] ∧ h.ok ∧ wok h ws ∧ ws.length ≤ 100 ∧ can h ws e ∧ G (.list ((moved h ws e).map wkD))
theorem ok__law_moved {f : Addr} {fd : FuncData} {k : Nat} (F : Fun K "_law_moved" "_law_moved" s_law_moved f fd) (T : TG mg) : FnOk P w K mg base CX0 (k + 1) f fd ["home", "works_here", "event"] (spD K preMoved) := by
  refine fn_data F sc_law_moved (fun ds G h => ?_) (fun cdv A outer s H E hr => ?_)
  · obtain ⟨t, n, e, rfl, _⟩ := h
    rfl
  refine ⟨_, (pss_cons (ps_if (pt_cmpR op_eq (pe_ix (ixK (K := K) rfl) (pv 2) pe_int (fun _ _ => rfl)) pe_str (nomark _)) (pss_one (ps_ret (pe_op op_cat (pv 1) (pe_lst (pa_cons (pe_tup (pa_cons (pe_ix (ixK (K := K) rfl) (pv 2) pe_int (fun _ _ => rfl)) (pa_cons pe_int pa_nil))) pa_nil))))) pss_nil)
      (pss_cons (ps_set (i := 3) sc_law_moved.nd rfl (.inl rfl) (pe_ix (ixK (K := K) rfl) (pe_ix (ixK (K := K) rfl) (pv 1) (pe_ix (ixK (K := K) rfl) (pv 2) pe_int (fun _ _ => rfl)) (fun _ _ => rfl)) pe_int (fun _ _ => rfl)))
      (pss_cons (ps_set (i := 4) sc_law_moved.nd rfl (.inl rfl) (pe_ix (ixK (K := K) rfl) (pe_ix (ixK (K := K) rfl) (pe_ix (ixK (K := K) rfl) (pe_ix (ixK (K := K) rfl) (pe_ix (ixK (K := K) rfl) (pv 0) pe_int (fun _ _ => rfl)) (pv 3) (fun _ _ => rfl)) pe_int (fun _ _ => rfl)) (pe_ix (ixK (K := K) rfl) (pv 2) pe_int (fun _ _ => rfl)) (fun _ _ => rfl)) pe_int (fun _ _ => rfl)))
      (pss_one (ps_ret (pe_op op_cat (pe_op op_cat (pe_slice (slK (K := K) rfl) (pv 1) po_none (po_some (pe_ix (ixK (K := K) rfl) (pv 2) pe_int (fun _ _ => rfl)))) (pe_lst (pa_cons (pe_tup (pa_cons (pv 3) (pa_cons (pv 4) pa_nil))) pa_nil))) (pe_slice (slK (K := K) rfl) (pv 1) (po_some (pe_op op_add (pe_ix (ixK (K := K) rfl) (pv 2) pe_int (fun _ _ => rfl)) pe_int)) po_none))))))), fun Z ds G h => ?_⟩
  obtain ⟨h, ws, e, rfl, hok, hw, hlen, hc, hG⟩ := h
  show SE _ _ _ [.dat h.d, .dat (.list (ws.map wkD)), .dat e.d, .no, .no] _
  cases e with
  | begin kk =>
    refine s_seq (s_if (wt_eqS (wp_ix (wp_var rfl (wp_int ⟨_, _, _, .inr rfl, rfl, rfl, wp_str ⟨_, _, rfl, rfl, fun c => ?_, fun c => absurd (of_decide_eq_false c) (by simp)⟩⟩)))))
    refine s_ret (wp_new (wn_cat ?_))
    repeat walk_at "ev"
    refine ⟨by show 2 ≤ 1000; decide, wl_nil ⟨by show 1 ≤ 1000; decide, _, _, rfl, rfl, by rw [List.length_map]; show ws.length + 1 ≤ 1000; omega, ?_⟩⟩
    have e1 : (moved h ws (.begin kk)).map wkD = ws.map wkD ++ [wkD (kk, 0)] := by
      show (ws ++ [(kk, 0)]).map wkD = _
      rw [List.map_append]
      rfl
    rw [e1] at hG
    exact hG
  | go v ss =>
    obtain ⟨x, st, h1, h2, h3⟩ := hc
    have hv : v < ws.length := (List.getElem?_eq_some_iff.mp h1).1
    have hk := hw x (List.mem_of_getElem? h1)
    have hkk : h.kinds[x.1]? = .some h.kinds[x.1] := List.getElem?_eq_getElem hk
    obtain ⟨kd, ek⟩ : ∃ kd, h.kinds[x.1] = kd := ⟨_, rfl⟩
    rw [ek] at hkk
    rw [stepsOf_at hkk] at h2
    have gx : ws.getD v (0, 0) = x := by rw [List.getD_eq_getElem?_getD, h1]; rfl
    have hmv : (moved h ws (.go v ss)).map wkD = (ws.map wkD).take v ++ [wkD (x.1, st.second)] ++ (ws.map wkD).drop (v + 1) := by
      show (ws.set v _).map wkD = _
      rw [gx, List.map_set, cut_set _ _ _ (by rw [List.length_map]; exact hv)]
      unfold secondOf
      rw [stepsOf_at hkk, h2]
      rfl
    refine s_seq (s_if (wt_eqS (wp_ix (wp_var rfl (wp_int ⟨_, _, _, .inr rfl, rfl, rfl, wp_str ⟨_, _, rfl, rfl, fun c => absurd (of_decide_eq_true c) (by decide +kernel), fun c => s_next ?_⟩⟩)))))
    -- kind_here
    refine s_seq (s_asg ?_)
    refine wp_ix (wp_ix (wp_var rfl (wp_ix (wp_var rfl (wp_int ⟨_, _, _, .inr rfl, rfl, rfl, _, _, _, .inl rfl, rfl, at_map h1, wp_int ⟨_, _, _, .inr rfl, rfl, rfl, ?_⟩⟩)))))
    -- second
    refine s_seq (s_asg ?_)
    refine wp_ix (wp_ix (wp_ix (wp_ix (wp_ix (wp_var rfl (wp_int ⟨_, _, _, .inr rfl, rfl, rfl, wp_var rfl ⟨_, _, _, .inr rfl, rfl, at_map hkk, wp_int ⟨_, _, _, .inr rfl, rfl, rfl, ?_⟩⟩⟩))))))
    refine wp_ix (wp_var rfl (wp_int ⟨_, _, _, .inr rfl, rfl, rfl, _, _, _, .inr rfl, rfl, at_map h2, wp_int ⟨_, _, _, .inr rfl, rfl, rfl, ?_⟩⟩))
    -- the sum of three lists
    refine s_ret (wp_new (wn_cat (wp_new (wn_cat (wp_new (wn_sl ?_))))))
    refine wp_var rfl (wo_none (wo_some (wp_ix (wp_var rfl (wp_int ⟨_, _, _, .inr rfl, rfl, rfl, _, rfl, _, rfl, ?_⟩)))))
    repeat walk_at "ev"
    refine ⟨by show 2 ≤ 1000; decide, wl_nil ⟨by show 1 ≤ 1000; decide, _, _, rfl, rfl, ?_, ?_⟩⟩
    · rw [cutD_lo, List.length_take, List.length_map]
      show min v ws.length + 1 ≤ 1000
      omega
    refine wp_new (wn_sl (wp_var rfl (wo_some (wp_I0 (wp_ix (wp_var rfl (wp_int ⟨_, _, _, .inr rfl, rfl, rfl, wp_int ⟨_, _, rfl, rfl, _, rfl, wo_none ⟨_, rfl, _, _, rfl, rfl, ?_, ?_⟩⟩⟩)))))))
    · rw [cutD_lo, show ((v : Int) + 1) = ((v + 1 : Nat) : Int) by omega, cutD_hi, List.length_append, List.length_take, List.length_drop, List.length_map]
      show min v ws.length + 1 + (ws.length - (v + 1)) ≤ 1000
      omega
    · rw [cutD_lo, show ((v : Int) + 1) = ((v + 1 : Nat) : Int) by omega, cutD_hi]
      rw [hmv] at hG
      exact hG
theorem lay_ev (e : Ev) : (Ev.d e).canLay0 = true ∧ (Ev.d e).depth ≤ 2 := by
  cases e with
  | begin k => exact ⟨by simp only [Ev.d, PyData.canLay0, PyData.canLayAll0]; decide +kernel, by simp [Ev.d, PyData.depth, PyData.depthAll]⟩
  | go v s => exact ⟨by simp only [Ev.d, PyData.canLay0, PyData.canLayAll0]; decide +kernel, by simp [Ev.d, PyData.depth, PyData.depthAll]⟩
theorem lay_evs : ∀ es : List Ev, PyData.canLayAll0 (es.map Ev.d) = true ∧ PyData.depthAll (es.map Ev.d) ≤ 2
  | [] => ⟨by simp [PyData.canLayAll0], by simp [PyData.depthAll]⟩
  | e :: r => by
    obtain ⟨h1, h2⟩ := lay_evs r
    obtain ⟨h3, h4⟩ := lay_ev e
    refine ⟨by simp [PyData.canLayAll0, h1, h3], ?_⟩
    simp only [List.map_cons, PyData.depthAll]
    omega
theorem shaped_evs (es : List Ev) : SeqAt.shaped (.list (es.map Ev.d)) = true := by
  obtain ⟨h1, h2⟩ := lay_evs es
  show (PyData.canLay0 _ && decide (PyData.depth _ ≤ 64)) = true
  rw [Bool.and_eq_true]
  refine ⟨by simp only [PyData.canLay0]; exact h1, decide_eq_true ?_⟩
  simp only [PyData.depth]
  omega
theorem eqv_nil (ds : List D) : PyData.eqv (.list ds) (.list []) = ds.isEmpty := by
  cases ds with
  | nil => simp [PyData.eqv, PyData.eqvAll]
  | cons d r => simp [PyData.eqv, PyData.eqvAll]
def preRun : List D → (D → Prop) → Prop := fun ds G => ∃ (h : Hs) (long : Nat), ds = [h.d, .int long] ∧ h.ok ∧ long ≤ 61 ∧ ∀ es ws, RunOf h es ws → es.length = long → G (.list (es.map Ev.d))
theorem ok__law_run {f f1 f2 f3 : Addr} {fd fd1 fd2 fd3 : FuncData} {k : Nat} (F : Fun K "_law_run" "_law_run" s_law_run f fd) (F_law_take : Fun K "_law_take" "_law_take" s_law_take f1 fd1) (B_law_take : Binds K fd1 ["deck", "wide"] []) (g_law_take : mg "_law_take" = some (.ref f1))
    (F_law_next : Fun K "_law_next" "_law_next" s_law_next f2 fd2) (B_law_next : Binds K fd2 ["home", "works_here"] []) (g_law_next : mg "_law_next" = some (.ref f2)) (F_law_moved : Fun K "_law_moved" "_law_moved" s_law_moved f3 fd3) (B_law_moved : Binds K fd3 ["home", "works_here", "event"] []) (g_law_moved : mg "_law_moved" = some (.ref f3)) (T : TG mg)
    (G_law_take : FnOk P w K mg base CX0 k f1 fd1 ["deck", "wide"] (spK K preTake)) (G_law_next : FnOk P w K mg base CX0 k f2 fd2 ["home", "works_here"] (spD K preNext)) (G_law_moved : FnOk P w K mg base CX0 k f3 fd3 ["home", "works_here", "event"] (spD K preMoved)) :
    FnOk P w K mg base CX0 (k + 1) f fd ["deck", "home", "long"] (spK K preRun) := by
  refine fn_deck F sc_law_run (fun ds G h => ?_) (fun cdv A outer s H E hr => ?_)
  · obtain ⟨t, n, rfl, _⟩ := h
    rfl
  refine ⟨_, (pss_cons (ps_par (i := 3) (j := 4) (by rfl) sc_law_run.nd rfl rfl (by decide) rfl rfl (pa_cons (pe_lst pa_nil) (pa_cons (pe_lst pa_nil) pa_nil)) (by rfl))
      (pss_cons (ps_for PassesOwn.never rfl (pi_range1 (by rfl) T.n_range (pa_cons (pv 2) pa_nil)) (pg_name (i := 5) sc_law_run.nd rfl (.inl rfl)) (pss_cons (ps_set (i := 6) sc_law_run.nd rfl (.inl rfl) (pe_call G_law_next hr (by rfl) g_law_next F_law_next.kp B_law_next .nil pass0 (pa_cons (pv 1) (pa_cons (pv 4) pa_nil))))
      (pss_cons (ps_setLc (i := 8) (own := [("event", 7)]) (g := (gName 7)) (by rfl) sc_law_run.nd rfl rfl (sw_true rfl rfl rfl (by decide +kernel)) (pi_list (pv 6)) (blkOk_by (own := [("event", 7)]) (N := ["deck", "home", "long", "found", "works_here", "turn", "some", "event", "goes"]) (sc := defScope s_law_run) (by decide +kernel)) (fun _ _ _ _ _ => (pg_name (i := 7) sc_law_run.nd rfl (Or.inl rfl))) (fun _ _ _ _ _ => (pts_one (pt_cmpR op_eq (pe_ix (ixK (K := K) rfl) (pv 7) pe_int (fun _ _ => rfl)) pe_str (nomark _)))) (fun _ _ _ _ _ => (pv 7)))
      (pss_cons (ps_set (i := 7) sc_law_run.nd rfl (.inl rfl) (pe_ix (ixK (K := K) rfl) (pv 6) (pe_call G_law_take hr (by rfl) g_law_take F_law_take.kp B_law_take .nil pass0 (pa_cons (pv 0) (pa_cons (pe_callB (lenK (K := K) rfl) (by rfl) T.n_len (by decide +kernel) (pa_cons (pv 6) pa_nil)) pa_nil))) (fun _ _ => rfl)))
      (pss_cons (ps_if (PW.pt (pw_and (pt_cmpR (neK (K := K) rfl hr.units) (pv 8) (pe_lst pa_nil) (nomark _)) (pw_and1 (pt_cmpR op_gt (pe_call G_law_take hr (by rfl) g_law_take F_law_take.kp B_law_take .nil pass0 (pa_cons (pv 0) (pa_cons pe_int pa_nil))) pe_int (nomark _))))) (pss_one (ps_set (i := 7) sc_law_run.nd rfl (.inl rfl) (pe_ix (ixK (K := K) rfl) (pv 8) (pe_call G_law_take hr (by rfl) g_law_take F_law_take.kp B_law_take .nil pass0 (pa_cons (pv 0) (pa_cons (pe_callB (lenK (K := K) rfl) (by rfl) T.n_len (by decide +kernel) (pa_cons (pv 8) pa_nil)) pa_nil))) (fun _ _ => rfl)))) pss_nil)
      (pss_cons (ps_expr (pe_bm PySem.F.plainAttrs_list PySem.F.slot_list_append PySem.F.type_list_append mt_append (pv 3) (pa_cons (pv 7) pa_nil)))
      (pss_one (ps_set (i := 4) sc_law_run.nd rfl (.inl rfl) (pe_call G_law_moved hr (by rfl) g_law_moved F_law_moved.kp B_law_moved .nil pass0 (pa_cons (pv 1) (pa_cons (pv 4) (pa_cons (pv 7) pa_nil))))))))))))
      (pss_one (ps_ret (pv 3))))), fun p q Z ds G h => ?_⟩
  obtain ⟨h, long, rfl, hok, l61, hG⟩ := h
  show SE _ _ _ [.raw (.ref p), .dat h.d, .dat (.int long), .no, .no, .no, .no, .no, .no] _
  refine s_seq (s_parOD (wn_lst (wl_nil ⟨by show 0 ≤ 1000; decide, fun pf hp0 hpZ => wp_lst (wl_nil ⟨by show 0 ≤ 1000; decide, ?_⟩)⟩)))
  refine s_seq (s_forR ?_)
  repeat walk_at "ev"
  refine ⟨by omega, fun i δ' => ∃ es ws, LeD [.raw (.ref p), .dat h.d, .no, .own pf (es.map Ev.d), .dat (.list (ws.map wkD)), .no, .no, .no, .no] δ' ∧ RunOf h es ws ∧ es.length = i, ⟨[], [], ⟨.inr rfl, .inr rfl, .inl rfl, .inr rfl, .inr rfl, .inr rfl, .inr rfl, .inr rfl, .inr rfl, trivial⟩, .nil, rfl⟩, fun i δ' hi hI => ?_, fun δ' hI => ?_⟩
  · obtain ⟨es, ws, le, hr1, hel⟩ := hI
    refine s_le (leD_set 5 le) ?_
    have wl := hr1.len
    refine s_seq (s_asg (wp_call (wl_cons (wp_var rfl (wl_cons (wp_var rfl (wl_nil ⟨h, ws, rfl, hok, hr1.ok, by omega, fun ps hc h0 hl => ?_⟩)))))))
    -- goes
    refine s_seq (s_asg (wp_new (wn_lcL bw1 ?_)))
    refine wp_var rfl ⟨_, rfl, by rw [List.length_map]; omega, fun i rs => ∃ gs : List Ev, rs = gs.map Ev.d ∧ (∀ e ∈ gs, can h ws e) ∧ gs.length ≤ i, ⟨[], rfl, by simp, Nat.le_refl _⟩, fun pp i x rs hx hI => ⟨_, rfl, ?_⟩, fun rs hI => ?_⟩
    · obtain ⟨gs, rfl, hgc, hgl⟩ := hI
      rw [List.getElem?_map] at hx
      obtain ⟨e, he, rfl⟩ := Option.map_eq_some_iff.mp hx
      have hec := hc e (List.mem_of_getElem? he)
      cases e with
      | begin kk => exact wt_eqS (wp_ix (wp_var rfl (wp_int ⟨_, _, _, .inr rfl, rfl, rfl, wp_str ⟨_, _, rfl, rfl, fun c => absurd (of_decide_eq_true c) (by decide +kernel), fun c => ⟨gs, rfl, hgc, by omega⟩⟩⟩)))
      | go v ss => exact wt_eqS (wp_ix (wp_var rfl (wp_int ⟨_, _, _, .inr rfl, rfl, rfl, wp_str ⟨_, _, rfl, rfl, fun c => wp_var rfl ⟨gs ++ [.go v ss], by rw [List.map_append]; rfl, fun e he => by
          rcases List.mem_append.mp he with he | he
          · exact hgc e he
          · rw [List.mem_singleton.mp he]
            exact hec, by rw [List.length_append]; simp; omega⟩, fun c => absurd (of_decide_eq_false c) (by simp)⟩⟩)))
    obtain ⟨gs, rfl, hgc, hgl⟩ := hI
    rw [List.length_map] at hgl
    -- event
    refine s_seq (s_asg (wp_ix (wp_var rfl (wp_callKS rfl (wl_cons (wp_len rfl (wp_var rfl ⟨_, .inl rfl, wl_nil ⟨ps.length, by rw [List.length_map], h0, by omega, fun r hr => ⟨rfl, _, _, _, .inl rfl, rfl, at_map (List.getElem?_eq_getElem hr), ?_⟩⟩⟩)))))))
    refine s_seqK (fun Z' δ' => Z' = pf :: Z ∧ ∃ e, can h ws e ∧ LeD [.raw (.ref p), .dat h.d, .no, .own pf (es.map Ev.d), .dat (.list (ws.map wkD)), .no, .no, .dat e.d, .no] δ') (fun Z' δ' hP => ?_) ?_
    · obtain ⟨rfl, e, hce, le⟩ := hP
      refine s_le le ?_
      refine s_seq (s_app rfl hp0 (by simp [sepL]) (by rw [List.length_map]; omega) (wp_var rfl ?_))
      refine s_asg (wp_call (wl_cons (wp_var rfl (wl_cons (wp_var rfl (wl_cons (wp_var rfl (wl_nil ⟨h, ws, e, rfl, hok, hr1.ok, by omega, hce, ?_⟩))))))))
      refine ⟨rfl, es ++ [e], moved h ws e, ?_, .snoc hr1 hce, by rw [List.length_append, hel]; rfl⟩
      rw [List.map_append]
      exact ⟨.inr rfl, .inr rfl, .inr rfl, .inr rfl, .inr rfl, .inr rfl, .inr rfl, .inl rfl, .inr rfl, trivial⟩
    refine s_if (wt_and (wt_test (wp_ne (wp_var rfl (wp_lst (wl_nil ⟨by show 0 ≤ 1000; decide, shaped_evs gs, shaped_evs [], _, rfl, fun c => ?_, fun c => ?_⟩))))))
    · rw [eqv_nil] at c
      have g0 : 0 < gs.length := by
        cases gs with
        | nil => simp at c
        | cons _ _ => simp
      refine wt_test (wp_IB (wp_callKS rfl (wl_cons (wp_int (wl_nil ⟨3, rfl, by decide, by decide, fun r3 hr3 => ⟨rfl, wp_int ⟨_, _, rfl, rfl, _, rfl, fun c3 => ?_, fun c3 => ?_⟩⟩⟩)))))
      · refine s_asg (wp_ix (wp_var rfl (wp_callKS rfl (wl_cons (wp_len rfl (wp_var rfl ⟨_, .inl rfl, wl_nil ⟨gs.length, by rw [List.length_map], g0, by omega, fun r' hr' => ⟨rfl, _, _, _, .inl rfl, rfl, at_map (List.getElem?_eq_getElem hr'), ?_⟩⟩⟩))))))
        exact ⟨rfl, _, hgc _ (List.getElem_mem hr'), ⟨.inr rfl, .inr rfl, .inl rfl, .inr rfl, .inr rfl, .inl rfl, .inl rfl, .inr rfl, .inl rfl, trivial⟩⟩
      · exact s_next ⟨rfl, _, hc _ (List.getElem_mem hr), ⟨.inr rfl, .inr rfl, .inl rfl, .inr rfl, .inr rfl, .inl rfl, .inl rfl, .inr rfl, .inl rfl, trivial⟩⟩
    · refine ⟨fun z => (by cases z), fun _ => ?_⟩
      exact s_next ⟨rfl, _, hc _ (List.getElem_mem hr), ⟨.inr rfl, .inr rfl, .inl rfl, .inr rfl, .inr rfl, .inl rfl, .inl rfl, .inr rfl, .inl rfl, trivial⟩⟩
  · obtain ⟨es, ws, le, hr1, hel⟩ := hI
    exact s_le le (s_retO rfl hpZ (hG es ws hr1 hel))
end
end Kw

set_option Elab.async false
set_option linter.all false
set_option maxRecDepth 100000
namespace Kw
open PySem PySem.Spec PyProof.Rows L2
theorem at0 (a : D) (r : List D) : atI (a :: r) 0 = some a := atI_nat (j := 0) rfl
theorem at1 (a b : D) (r : List D) : atI (a :: b :: r) 1 = some b := atI_nat (j := 1) rfl
local macro_rules | `(tactic| walk_at "ev") => `(tactic| first
  | refine wp_var rfl ?_
  | refine wp_int ?_
  | refine wp_str ?_
  | refine wp_bl ?_
  | refine wp_non ?_
  | refine wl_nil ?_
  | refine wl_cons ?_
  | refine wp_tup ?_
  | refine wp_lst ?_
  | refine wp_ix ?_
  | refine wp_I0 ?_
  | refine wp_I ?_
  | refine wp_IB ?_
  | refine wp_neg ?_
  | refine wp_len rfl ?_
  | refine wt_test (wp_IB ?_)
  | refine wt_eqI ?_
  | refine wt_val ?_
  | refine ⟨_, _, rfl, rfl, ?_⟩
  | refine ⟨_, _, _, .inr rfl, rfl, rfl, ?_⟩
  | refine ⟨_, _, _, .inl rfl, rfl, rfl, ?_⟩
  | refine ⟨_, .inl rfl, ?_⟩
  | refine ⟨_, .inr rfl, ?_⟩
  | refine ⟨_, rfl, ?_⟩)
local macro_rules | `(tactic| walk_at "ev") => `(tactic| first
  | refine wp_and ?_
  | refine wp_or ?_
  | refine wp_not ?_
  | refine wp_isi ?_
  | refine wp_chain ?_
  | refine wt_not ?_
  | refine wt_or ?_
  | refine wt_and ?_
  | refine wt_neI ?_
  | refine wt_chain ?_
  | refine ⟨_, _, _, .inr rfl, rfl, at0 _ _, ?_⟩
  | refine ⟨_, _, _, .inr rfl, rfl, at1 _ _ _, ?_⟩
  | refine ⟨true, rfl, ?_⟩
  | refine ⟨false, rfl, ?_⟩)
abbrev sis_number : Stmt := topS 13
theorem scis_number : FnScope ["value", "least", "most"] ["value", "least", "most"] (defScope sis_number) := ⟨rfl, rfl, rfl, by decide +kernel, rfl, by decide +kernel, by decide +kernel⟩

abbrev shas_word : Stmt := topS 18
theorem schas_word : FnScope ["value"] ["value"] (defScope shas_word) := ⟨rfl, rfl, rfl, by decide +kernel, rfl, by decide +kernel, by decide +kernel⟩

abbrev shas_form : Stmt := topS 19
theorem schas_form : FnScope ["things", "value", "form", "which", "size"] ["things", "value", "form"] (defScope shas_form) := ⟨rfl, rfl, rfl, by decide +kernel, rfl, by decide +kernel, by decide +kernel⟩

abbrev sis_deed : Stmt := topS 17
theorem scis_deed : FnScope ["things", "value"] ["things", "value"] (defScope sis_deed) := ⟨rfl, rfl, rfl, by decide +kernel, rfl, by decide +kernel, by decide +kernel⟩

abbrev sis_step : Stmt := topS 16
theorem scis_step : FnScope ["things", "places", "value", "first", "second", "deeds", "deed"] ["things", "places", "value"] (defScope sis_step) := ⟨rfl, rfl, rfl, by decide +kernel, rfl, by decide +kernel, by decide +kernel⟩

abbrev sare_marked : Stmt := topS 15
theorem scare_marked : FnScope ["places", "value", "place", "at"] ["places", "value"] (defScope sare_marked) := ⟨rfl, rfl, rfl, by decide +kernel, rfl, by decide +kernel, by decide +kernel⟩

abbrev sis_kind : Stmt := topS 14
theorem scis_kind : FnScope ["things", "value", "places", "marked", "steps", "step"] ["things", "value"] (defScope sis_kind) := ⟨rfl, rfl, rfl, by decide +kernel, rfl, by decide +kernel, by decide +kernel⟩

abbrev sis_house : Stmt := topS 11
theorem scis_house : FnScope ["value", "things", "kinds", "at", "kind"] ["value"] (defScope sis_house) := ⟨rfl, rfl, rfl, by decide +kernel, rfl, by decide +kernel, by decide +kernel⟩

abbrev scheck_house : Stmt := topS 12
theorem sccheck_house : FnScope ["house"] ["house"] (defScope scheck_house) := ⟨rfl, rfl, rfl, by decide +kernel, rfl, by decide +kernel, by decide +kernel⟩

section
variable {P : Program} {w : World} {K : PySem.W.Frag} {mg : Str → Option Value} {base : Heap}
def preNum : List D → (D → Prop) → Prop := fun ds G => ∃ (i lo hi : Int) (c : Bool), ds = [.int i, .int lo, .int hi] ∧ decide (lo ≤ i ∧ i ≤ hi) = c ∧ G (.bool c)
theorem ok_is_number {f : Addr} {fd : FuncData} {k : Nat} (F : Fun K "is_number" "is_number" sis_number f fd) (T : TG mg) : FnOk P w K mg base CX0 (k + 1) f fd ["value", "least", "most"] (spD K preNum) := by
  refine fn_data F scis_number (fun ds G h => ?_) (fun cdv A outer s H E hr => ?_)
  · obtain ⟨i, lo, hi, c, rfl, _⟩ := h
    rfl
  refine ⟨_, (pss_one (ps_ret (pe_and (pe_callB (isiK (K := K) rfl) (by rfl) T.n_isinstance (by decide +kernel) (pa_cons (pv 0) (pa_cons (pe_bltn (v := .ty "int") (by rfl) T.n_int (by decide +kernel) rfl) pa_nil))) (pe_and (pe_not (pe_callB (isiK (K := K) rfl) (by rfl) T.n_isinstance (by decide +kernel) (pa_cons (pv 0) (pa_cons (pe_bltn (v := .ty "bool") (by rfl) T.n_bool (by decide +kernel) rfl) pa_nil)))) (pe_one (pe_chain op_le op_le (pv 1) (pv 0) (pv 2))))))), fun Z ds G h => ?_⟩
  obtain ⟨i, lo, hi, c, rfl, rfl, hG⟩ := h
  show SE _ _ _ [.dat (.int i), .dat (.int lo), .dat (.int hi)] _
  refine s_retS (wp_and (wp_isi (wp_var rfl ⟨true, rfl, true, rfl, fun _ => ?_, fun e => by cases e⟩)))
  refine wp_and (wp_not (wp_isi (wp_var rfl ⟨false, rfl, false, rfl, true, rfl, fun _ => ?_, fun e => by cases e⟩)))
  refine wp_chain (wp_var rfl (wp_var rfl ⟨_, _, rfl, rfl, fun e => wp_var rfl ⟨_, rfl, rfl, ?_⟩, fun e => ⟨rfl, ?_⟩⟩))
  · have e := of_decide_eq_true e
    rw [show decide (lo ≤ i ∧ i ≤ hi) = decide (i ≤ hi) from decide_eq_decide.mpr ⟨fun h => h.2, fun h => ⟨e, h⟩⟩] at hG
    exact hG
  · have e := of_decide_eq_false e
    rw [decide_eq_false (fun h => e h.1)] at hG
    exact hG
def preWord : List D → (D → Prop) → Prop := fun ds G => ∃ (z : Str) (x : D) (r : List D), ds = [.tuple (.str z :: x :: r)] ∧ G (.bool true)
theorem ok_has_word {f : Addr} {fd : FuncData} {k : Nat} (F : Fun K "has_word" "has_word" shas_word f fd) (T : TG mg) : FnOk P w K mg base CX0 (k + 1) f fd ["value"] (spD K preWord) := by
  refine fn_data F schas_word (fun ds G h => ?_) (fun cdv A outer s H E hr => ?_)
  · obtain ⟨i, lo, hi, rfl, _⟩ := h
    rfl
  refine ⟨_, (pss_one (ps_ret (pe_and (pe_callB (isiK (K := K) rfl) (by rfl) T.n_isinstance (by decide +kernel) (pa_cons (pv 0) (pa_cons (pe_bltn (v := .ty "tuple") (by rfl) T.n_tuple (by decide +kernel) rfl) pa_nil))) (pe_and (pe_cmpR op_gt (pe_callB (lenK (K := K) rfl) (by rfl) T.n_len (by decide +kernel) (pa_cons (pv 0) pa_nil)) pe_int (nomark _)) (pe_one (pe_callB (isiK (K := K) rfl) (by rfl) T.n_isinstance (by decide +kernel) (pa_cons (pe_ix (ixK (K := K) rfl) (pv 0) pe_int (fun _ _ => rfl)) (pa_cons (pe_bltn (v := .ty "str") (by rfl) T.n_str (by decide +kernel) rfl) pa_nil)))))))), fun Z ds G h => ?_⟩
  obtain ⟨z, x, r, rfl, hG⟩ := h
  show SE _ _ _ [.dat (.tuple (.str z :: x :: r))] _
  refine s_retS (wp_and (wp_isi (wp_var rfl ⟨true, rfl, true, rfl, fun _ => ?_, fun e => by cases e⟩)))
  refine wp_and ?_
  repeat walk_at "ev"
  refine ⟨fun _ => ?_, fun e => ?_⟩
  · refine wp_isi (wp_ix (wp_var rfl (wp_int ⟨_, _, _, .inr rfl, rfl, at0 _ _, true, rfl, rfl, hG⟩)))
  · have e := of_decide_eq_false e
    rw [List.length_cons, List.length_cons] at e
    omega
def preForm : List D → (D → Prop) → Prop := fun ds G => ∃ (t : Things) (z : Str) (c : Int) (r : List D) (wh : Nat) (sz : Int), ds = [.tuple t.l, .tuple (.str z :: .int c :: r), .tuple [.int wh, .int sz]] ∧ wh < 4 ∧ sz = r.length + 2 ∧ 0 ≤ c ∧ c < t.get wh ∧ G (.bool true)
theorem ok_has_form {f f1 : Addr} {fd fd1 : FuncData} {k : Nat} (F : Fun K "has_form" "has_form" shas_form f fd) (Fis_number : Fun K "is_number" "is_number" sis_number f1 fd1) (Bis_number : Binds K fd1 ["value", "least", "most"] []) (gis_number : mg "is_number" = some (.ref f1)) (T : TG mg) (Gis_number : FnOk P w K mg base CX0 k f1 fd1 ["value", "least", "most"] (spD K preNum)) : FnOk P w K mg base CX0 (k + 1) f fd ["things", "value", "form"] (spD K preForm) := by
  refine fn_data F schas_form (fun ds G h => ?_) (fun cdv A outer s H E hr => ?_)
  · obtain ⟨t, z, c, r, wh, sz, rfl, _⟩ := h
    rfl
  refine ⟨_, (pss_cons (ps_asg (pv 2) (pg_tup (by rfl) (pgs_cons (pg_name (i := 3) schas_form.nd rfl (.inl rfl)) (pgs_cons (pg_name (i := 4) schas_form.nd rfl (.inl rfl)) pgs_nil))))
      (pss_one (ps_ret (pe_and (pe_cmpR (eqK (K := K) rfl hr.units) (pe_callB (lenK (K := K) rfl) (by rfl) T.n_len (by decide +kernel) (pa_cons (pv 1) pa_nil)) (pv 4) (nomark _)) (pe_one (pe_call Gis_number hr (by rfl) gis_number Fis_number.kp Bis_number .nil pass0 (pa_cons (pe_ix (ixK (K := K) rfl) (pv 1) pe_int (fun _ _ => rfl)) (pa_cons pe_int (pa_cons (pe_op op_sub (pe_ix (ixK (K := K) rfl) (pv 0) (pv 3) (fun _ _ => rfl)) pe_int) pa_nil))))))))), fun Z ds G h => ?_⟩
  obtain ⟨t, z, c, r, wh, sz, rfl, w4, hs, c0, c1, hG⟩ := h
  show SE _ _ _ [.dat (.tuple t.l), .dat (.tuple (.str z :: .int c :: r)), .dat (.tuple [.int wh, .int sz]), .no, .no] _
  refine s_seq (s_bnd bnd2 (wp_var rfl ⟨_, ⟨_, _, rfl, rfl⟩, ?_⟩))
  refine s_retS (wp_and (wp_eq ?_))
  repeat walk_at "ev"
  refine ⟨sh_int _, sh_int _, _, rfl, fun _ => ?_, fun e => ?_⟩
  · refine wp_callS ?_
    repeat walk_at "ev"
    refine ⟨_, _, _, .inr rfl, rfl, t.at w4, ?_⟩
    repeat walk_at "ev"
    exact ⟨_, _, _, true, rfl, decide_eq_true ⟨c0, by omega⟩, rfl, rfl, hG⟩
  · rw [ev_int] at e
    have e := of_decide_eq_false e
    rw [List.length_cons, List.length_cons] at e
    omega
def preIsDeed : List D → (D → Prop) → Prop := fun ds G => ∃ (t : Things) (x : Deed), ds = [.tuple t.l, x.d] ∧ x.ok t ∧ G (.bool true)
def deedForm : List (Str × Nat × Nat) := [("add", 0, 3), ("flag", 1, 3), ("take", 2, 2), ("drop", 2, 2), ("enter", 3, 2), ("leave", 3, 2)]
def DeedsAt (K : PySem.W.Frag) (a : Addr) : Prop := ∀ x ∈ deedForm, ∃ b, PySem.W.nsIn K a x.1 = some (some (.ref b)) ∧ ∀ H, Dd K H (.ref b) (.tuple [.int x.2.1, .int x.2.2])
theorem ok_is_deed {f f1 f2 f3 : Addr} {fd fd1 fd2 fd3 : FuncData} {k : Nat} (F : Fun K "is_deed" "is_deed" sis_deed f fd) (Fhas_word : Fun K "has_word" "has_word" shas_word f1 fd1) (Bhas_word : Binds K fd1 ["value"] []) (ghas_word : mg "has_word" = some (.ref f1)) (Fhas_form : Fun K "has_form" "has_form" shas_form f2 fd2) (Bhas_form : Binds K fd2 ["things", "value", "form"] []) (ghas_form : mg "has_form" = some (.ref f2)) (Fis_number : Fun K "is_number" "is_number" sis_number f3 fd3) (Bis_number : Binds K fd3 ["value", "least", "most"] []) (gis_number : mg "is_number" = some (.ref f3)) (T : TG mg) {dD : Addr} {esD : Array DictEntry} {nD : Nat} {tA : Tok} (D_DEEDS : KDict K w dD esD nD) (hD : DeedsAt K dD) (g_DEEDS : mg "DEEDS" = some (.ref dD)) (g_MOST_ADDED : mg "MOST_ADDED" = some (.int 2 tA)) (Ghas_word : FnOk P w K mg base CX0 k f1 fd1 ["value"] (spD K preWord)) (Ghas_form : FnOk P w K mg base CX0 k f2 fd2 ["things", "value", "form"] (spD K preForm)) (Gis_number : FnOk P w K mg base CX0 k f3 fd3 ["value", "least", "most"] (spD K preNum)) : FnOk P w K mg base CX0 (k + 1) f fd ["things", "value"] (spD K preIsDeed) := by
  refine fn_data F scis_deed (fun ds G h => ?_) (fun cdv A outer s H E hr => ?_)
  · obtain ⟨t, x, rfl, _⟩ := h
    rfl
  refine ⟨_, (pss_cons (ps_if (PW.pt (pw_or (pt_not (pt_val (pe_call Ghas_word hr (by rfl) ghas_word Fhas_word.kp Bhas_word .nil pass0 (pa_cons (pv 1) pa_nil)))) (pw_or1 (pt_cmpR (kdN (K := K) (w := w) rfl rfl D_DEEDS) (pe_ix (ixK (K := K) rfl) (pv 1) pe_int (fun _ _ => rfl)) (pe_glob (v := .ref dD) rfl g_DEEDS rfl) (by rfl))))) (pss_one (ps_ret pe_bl)) pss_nil)
      (pss_cons (ps_if (pt_not (pt_val (pe_call Ghas_form hr (by rfl) ghas_form Fhas_form.kp Bhas_form .nil pass0 (pa_cons (pv 0) (pa_cons (pv 1) (pa_cons (pe_ix (kdI (K := K) (w := w) rfl rfl) (pe_glob (v := .ref dD) rfl g_DEEDS rfl) (pe_ix (ixK (K := K) rfl) (pv 1) pe_int (fun _ _ => rfl)) (fun _ _ => rfl)) pa_nil)))))) (pss_one (ps_ret pe_bl)) pss_nil)
      (pss_cons (ps_if (pt_cmpR op_eq (pe_ix (ixK (K := K) rfl) (pv 1) pe_int (fun _ _ => rfl)) pe_str (nomark _)) (pss_one (ps_ret (pe_and (pe_call Gis_number hr (by rfl) gis_number Fis_number.kp Bis_number .nil pass0 (pa_cons (pe_ix (ixK (K := K) rfl) (pv 1) pe_int (fun _ _ => rfl)) (pa_cons (pe_un un_neg (pe_glob (v := .int 2) rfl g_MOST_ADDED ⟨_, rfl⟩)) (pa_cons (pe_glob (v := .int 2) rfl g_MOST_ADDED ⟨_, rfl⟩) pa_nil)))) (pe_one (pe_cmpR op_ne (pe_ix (ixK (K := K) rfl) (pv 1) pe_int (fun _ _ => rfl)) pe_int (nomark _)))))) pss_nil)
      (pss_one (ps_ret (pe_or (pe_cmpR op_ne (pe_ix (ixK (K := K) rfl) (pv 1) pe_int (fun _ _ => rfl)) pe_str (nomark _)) (pe_one (pe_callB (isiK (K := K) rfl) (by rfl) T.n_isinstance (by decide +kernel) (pa_cons (pe_ix (ixK (K := K) rfl) (pv 1) pe_int (fun _ _ => rfl)) (pa_cons (pe_bltn (v := .ty "bool") (by rfl) T.n_bool (by decide +kernel) rfl) pa_nil)))))))))), fun Z ds G h => ?_⟩
  obtain ⟨t, x, rfl, hx, hG⟩ := h
  have start : ∀ (z : Str) (c : Int) (r : List D) (wh : Nat) (sz : Nat), (z, wh, sz) ∈ deedForm → wh < 4 → (sz : Int) = r.length + 2 → 0 ≤ c → c < t.get wh → ∀ {u : TS} {E : EndsD},
      SE ⟨W0, K, Z, H, []⟩ u Z [.dat (.tuple t.l), .dat (.tuple (.str z :: .int c :: r))] E →
      SE ⟨W0, K, Z, H, []⟩ (tSeq (tIfS (tOr (tNot (tB (tCall (spD K preWord) [] E0 (tCons (tVar 1) tNil)))) (tTest (tOp (rKdN K dD) (tOp (rIx K) (tVar 1) (tC (.int 0))) (tC (.ref dD))))) (tRet (tC (.bl false))) tNext)
        (tSeq (tIfS (tNot (tB (tCall (spD K preForm) [] E0 (tCons (tVar 0) (tCons (tVar 1) (tCons (tOp (rIxD K w) (tC (.ref dD)) (tOp (rIx K) (tVar 1) (tC (.int 0)))) tNil)))))) (tRet (tC (.bl false))) tNext) u)) Z [.dat (.tuple t.l), .dat (.tuple (.str z :: .int c :: r))] E := by
    intro z c r wh sz hm w4 hs c0 c1 u E hu
    obtain ⟨b, hb, hbd⟩ := hD _ hm
    refine s_seq (s_if (wt_or (wt_not (wt_val (wp_callS ?_)))))
    repeat walk_at "ev"
    refine ⟨z, _, _, rfl, rfl, true, rfl, fun _ => wt_kdN ?_, fun e => by cases e⟩
    repeat walk_at "ev"
    refine ⟨z, _, rfl, hb, ⟨fun e => (by cases e), fun _ => s_next ?_⟩⟩
    refine s_seq (s_if (wt_not (wt_val (wp_callS ?_))))
    repeat walk_at "ev"
    refine wp_kdI ?_
    repeat walk_at "ev"
    refine ⟨z, .ref b, _, rfl, ⟨_, _, _, D_DEEDS.at_, D_DEEDS.lit, hb, (rfl : L2.RelV (.ref b) _)⟩, hbd, ?_⟩
    refine wl_nil ⟨t, z, c, r, wh, sz, rfl, w4, hs, c0, c1, rfl, true, rfl, fun e => (by cases e), fun _ => s_next hu⟩
  cases x with
  | add c n =>
    obtain ⟨h1, h2, h3, h4⟩ := hx
    refine start "add" c [.int n] 0 3 (by decide) (by decide) rfl (by omega) (by show (c : Int) < (t.cs : Int); omega) ?_
    refine s_seq (s_if (wt_eqS ?_))
    repeat walk_at "ev"
    refine ⟨fun _ => s_retS (wp_and (wp_callS ?_)), fun e => absurd e (by decide)⟩
    repeat walk_at "ev"
    refine ⟨n, -2, 2, true, rfl, decide_eq_true ⟨h2, h3⟩, rfl, true, rfl, fun _ => wp_neI ?_, fun e => (by cases e)⟩
    repeat walk_at "ev"
    rw [decide_eq_false h4]
    exact ⟨rfl, hG⟩
  | flag c b =>
    have h1 : c < t.fs := hx
    refine start "flag" c [.bool b] 1 3 (by decide) (by decide) rfl (by omega) (by show (c : Int) < (t.fs : Int); omega) ?_
    refine s_seq (s_if (wt_eqS ?_))
    repeat walk_at "ev"
    refine ⟨fun e => absurd e (by decide), fun _ => s_next (s_retS (wp_or (wp_neS ?_)))⟩
    repeat walk_at "ev"
    refine ⟨fun _ => wp_isi ?_, fun _ => ⟨rfl, hG⟩⟩
    repeat walk_at "ev"
    exact ⟨rfl, hG⟩
  | take c =>
    have h1 : c < t.ss := hx
    refine start "take" c [] 2 2 (by decide) (by decide) rfl (by omega) (by show (c : Int) < (t.ss : Int); omega) ?_
    refine s_seq (s_if (wt_eqS ?_))
    repeat walk_at "ev"
    refine ⟨fun e => absurd e (by decide), fun _ => s_next (s_retS (wp_or (wp_neS ?_)))⟩
    repeat walk_at "ev"
    exact ⟨fun e => absurd e (by decide), fun _ => ⟨rfl, hG⟩⟩
  | drop c =>
    have h1 : c < t.ss := hx
    refine start "drop" c [] 2 2 (by decide) (by decide) rfl (by omega) (by show (c : Int) < (t.ss : Int); omega) ?_
    refine s_seq (s_if (wt_eqS ?_))
    repeat walk_at "ev"
    refine ⟨fun e => absurd e (by decide), fun _ => s_next (s_retS (wp_or (wp_neS ?_)))⟩
    repeat walk_at "ev"
    exact ⟨fun e => absurd e (by decide), fun _ => ⟨rfl, hG⟩⟩
  | enter c =>
    have h1 : c < t.rs := hx
    refine start "enter" c [] 3 2 (by decide) (by decide) rfl (by omega) (by show (c : Int) < (t.rs : Int); omega) ?_
    refine s_seq (s_if (wt_eqS ?_))
    repeat walk_at "ev"
    refine ⟨fun e => absurd e (by decide), fun _ => s_next (s_retS (wp_or (wp_neS ?_)))⟩
    repeat walk_at "ev"
    exact ⟨fun e => absurd e (by decide), fun _ => ⟨rfl, hG⟩⟩
  | leave c =>
    have h1 : c < t.rs := hx
    refine start "leave" c [] 3 2 (by decide) (by decide) rfl (by omega) (by show (c : Int) < (t.rs : Int); omega) ?_
    refine s_seq (s_if (wt_eqS ?_))
    repeat walk_at "ev"
    refine ⟨fun e => absurd e (by decide), fun _ => s_next (s_retS (wp_or (wp_neS ?_)))⟩
    repeat walk_at "ev"
    exact ⟨fun e => absurd e (by decide), fun _ => ⟨rfl, hG⟩⟩
def preIsStep : List D → (D → Prop) → Prop := fun ds G => ∃ (t : Things) (n : Nat) (x : Stp), ds = [.tuple t.l, .int n, x.d] ∧ x.ok t n ∧ G (.bool true)
theorem ok_is_step {f f1 f2 : Addr} {fd fd1 fd2 : FuncData} {k : Nat} (F : Fun K "is_step" "is_step" sis_step f fd) (Fis_number : Fun K "is_number" "is_number" sis_number f1 fd1) (Bis_number : Binds K fd1 ["value", "least", "most"] []) (gis_number : mg "is_number" = some (.ref f1)) (Fis_deed : Fun K "is_deed" "is_deed" sis_deed f2 fd2) (Bis_deed : Binds K fd2 ["things", "value"] []) (gis_deed : mg "is_deed" = some (.ref f2)) (T : TG mg) (Gis_number : FnOk P w K mg base CX0 k f1 fd1 ["value", "least", "most"] (spD K preNum)) (Gis_deed : FnOk P w K mg base CX0 k f2 fd2 ["things", "value"] (spD K preIsDeed)) : FnOk P w K mg base CX0 (k + 1) f fd ["things", "places", "value"] (spD K preIsStep) := by
  refine fn_data F scis_step (fun ds G h => ?_) (fun cdv A outer s H E hr => ?_)
  · obtain ⟨t, n, x, rfl, _⟩ := h
    rfl
  refine ⟨_, (pss_cons (ps_if (PW.pt (pw_or (pt_not (pt_val (pe_callB (isiK (K := K) rfl) (by rfl) T.n_isinstance (by decide +kernel) (pa_cons (pv 2) (pa_cons (pe_bltn (v := .ty "tuple") (by rfl) T.n_tuple (by decide +kernel) rfl) pa_nil))))) (pw_or1 (pt_cmpR op_ne (pe_callB (lenK (K := K) rfl) (by rfl) T.n_len (by decide +kernel) (pa_cons (pv 2) pa_nil)) pe_int (nomark _))))) (pss_one (ps_ret pe_bl)) pss_nil)
      (pss_cons (ps_asg (pv 2) (pg_tup (by rfl) (pgs_cons (pg_name (i := 3) scis_step.nd rfl (.inl rfl)) (pgs_cons (pg_name (i := 4) scis_step.nd rfl (.inl rfl)) (pgs_cons (pg_name (i := 5) scis_step.nd rfl (.inl rfl)) pgs_nil)))))
      (pss_cons (ps_if (PW.pt (pw_or (pt_not (pt_val (pe_call Gis_number hr (by rfl) gis_number Fis_number.kp Bis_number .nil pass0 (pa_cons (pv 3) (pa_cons pe_int (pa_cons (pe_op op_sub (pv 1) pe_int) pa_nil)))))) (pw_or1 (pt_not (pt_val (pe_call Gis_number hr (by rfl) gis_number Fis_number.kp Bis_number .nil pass0 (pa_cons (pv 4) (pa_cons (pe_op op_add (pv 3) pe_int) (pa_cons (pe_op op_sub (pv 1) pe_int) pa_nil))))))))) (pss_one (ps_ret pe_bl)) pss_nil)
      (pss_one (ps_ret (pe_and (pe_callB (isiK (K := K) rfl) (by rfl) T.n_isinstance (by decide +kernel) (pa_cons (pv 5) (pa_cons (pe_bltn (v := .ty "tuple") (by rfl) T.n_tuple (by decide +kernel) rfl) pa_nil))) (pe_one (pe_callB (allK (K := K) rfl rfl) (by rfl) T.n_all (by decide +kernel) (pa_cons (pe_lc (own := [("deed", 6)]) (g := (gName 6)) rfl scis_step.nd (pi_tup (pv 5)) (blkOk_by (own := [("deed", 6)]) (N := ["things", "places", "value", "first", "second", "deeds", "deed"]) (sc := defScope sis_step) (by decide +kernel)) (fun _ _ _ _ _ => (pg_name (i := 6) scis_step.nd rfl (Or.inl rfl))) (fun _ _ _ _ _ => pts_nil) (fun _ _ _ _ _ => (pe_call Gis_deed hr (by rfl) gis_deed Fis_deed.kp Bis_deed .nil pass0 (pa_cons (pv 0) (pa_cons (pv 6) pa_nil))))) pa_nil))))))))), fun Z ds G h => ?_⟩
  obtain ⟨t, n, x, rfl, hx, hG⟩ := h
  obtain ⟨h1, h2, h3, h4⟩ := hx
  show SE _ _ _ [.dat (.tuple t.l), .dat (.int n), .dat x.d, .no, .no, .no, .no] _
  refine s_seq (s_if (wt_or (wt_not (wt_val (wp_isi (wp_var rfl ⟨true, rfl, true, rfl, fun _ => wt_neI ?_, fun e => (by cases e)⟩))))))
  repeat walk_at "ev"
  refine ⟨fun e => (by cases e), fun _ => s_next ?_⟩
  refine s_seq (s_bnd bnd3 (wp_var rfl ⟨_, ⟨_, _, _, rfl, rfl⟩, ?_⟩))
  refine s_seq (s_if (wt_or (wt_not (wt_val (wp_callS ?_)))))
  repeat walk_at "ev"
  refine ⟨_, _, _, true, rfl, decide_eq_true ⟨by omega, by omega⟩, rfl, true, rfl, fun _ => wt_not (wt_val (wp_callS ?_)), fun e => (by cases e)⟩
  repeat walk_at "ev"
  refine ⟨_, _, _, true, rfl, decide_eq_true ⟨by omega, by omega⟩, rfl, true, rfl, fun e => (by cases e), fun _ => s_next ?_⟩
  refine s_retS (wp_and (wp_isi (wp_var rfl ⟨true, rfl, true, rfl, fun _ => wp_allT ⟨rfl, hG⟩ bw1 ?_, fun e => (by cases e)⟩)))
  refine wp_var rfl ⟨_, rfl, by rw [List.length_map]; omega, fun p i y hy => ⟨_, rfl, wp_callS ?_⟩⟩
  obtain ⟨z, hz, rfl⟩ := atm hy
  repeat walk_at "ev"
  exact ⟨t, z, rfl, h3 z (List.mem_of_getElem? hz), rfl, rfl⟩
def preMarked : List D → (D → Prop) → Prop := fun ds G => ∃ (n : Nat) (ms : List Nat), ds = [.int n, .tuple (natsD ms)] ∧ n ≤ 6 ∧ ms.Pairwise (· < ·) ∧ (∀ m ∈ ms, m < n) ∧ G (.bool true)
theorem pw_ge {ms : List Nat} (hp : ms.Pairwise (· < ·)) : ∀ i (h : i < ms.length), i ≤ ms[i]
  | 0, _ => Nat.zero_le _
  | i + 1, h => Nat.lt_of_le_of_lt (pw_ge hp i (by omega)) (List.pairwise_iff_getElem.mp hp i (i + 1) (by omega) h (by omega))
theorem pw_len {ms : List Nat} {n : Nat} (hp : ms.Pairwise (· < ·)) (h : ∀ m ∈ ms, m < n) : ms.length ≤ n := by
  by_cases e : ms.length = 0
  · omega
  · have h1 := pw_ge hp (ms.length - 1) (by omega)
    have h2 := h ms[ms.length - 1] (List.getElem_mem ..)
    omega
theorem natsT_at {l : List Nat} {r : Nat} (h : r < l.length) : atI (natsD l) (r : Int) = .some (.int (l[r] : Nat)) := nats_at h
theorem ok_are_marked {f f1 : Addr} {fd fd1 : FuncData} {k : Nat} (F : Fun K "are_marked" "are_marked" sare_marked f fd) (Fis_number : Fun K "is_number" "is_number" sis_number f1 fd1) (Bis_number : Binds K fd1 ["value", "least", "most"] []) (gis_number : mg "is_number" = some (.ref f1)) (T : TG mg) (Gis_number : FnOk P w K mg base CX0 k f1 fd1 ["value", "least", "most"] (spD K preNum)) : FnOk P w K mg base CX0 (k + 1) f fd ["places", "value"] (spD K preMarked) := by
  refine fn_data F scare_marked (fun ds G h => ?_) (fun cdv A outer s H E hr => ?_)
  · obtain ⟨n, x, rfl, _⟩ := h
    rfl
  refine ⟨_, (pss_cons (ps_if (pt_not (pt_val (pe_callB (isiK (K := K) rfl) (by rfl) T.n_isinstance (by decide +kernel) (pa_cons (pv 1) (pa_cons (pe_bltn (v := .ty "tuple") (by rfl) T.n_tuple (by decide +kernel) rfl) pa_nil))))) (pss_one (ps_ret pe_bl)) pss_nil)
      (pss_cons (ps_if (pt_not (pt_val (pe_callB (allK (K := K) rfl rfl) (by rfl) T.n_all (by decide +kernel) (pa_cons (pe_lc (own := [("place", 2)]) (g := (gName 2)) rfl scare_marked.nd (pi_tup (pv 1)) (blkOk_by (own := [("place", 2)]) (N := ["places", "value", "place", "at"]) (sc := defScope sare_marked) (by decide +kernel)) (fun _ _ _ _ _ => (pg_name (i := 2) scare_marked.nd rfl (Or.inl rfl))) (fun _ _ _ _ _ => pts_nil) (fun _ _ _ _ _ => (pe_call Gis_number hr (by rfl) gis_number Fis_number.kp Bis_number .nil pass0 (pa_cons (pv 2) (pa_cons pe_int (pa_cons (pe_op op_sub (pv 0) pe_int) pa_nil)))))) pa_nil)))) (pss_one (ps_ret pe_bl)) pss_nil)
      (pss_one (ps_ret (pe_callB (allK (K := K) rfl rfl) (by rfl) T.n_all (by decide +kernel) (pa_cons (pe_lc (own := [("at", 3)]) (g := (gName 3)) rfl scare_marked.nd (pi_range2 (by rfl) T.n_range (pa_cons pe_int (pa_cons (pe_callB (lenK (K := K) rfl) (by rfl) T.n_len (by decide +kernel) (pa_cons (pv 1) pa_nil)) pa_nil))) (blkOk_by (own := [("at", 3)]) (N := ["places", "value", "place", "at"]) (sc := defScope sare_marked) (by decide +kernel)) (fun _ _ _ _ _ => (pg_name (i := 3) scare_marked.nd rfl (Or.inl rfl))) (fun _ _ _ _ _ => pts_nil) (fun _ _ _ _ _ => (pe_cmpR op_lt (pe_ix (ixK (K := K) rfl) (pv 1) (pe_op op_sub (pv 3) pe_int) (fun _ _ => rfl)) (pe_ix (ixK (K := K) rfl) (pv 1) (pv 3) (fun _ _ => rfl)) (nomark _)))) pa_nil)))))), fun Z ds G h => ?_⟩
  obtain ⟨n, ms, rfl, n6, hp, hlt, hG⟩ := h
  have hl := pw_len hp hlt
  show SE _ _ _ [.dat (.int n), .dat (.tuple (natsD ms)), .no, .no] _
  refine s_seq (s_if (wt_not (wt_val (wp_isi (wp_var rfl ⟨true, rfl, true, rfl, fun e => (by cases e), fun _ => s_next ?_⟩)))))
  refine s_seq (s_if (wt_not (wt_val (wp_allT ⟨true, rfl, fun e => (by cases e), fun _ => s_next ?_⟩ bw1 ?_))))
  · refine s_retS (wp_allR2 ⟨rfl, hG⟩ bw1 ?_)
    repeat walk_at "ev"
    have ln : (natsD ms).length = ms.length := List.length_map ..
    refine ⟨1, ms.length - 1, (ms.length : Int), by rw [ln]; rfl, by omega, by decide, by omega, by omega, fun p i hi => ⟨_, rfl, ?_⟩⟩
    refine wp_IB ?_
    repeat walk_at "ev"
    refine ⟨_, _, _, .inr rfl, rfl, by rw [show (((1 + i : Nat) : Int) - 1) = (i : Int) by omega]; exact nats_at (l := ms) (r := i) (by omega), ?_⟩
    repeat walk_at "ev"
    refine ⟨_, _, _, .inr rfl, rfl, nats_at (l := ms) (r := 1 + i) (by omega), ?_⟩
    refine ⟨_, _, rfl, rfl, congrArg _ (decide_eq_true ?_)⟩
    exact Int.ofNat_lt.mpr (List.pairwise_iff_getElem.mp hp i (1 + i) (by omega) (by omega) (by omega))
  · refine wp_var rfl ⟨_, rfl, by unfold natsD; rw [List.length_map]; omega, fun p i y hy => ⟨_, rfl, wp_callS ?_⟩⟩
    obtain ⟨z, hz, rfl⟩ := atm hy
    have := hlt z (List.mem_of_getElem? hz)
    repeat walk_at "ev"
    exact ⟨_, _, _, true, rfl, decide_eq_true ⟨by omega, by omega⟩, rfl, rfl⟩
def preIsKind : List D → (D → Prop) → Prop := fun ds G => ∃ (t : Things) (x : Knd), ds = [.tuple t.l, x.d] ∧ x.ok t ∧ G (.bool true)
theorem ok_is_kind {f f1 f2 f3 : Addr} {fd fd1 fd2 fd3 : FuncData} {k : Nat} (F : Fun K "is_kind" "is_kind" sis_kind f fd) (Fis_number : Fun K "is_number" "is_number" sis_number f1 fd1) (Bis_number : Binds K fd1 ["value", "least", "most"] []) (gis_number : mg "is_number" = some (.ref f1)) (Fare_marked : Fun K "are_marked" "are_marked" sare_marked f2 fd2) (Bare_marked : Binds K fd2 ["places", "value"] []) (gare_marked : mg "are_marked" = some (.ref f2)) (Fis_step : Fun K "is_step" "is_step" sis_step f3 fd3) (Bis_step : Binds K fd3 ["things", "places", "value"] []) (gis_step : mg "is_step" = some (.ref f3)) (T : TG mg) {tP tS : Tok} (g_MOST_PLACES : mg "MOST_PLACES" = some (.int 6 tP)) (g_MOST_STEPS : mg "MOST_STEPS" = some (.int 10 tS)) (Gis_number : FnOk P w K mg base CX0 k f1 fd1 ["value", "least", "most"] (spD K preNum)) (Gare_marked : FnOk P w K mg base CX0 k f2 fd2 ["places", "value"] (spD K preMarked)) (Gis_step : FnOk P w K mg base CX0 k f3 fd3 ["things", "places", "value"] (spD K preIsStep)) : FnOk P w K mg base CX0 (k + 1) f fd ["things", "value"] (spD K preIsKind) := by
  refine fn_data F scis_kind (fun ds G h => ?_) (fun cdv A outer s H E hr => ?_)
  · obtain ⟨n, x, rfl, _⟩ := h
    rfl
  refine ⟨_, (pss_cons (ps_if (PW.pt (pw_or (pt_not (pt_val (pe_callB (isiK (K := K) rfl) (by rfl) T.n_isinstance (by decide +kernel) (pa_cons (pv 1) (pa_cons (pe_bltn (v := .ty "tuple") (by rfl) T.n_tuple (by decide +kernel) rfl) pa_nil))))) (pw_or1 (pt_cmpR op_ne (pe_callB (lenK (K := K) rfl) (by rfl) T.n_len (by decide +kernel) (pa_cons (pv 1) pa_nil)) pe_int (nomark _))))) (pss_one (ps_ret pe_bl)) pss_nil)
      (pss_cons (ps_asg (pv 1) (pg_tup (by rfl) (pgs_cons (pg_name (i := 2) scis_kind.nd rfl (.inr rfl)) (pgs_cons (pg_name (i := 3) scis_kind.nd rfl (.inl rfl)) (pgs_cons (pg_name (i := 4) scis_kind.nd rfl (.inl rfl)) pgs_nil)))))
      (pss_cons (ps_if (PW.pt (pw_or (pt_not (pt_val (pe_call Gis_number hr (by rfl) gis_number Fis_number.kp Bis_number .nil pass0 (pa_cons (pv 2) (pa_cons pe_int (pa_cons (pe_glob (v := .int 6) rfl g_MOST_PLACES ⟨_, rfl⟩) pa_nil)))))) (pw_or1 (pt_not (pt_val (pe_call Gare_marked hr (by rfl) gare_marked Fare_marked.kp Bare_marked .nil pass0 (pa_cons (pv 2) (pa_cons (pv 3) pa_nil)))))))) (pss_one (ps_ret pe_bl)) pss_nil)
      (pss_cons (ps_if (PW.pt (pw_or (pt_not (pt_val (pe_callB (isiK (K := K) rfl) (by rfl) T.n_isinstance (by decide +kernel) (pa_cons (pv 4) (pa_cons (pe_bltn (v := .ty "tuple") (by rfl) T.n_tuple (by decide +kernel) rfl) pa_nil))))) (pw_or1 (pt_cmpR op_gt (pe_callB (lenK (K := K) rfl) (by rfl) T.n_len (by decide +kernel) (pa_cons (pv 4) pa_nil)) (pe_glob (v := .int 10) rfl g_MOST_STEPS ⟨_, rfl⟩) (nomark _))))) (pss_one (ps_ret pe_bl)) pss_nil)
      (pss_one (ps_ret (pe_callB (allK (K := K) rfl rfl) (by rfl) T.n_all (by decide +kernel) (pa_cons (pe_lc (own := [("step", 5)]) (g := (gName 5)) rfl scis_kind.nd (pi_tup (pv 4)) (blkOk_by (own := [("step", 5)]) (N := ["things", "value", "places", "marked", "steps", "step"]) (sc := defScope sis_kind) (by decide +kernel)) (fun _ _ _ _ _ => (pg_name (i := 5) scis_kind.nd rfl (Or.inl rfl))) (fun _ _ _ _ _ => pts_nil) (fun _ _ _ _ _ => (pe_call Gis_step hr (by rfl) gis_step Fis_step.kp Bis_step .nil pass0 (pa_cons (pv 0) (pa_cons (pv 2) (pa_cons (pv 5) pa_nil)))))) pa_nil)))))))), fun Z ds G h => ?_⟩
  obtain ⟨t, x, rfl, hx, hG⟩ := h
  obtain ⟨p1, p6, ha, hlt, hst, hl⟩ := hx
  show SE _ _ _ [.dat (.tuple t.l), .dat x.d, .no, .no, .no, .no] _
  refine s_seq (s_if (wt_or (wt_not (wt_val (wp_isi (wp_var rfl ⟨true, rfl, true, rfl, fun _ => wt_neI ?_, fun e => (by cases e)⟩))))))
  repeat walk_at "ev"
  refine ⟨fun e => (by cases e), fun _ => s_next ?_⟩
  refine s_seq (s_bnd bnd3 (wp_var rfl ⟨_, ⟨_, _, _, rfl, rfl⟩, ?_⟩))
  refine s_seq (s_if (wt_or (wt_not (wt_val (wp_callS ?_)))))
  repeat walk_at "ev"
  refine ⟨_, _, _, true, rfl, decide_eq_true ⟨by omega, by omega⟩, rfl, true, rfl, fun _ => wt_not (wt_val (wp_callS ?_)), fun e => (by cases e)⟩
  repeat walk_at "ev"
  refine ⟨x.places, x.marked, rfl, p6, ha, hlt, rfl, true, rfl, fun e => (by cases e), fun _ => s_next ?_⟩
  refine s_seq (s_if (wt_or (wt_not (wt_val (wp_isi (wp_var rfl ⟨true, rfl, true, rfl, fun _ => ?_, fun e => (by cases e)⟩))))))
  repeat walk_at "ev"
  refine ⟨fun e => absurd (of_decide_eq_true e) (by rw [List.length_map]; omega), fun _ => s_next ?_⟩
  refine s_retS (wp_allT ⟨rfl, hG⟩ bw1 ?_)
  refine wp_var rfl ⟨_, rfl, by rw [List.length_map]; omega, fun p i y hy => ⟨_, rfl, wp_callS ?_⟩⟩
  obtain ⟨z, hz, rfl⟩ := atm hy
  repeat walk_at "ev"
  exact ⟨t, x.places, z, rfl, hst z (List.mem_of_getElem? hz), rfl, rfl⟩
def preIsHouse : List D → (D → Prop) → Prop := fun ds G => ∃ (h : Hs), ds = [h.d] ∧ h.ok ∧ G (.bool true)
def ThingsAt (K : PySem.W.Frag) (a : Addr) : Prop := ∀ H, Dd K H (.ref a) (.tuple [.int (2 : Nat), .int (4 : Nat), .int (3 : Nat), .int (2 : Nat)])
theorem ok_is_house {f f1 f2 : Addr} {fd fd1 fd2 : FuncData} {k : Nat} (F : Fun K "is_house" "is_house" sis_house f fd) (Fis_number : Fun K "is_number" "is_number" sis_number f1 fd1) (Bis_number : Binds K fd1 ["value", "least", "most"] []) (gis_number : mg "is_number" = some (.ref f1)) (Fis_kind : Fun K "is_kind" "is_kind" sis_kind f2 fd2) (Bis_kind : Binds K fd2 ["things", "value"] []) (gis_kind : mg "is_kind" = some (.ref f2)) (T : TG mg) {dT : Addr} {tK : Tok} (hT : ThingsAt K dT) (g_MOST_THINGS : mg "MOST_THINGS" = some (.ref dT)) (g_MOST_KINDS : mg "MOST_KINDS" = some (.int 3 tK)) (Gis_number : FnOk P w K mg base CX0 k f1 fd1 ["value", "least", "most"] (spD K preNum)) (Gis_kind : FnOk P w K mg base CX0 k f2 fd2 ["things", "value"] (spD K preIsKind)) : FnOk P w K mg base CX0 (k + 1) f fd ["value"] (spD K preIsHouse) := by
  refine fn_data F scis_house (fun ds G h => ?_) (fun cdv A outer s H E hr => ?_)
  · obtain ⟨x, rfl, _⟩ := h
    rfl
  refine ⟨_, (pss_cons (ps_if (PW.pt (pw_or (pt_not (pt_val (pe_callB (isiK (K := K) rfl) (by rfl) T.n_isinstance (by decide +kernel) (pa_cons (pv 0) (pa_cons (pe_bltn (v := .ty "tuple") (by rfl) T.n_tuple (by decide +kernel) rfl) pa_nil))))) (pw_or1 (pt_cmpR op_ne (pe_callB (lenK (K := K) rfl) (by rfl) T.n_len (by decide +kernel) (pa_cons (pv 0) pa_nil)) pe_int (nomark _))))) (pss_one (ps_ret pe_bl)) pss_nil)
      (pss_cons (ps_asg (pe_tup (pa_cons (pe_slice (stK (K := K) rfl) (pv 0) po_none (po_some pe_int)) (pa_cons (pe_ix (ixK (K := K) rfl) (pv 0) pe_int (fun _ _ => rfl)) pa_nil))) (pg_tup (by rfl) (pgs_cons (pg_name (i := 1) scis_house.nd rfl (.inr rfl)) (pgs_cons (pg_name (i := 2) scis_house.nd rfl (.inl rfl)) pgs_nil))))
      (pss_cons (ps_if (pt_not (pt_val (pe_callB (allK (K := K) rfl rfl) (by rfl) T.n_all (by decide +kernel) (pa_cons (pe_lc (own := [("at", 3)]) (g := (gName 3)) rfl scis_house.nd (pi_range1 (by rfl) T.n_range (pa_cons pe_int pa_nil)) (blkOk_by (own := [("at", 3)]) (N := ["value", "things", "kinds", "at", "kind"]) (sc := defScope sis_house) (by decide +kernel)) (fun _ _ _ _ _ => (pg_name (i := 3) scis_house.nd rfl (Or.inl rfl))) (fun _ _ _ _ _ => pts_nil) (fun _ _ _ _ _ => (pe_call Gis_number hr (by rfl) gis_number Fis_number.kp Bis_number .nil pass0 (pa_cons (pe_ix (ixK (K := K) rfl) (pv 1) (pv 3) (fun _ _ => rfl)) (pa_cons pe_int (pa_cons (pe_ix (ixK (K := K) rfl) (pe_glob (v := .ref dT) rfl g_MOST_THINGS rfl) (pv 3) (fun _ _ => rfl)) pa_nil)))))) pa_nil)))) (pss_one (ps_ret pe_bl)) pss_nil)
      (pss_cons (ps_if (PW.pt (pw_or (pt_not (pt_val (pe_callB (isiK (K := K) rfl) (by rfl) T.n_isinstance (by decide +kernel) (pa_cons (pv 2) (pa_cons (pe_bltn (v := .ty "tuple") (by rfl) T.n_tuple (by decide +kernel) rfl) pa_nil))))) (pw_or1 (pt_not (pt_chain op_le op_le pe_int (pe_callB (lenK (K := K) rfl) (by rfl) T.n_len (by decide +kernel) (pa_cons (pv 2) pa_nil)) (pe_glob (v := .int 3) rfl g_MOST_KINDS ⟨_, rfl⟩)))))) (pss_one (ps_ret pe_bl)) pss_nil)
      (pss_one (ps_ret (pe_callB (allK (K := K) rfl rfl) (by rfl) T.n_all (by decide +kernel) (pa_cons (pe_lc (own := [("kind", 4)]) (g := (gName 4)) rfl scis_house.nd (pi_tup (pv 2)) (blkOk_by (own := [("kind", 4)]) (N := ["value", "things", "kinds", "at", "kind"]) (sc := defScope sis_house) (by decide +kernel)) (fun _ _ _ _ _ => (pg_name (i := 4) scis_house.nd rfl (Or.inl rfl))) (fun _ _ _ _ _ => pts_nil) (fun _ _ _ _ _ => (pe_call Gis_kind hr (by rfl) gis_kind Fis_kind.kp Bis_kind .nil pass0 (pa_cons (pv 1) (pa_cons (pv 4) pa_nil))))) pa_nil)))))))), fun Z ds G h => ?_⟩
  obtain ⟨h, rfl, hok, hG⟩ := h
  obtain ⟨ht, k1, k3, hk⟩ := hok
  obtain ⟨t1, t2, t3, t4⟩ := ht
  show SE _ _ _ [.dat h.d, .no, .no, .no, .no] _
  refine s_seq (s_if (wt_or (wt_not (wt_val (wp_isi (wp_var rfl ⟨true, rfl, true, rfl, fun _ => wt_neI ?_, fun e => (by cases e)⟩))))))
  repeat walk_at "ev"
  refine ⟨fun e => (by cases e), fun _ => s_next ?_⟩
  refine s_seq (s_bnd bnd2 ?_)
  refine wp_tup (wl_cons (wp_slT (wp_var rfl (wo_none (wo_some (wp_int ⟨_, rfl, _, rfl, (by show ¬ (HT.sIx 5 0 none = 0 ∧ HT.sIx 5 5 (some 4) = 5); decide), ?_⟩))))))
  repeat walk_at "ev"
  refine ⟨by show 2 ≤ 1000; decide, _, ⟨_, _, rfl, rfl⟩, ?_⟩
  show SE _ _ _ [.dat h.d, .dat (.tuple h.t.l), .dat (.tuple (h.kinds.map Knd.d)), .no, .no] _
  refine s_seq (s_if (wt_not (wt_val (wp_allR ⟨true, rfl, fun e => (by cases e), fun _ => s_next ?_⟩ bw1 ?_))))
  · refine s_seq (s_if (wt_or (wt_not (wt_val (wp_isi (wp_var rfl ⟨true, rfl, true, rfl, fun _ => wt_not (wt_chain ?_), fun e => (by cases e)⟩))))))
    repeat walk_at "ev"
    refine ⟨fun _ => ?_, fun e => absurd (of_decide_eq_false e) (by rw [List.length_map]; omega)⟩
    repeat walk_at "ev"
    refine ⟨fun e => absurd e (by rw [Bool.not_eq_true', decide_eq_false_iff_not, List.length_map]; omega), fun _ => s_next ?_⟩
    refine s_retS (wp_allT ⟨rfl, hG⟩ bw1 ?_)
    refine wp_var rfl ⟨_, rfl, by rw [List.length_map]; omega, fun p i y hy => ⟨_, rfl, wp_callS ?_⟩⟩
    obtain ⟨z, hz, rfl⟩ := atm hy
    repeat walk_at "ev"
    exact ⟨h.t, z, rfl, hk z (List.mem_of_getElem? hz), rfl, rfl⟩
  · repeat walk_at "ev"
    refine ⟨by decide, fun p i hi => ⟨_, rfl, wp_callS ?_⟩⟩
    have hi : i < 4 := hi
    have hm : atI [PyData.int (2 : Nat), .int (4 : Nat), .int (3 : Nat), .int (2 : Nat)] (i : Int) = some (.int (([2, 4, 3, 2] : List Nat).getD i 0 : Nat)) ∧ h.t.get i ≤ ([2, 4, 3, 2] : List Nat).getD i 0 := by
      match i, hi with
      | 0, _ => exact ⟨rfl, t1⟩
      | 1, _ => exact ⟨rfl, t2⟩
      | 2, _ => exact ⟨rfl, t3⟩
      | 3, _ => exact ⟨rfl, t4⟩
      | n + 4, q => exact absurd q (by omega)
    refine wl_cons (wp_ix (wp_var rfl (wp_var rfl ⟨_, _, _, .inr rfl, rfl, h.t.at hi, ?_⟩)))
    refine wl_cons (wp_int (wl_cons (wp_ix (wp_cst hT (wp_var rfl ⟨_, _, _, .inr rfl, rfl, hm.1, wl_nil ?_⟩)))))
    exact ⟨_, _, _, true, rfl, decide_eq_true ⟨by omega, by have := hm.2; omega⟩, rfl, rfl⟩
def preIsHouse2 : List D → (D → Prop) → Prop := fun ds G => ∃ (h : Hs), ds = [h.d] ∧ h.ok ∧ G .none
theorem ok_check_house {f f1 : Addr} {fd fd1 : FuncData} {k : Nat} (F : Fun K "check_house" "check_house" scheck_house f fd) (Fis_house : Fun K "is_house" "is_house" sis_house f1 fd1) (Bis_house : Binds K fd1 ["value"] []) (gis_house : mg "is_house" = some (.ref f1)) (T : TG mg) (Gis_house : FnOk P w K mg base CX0 k f1 fd1 ["value"] (spD K preIsHouse)) : FnOk P w K mg base CX0 (k + 1) f fd ["house"] (spD K preIsHouse2) := by
  refine fn_data F sccheck_house (fun ds G h => ?_) (fun cdv A outer s H E hr => ?_)
  · obtain ⟨x, rfl, _⟩ := h
    rfl
  refine ⟨_, (pss_one (ps_if (pt_not (pt_val (pe_call Gis_house hr (by rfl) gis_house Fis_house.kp Bis_house .nil pass0 (pa_cons (pv 0) pa_nil)))) (pss_one ps_never) pss_nil)), fun Z ds G h => ?_⟩
  obtain ⟨h, rfl, hok, hG⟩ := h
  show SE _ _ _ [.dat h.d] _
  refine s_if (wt_not (wt_val (wp_callS ?_)))
  repeat walk_at "ev"
  exact ⟨hok, rfl, true, rfl, fun e => (by cases e), fun _ => s_next hG⟩
end
end Kw

set_option Elab.async false
set_option linter.all false
set_option maxRecDepth 100000
namespace Kw
open PySem PySem.Spec PyProof.Rows L2
local macro_rules | `(tactic| walk_at "ev") => `(tactic| first
  | refine wp_var rfl ?_
  | refine wp_int ?_
  | refine wp_str ?_
  | refine wp_bl ?_
  | refine wp_non ?_
  | refine wl_nil ?_
  | refine wl_cons ?_
  | refine wp_tup ?_
  | refine wp_lst ?_
  | refine wp_ix ?_
  | refine wp_I0 ?_
  | refine wp_I ?_
  | refine wp_IB ?_
  | refine wp_neg ?_
  | refine wp_len rfl ?_
  | refine wt_test (wp_IB ?_)
  | refine wt_eqI ?_
  | refine wt_val ?_
  | refine ⟨_, _, rfl, rfl, ?_⟩
  | refine ⟨_, _, _, .inr rfl, rfl, rfl, ?_⟩
  | refine ⟨_, _, _, .inl rfl, rfl, rfl, ?_⟩
  | refine ⟨_, .inl rfl, ?_⟩
  | refine ⟨_, .inr rfl, ?_⟩
  | refine ⟨_, rfl, ?_⟩)
local macro_rules | `(tactic| walk_at "ev") => `(tactic| first
  | refine wp_not ?_
  | refine wp_isi ?_
  | refine wp_chain ?_
  | refine wt_not ?_
  | refine wt_or ?_
  | refine wt_and ?_
  | refine wt_neI ?_
  | refine wt_chain ?_
  | refine ⟨_, _, _, .inr rfl, rfl, at0 _ _, ?_⟩
  | refine ⟨_, _, _, .inr rfl, rfl, at1 _ _ _, ?_⟩)
abbrev ssteps_of : Stmt := topS 23
theorem scsteps_of : FnScope ["house", "kind"] ["house", "kind"] (defScope ssteps_of) := ⟨rfl, rfl, rfl, by decide +kernel, rfl, by decide +kernel, by decide +kernel⟩

abbrev sis_begin : Stmt := topS 26
theorem scis_begin : FnScope ["house", "value"] ["house", "value"] (defScope sis_begin) := ⟨rfl, rfl, rfl, by decide +kernel, rfl, by decide +kernel, by decide +kernel⟩

abbrev sis_go : Stmt := topS 27
theorem scis_go : FnScope ["house", "works", "value", "kind", "place", "steps"] ["house", "works", "value"] (defScope sis_go) := ⟨rfl, rfl, rfl, by decide +kernel, rfl, by decide +kernel, by decide +kernel⟩

abbrev sworks_as_far : Stmt := topS 25
theorem scworks_as_far : FnScope ["house", "values", "works", "at", "event", "kind"] ["house", "values"] (defScope sworks_as_far) := ⟨rfl, rfl, rfl, by decide +kernel, rfl, by decide +kernel, by decide +kernel⟩

abbrev sworks_behind : Stmt := topS 24
theorem scworks_behind : FnScope ["house", "value", "works", "many"] ["house", "value"] (defScope sworks_behind) := ⟨rfl, rfl, rfl, by decide +kernel, rfl, by decide +kernel, by decide +kernel⟩

abbrev scheck_run : Stmt := topS 22
theorem sccheck_run : FnScope ["house", "run"] ["house", "run"] (defScope scheck_run) := ⟨rfl, rfl, rfl, by decide +kernel, rfl, by decide +kernel, by decide +kernel⟩

section
variable {P : Program} {w : World} {K : PySem.W.Frag} {mg : Str → Option Value} {base : Heap}
theorem at_m {α : Type} {l : List α} {g : α → D} {i : Nat} {x : α} (h : l[i]? = .some x) : atI (l.map g) (i : Int) = .some (g x) := by
  refine atI_nat ?_
  rw [List.getElem?_map, h]
  rfl
def preSteps : List D → (D → Prop) → Prop := fun ds G => ∃ (h : Hs) (k : Nat) (x : Knd), ds = [h.d, .int k] ∧ h.kinds[k]? = some x ∧ G (.tuple (x.steps.map Stp.d))
theorem ok_steps_of {f : Addr} {fd : FuncData} {k : Nat} (F : Fun K "steps_of" "steps_of" ssteps_of f fd) (T : TG mg) : FnOk P w K mg base CX0 (k + 1) f fd ["house", "kind"] (spD K preSteps) := by
  refine fn_data F scsteps_of (fun ds G h => ?_) (fun cdv A outer s H E hr => ?_)
  · obtain ⟨i, lo, hi, rfl, _⟩ := h
    rfl
  refine ⟨_, (pss_one (ps_ret (pe_ix (ixK (K := K) rfl) (pe_ix (ixK (K := K) rfl) (pe_ix (ixK (K := K) rfl) (pv 0) pe_int (fun _ _ => rfl)) (pv 1) (fun _ _ => rfl)) pe_int (fun _ _ => rfl)))), fun Z ds G h => ?_⟩
  obtain ⟨h, k, x, rfl, hk, hG⟩ := h
  show SE _ _ _ [.dat h.d, .dat (.int k)] _
  refine s_ret (wp_ix (wp_ix (wp_ix (wp_var rfl (wp_int ⟨_, _, _, .inr rfl, rfl, rfl, ?_⟩)))))
  refine wp_var rfl ⟨_, _, _, .inr rfl, rfl, at_m hk, ?_⟩
  exact wp_int ⟨_, _, _, .inr rfl, rfl, rfl, hG⟩
def Ev.isB : Ev → Bool
  | .begin _ => true
  | .go _ _ => false
def preIsBegin : List D → (D → Prop) → Prop := fun ds G => ∃ (h : Hs) (e : Ev), ds = [h.d, e.d] ∧ (∀ k, e = .begin k → k < h.kinds.length) ∧ G (.bool e.isB)
theorem ok_is_begin {f f1 f2 : Addr} {fd fd1 fd2 : FuncData} {k : Nat} (F : Fun K "is_begin" "is_begin" sis_begin f fd) (Fhas_word : Fun K "has_word" "has_word" shas_word f1 fd1) (Bhas_word : Binds K fd1 ["value"] []) (ghas_word : mg "has_word" = some (.ref f1)) (Fis_number : Fun K "is_number" "is_number" sis_number f2 fd2) (Bis_number : Binds K fd2 ["value", "least", "most"] []) (gis_number : mg "is_number" = some (.ref f2)) (T : TG mg) (Ghas_word : FnOk P w K mg base CX0 k f1 fd1 ["value"] (spD K preWord)) (Gis_number : FnOk P w K mg base CX0 k f2 fd2 ["value", "least", "most"] (spD K preNum)) : FnOk P w K mg base CX0 (k + 1) f fd ["house", "value"] (spD K preIsBegin) := by
  refine fn_data F scis_begin (fun ds G h => ?_) (fun cdv A outer s H E hr => ?_)
  · obtain ⟨i, lo, rfl, _⟩ := h
    rfl
  refine ⟨_, (pss_cons (ps_if (PW.pt (pw_or (pt_not (pt_val (pe_call Ghas_word hr (by rfl) ghas_word Fhas_word.kp Bhas_word .nil pass0 (pa_cons (pv 1) pa_nil)))) (pw_or (pt_cmpR op_ne (pe_ix (ixK (K := K) rfl) (pv 1) pe_int (fun _ _ => rfl)) pe_str (nomark _)) (pw_or1 (pt_cmpR op_ne (pe_callB (lenK (K := K) rfl) (by rfl) T.n_len (by decide +kernel) (pa_cons (pv 1) pa_nil)) pe_int (nomark _)))))) (pss_one (ps_ret pe_bl)) pss_nil)
      (pss_one (ps_ret (pe_call Gis_number hr (by rfl) gis_number Fis_number.kp Bis_number .nil pass0 (pa_cons (pe_ix (ixK (K := K) rfl) (pv 1) pe_int (fun _ _ => rfl)) (pa_cons pe_int (pa_cons (pe_op op_sub (pe_callB (lenK (K := K) rfl) (by rfl) T.n_len (by decide +kernel) (pa_cons (pe_ix (ixK (K := K) rfl) (pv 0) pe_int (fun _ _ => rfl)) pa_nil)) pe_int) pa_nil))))))), fun Z ds G h => ?_⟩
  obtain ⟨h, e, rfl, hk, hG⟩ := h
  show SE _ _ _ [.dat h.d, .dat e.d] _
  refine s_seq (s_if (wt_or (wt_not (wt_val (wp_callS ?_)))))
  cases e with
  | begin k =>
    have hk := hk k rfl
    repeat walk_at "ev"
    refine ⟨_, _, _, rfl, rfl, true, rfl, fun _ => wt_or (wt_neS ?_), fun e => (by cases e)⟩
    repeat walk_at "ev"
    refine ⟨fun _ => wt_neI ?_, fun e => absurd e (by decide)⟩
    repeat walk_at "ev"
    refine ⟨fun e => absurd e (show ¬ false = true by decide), fun _ => s_next (s_retS (wp_callS ?_))⟩
    repeat walk_at "ev"
    exact ⟨_, _, _, true, rfl, decide_eq_true ⟨by omega, by rw [List.length_map]; omega⟩, rfl, rfl, hG⟩
  | go w s =>
    repeat walk_at "ev"
    refine ⟨_, _, _, rfl, rfl, true, rfl, fun _ => wt_or (wt_neS ?_), fun e => (by cases e)⟩
    repeat walk_at "ev"
    exact ⟨fun e => absurd e (by decide), fun _ => ⟨fun _ => s_retS (wp_bl ⟨rfl, hG⟩), fun e => (by cases e)⟩⟩
def preIsGo : List D → (D → Prop) → Prop := fun ds G => ∃ (h : Hs) (ws : List Wk) (w s : Nat), ds = [h.d, .list (ws.map wkD), (Ev.go w s).d] ∧ can h ws (.go w s) ∧ G (.bool true)
theorem ok_is_go {f f1 f2 f3 : Addr} {fd fd1 fd2 fd3 : FuncData} {k : Nat} (F : Fun K "is_go" "is_go" sis_go f fd) (Fhas_word : Fun K "has_word" "has_word" shas_word f1 fd1) (Bhas_word : Binds K fd1 ["value"] []) (ghas_word : mg "has_word" = some (.ref f1)) (Fis_number : Fun K "is_number" "is_number" sis_number f2 fd2) (Bis_number : Binds K fd2 ["value", "least", "most"] []) (gis_number : mg "is_number" = some (.ref f2)) (Fsteps_of : Fun K "steps_of" "steps_of" ssteps_of f3 fd3) (Bsteps_of : Binds K fd3 ["house", "kind"] []) (gsteps_of : mg "steps_of" = some (.ref f3)) (T : TG mg) (Ghas_word : FnOk P w K mg base CX0 k f1 fd1 ["value"] (spD K preWord)) (Gis_number : FnOk P w K mg base CX0 k f2 fd2 ["value", "least", "most"] (spD K preNum)) (Gsteps_of : FnOk P w K mg base CX0 k f3 fd3 ["house", "kind"] (spD K preSteps)) : FnOk P w K mg base CX0 (k + 1) f fd ["house", "works", "value"] (spD K preIsGo) := by
  refine fn_data F scis_go (fun ds G h => ?_) (fun cdv A outer s H E hr => ?_)
  · obtain ⟨i, lo, a, b, rfl, _⟩ := h
    rfl
  refine ⟨_, (pss_cons (ps_if (PW.pt (pw_or (pt_not (pt_val (pe_call Ghas_word hr (by rfl) ghas_word Fhas_word.kp Bhas_word .nil pass0 (pa_cons (pv 2) pa_nil)))) (pw_or (pt_cmpR op_ne (pe_ix (ixK (K := K) rfl) (pv 2) pe_int (fun _ _ => rfl)) pe_str (nomark _)) (pw_or1 (pt_cmpR op_ne (pe_callB (lenK (K := K) rfl) (by rfl) T.n_len (by decide +kernel) (pa_cons (pv 2) pa_nil)) pe_int (nomark _)))))) (pss_one (ps_ret pe_bl)) pss_nil)
      (pss_cons (ps_if (pt_not (pt_val (pe_call Gis_number hr (by rfl) gis_number Fis_number.kp Bis_number .nil pass0 (pa_cons (pe_ix (ixK (K := K) rfl) (pv 2) pe_int (fun _ _ => rfl)) (pa_cons pe_int (pa_cons (pe_op op_sub (pe_callB (lenK (K := K) rfl) (by rfl) T.n_len (by decide +kernel) (pa_cons (pv 1) pa_nil)) pe_int) pa_nil)))))) (pss_one (ps_ret pe_bl)) pss_nil)
      (pss_cons (ps_asg (pe_ix (ixK (K := K) rfl) (pv 1) (pe_ix (ixK (K := K) rfl) (pv 2) pe_int (fun _ _ => rfl)) (fun _ _ => rfl)) (pg_tup (by rfl) (pgs_cons (pg_name (i := 3) scis_go.nd rfl (.inl rfl)) (pgs_cons (pg_name (i := 4) scis_go.nd rfl (.inl rfl)) pgs_nil))))
      (pss_cons (ps_set (i := 5) scis_go.nd rfl (.inl rfl) (pe_call Gsteps_of hr (by rfl) gsteps_of Fsteps_of.kp Bsteps_of .nil pass0 (pa_cons (pv 0) (pa_cons (pv 3) pa_nil))))
      (pss_one (ps_ret (pe_and (pe_call Gis_number hr (by rfl) gis_number Fis_number.kp Bis_number .nil pass0 (pa_cons (pe_ix (ixK (K := K) rfl) (pv 2) pe_int (fun _ _ => rfl)) (pa_cons pe_int (pa_cons (pe_op op_sub (pe_callB (lenK (K := K) rfl) (by rfl) T.n_len (by decide +kernel) (pa_cons (pv 5) pa_nil)) pe_int) pa_nil)))) (pe_one (pe_cmpR (eqK (K := K) rfl hr.units) (pe_ix (ixK (K := K) rfl) (pe_ix (ixK (K := K) rfl) (pv 5) (pe_ix (ixK (K := K) rfl) (pv 2) pe_int (fun _ _ => rfl)) (fun _ _ => rfl)) pe_int (fun _ _ => rfl)) (pv 4) (nomark _)))))))))), fun Z ds G h => ?_⟩
  obtain ⟨h, ws, v, s1, rfl, hc, hG⟩ := h
  obtain ⟨x, st, h1, h2, h3⟩ := hc
  obtain ⟨kd, h4, h5⟩ := can_kd h2
  have l1 := (List.getElem?_eq_some_iff.mp h1).1
  have l5 := (List.getElem?_eq_some_iff.mp h5).1
  show SE _ _ _ [.dat h.d, .dat (.list (ws.map wkD)), .dat (Ev.go v s1).d, .no, .no, .no] _
  refine s_seq (s_if (wt_or (wt_not (wt_val (wp_callS ?_)))))
  repeat walk_at "ev"
  refine ⟨_, _, _, rfl, rfl, true, rfl, fun _ => wt_or (wt_neS ?_), fun e => (by cases e)⟩
  repeat walk_at "ev"
  refine ⟨fun _ => ?_, fun e => absurd e (by decide)⟩
  refine wt_neI ?_
  repeat walk_at "ev"
  refine ⟨fun e => absurd e (show ¬ false = true by decide), fun _ => s_next ?_⟩
  refine s_seq (s_if (wt_not (wt_val (wp_callS ?_))))
  repeat walk_at "ev"
  refine ⟨_, _, _, true, rfl, decide_eq_true ⟨by omega, by rw [List.length_map]; omega⟩, rfl, true, rfl, fun e => (by cases e), fun _ => s_next ?_⟩
  refine s_seq (s_bnd bnd2 (wp_ix (wp_var rfl (wp_ix (wp_var rfl (wp_int ⟨_, _, _, .inr rfl, rfl, rfl, ?_⟩))))))
  refine ⟨_, _, _, .inl rfl, rfl, at_m h1, _, ⟨_, _, rfl, rfl⟩, ?_⟩
  refine s_seq (s_asg (wp_call ?_))
  repeat walk_at "ev"
  refine ⟨h, x.1, kd, rfl, h4, ?_⟩
  refine s_retS (wp_and (wp_callS ?_))
  repeat walk_at "ev"
  refine ⟨_, _, _, true, rfl, decide_eq_true ⟨by omega, by rw [List.length_map]; omega⟩, rfl, true, rfl, fun _ => ?_, fun e => (by cases e)⟩
  refine wp_eq (wp_ix (wp_ix (wp_var rfl (wp_ix (wp_var rfl (wp_int ⟨_, _, _, .inr rfl, rfl, rfl, ?_⟩))))))
  refine ⟨_, _, _, .inr rfl, rfl, at_m h5, wp_int ⟨_, _, _, .inr rfl, rfl, rfl, ?_⟩⟩
  refine wp_var rfl ⟨sh_int _, sh_int _, rfl, ?_⟩
  rw [ev_int, decide_eq_true (by rw [h3])]
  exact hG
def preFar : List D → (D → Prop) → Prop := fun ds G => ∃ (h : Hs) (es : List Ev) (ws : List Wk), ds = [h.d, .list (es.map Ev.d)] ∧ RunOf h es ws ∧ es.length ≤ 900 ∧ G (.tuple [.list ((worksOf h es).map wkD), .int (es.length : Nat)])
theorem ok_works_as_far {f f1 f2 f3 : Addr} {fd fd1 fd2 fd3 : FuncData} {k : Nat} (F : Fun K "works_as_far" "works_as_far" sworks_as_far f fd) (Fis_begin : Fun K "is_begin" "is_begin" sis_begin f1 fd1) (Bis_begin : Binds K fd1 ["house", "value"] []) (gis_begin : mg "is_begin" = some (.ref f1)) (Fis_go : Fun K "is_go" "is_go" sis_go f2 fd2) (Bis_go : Binds K fd2 ["house", "works", "value"] []) (gis_go : mg "is_go" = some (.ref f2)) (Fsteps_of : Fun K "steps_of" "steps_of" ssteps_of f3 fd3) (Bsteps_of : Binds K fd3 ["house", "kind"] []) (gsteps_of : mg "steps_of" = some (.ref f3)) (T : TG mg) (Gis_begin : FnOk P w K mg base CX0 k f1 fd1 ["house", "value"] (spD K preIsBegin)) (Gis_go : FnOk P w K mg base CX0 k f2 fd2 ["house", "works", "value"] (spD K preIsGo)) (Gsteps_of : FnOk P w K mg base CX0 k f3 fd3 ["house", "kind"] (spD K preSteps)) : FnOk P w K mg base CX0 (k + 1) f fd ["house", "values"] (spW K preFar) := by
  refine fn_dataW F scworks_as_far (fun ds G h => ?_) (fun cdv A outer s H E hr => ?_)
  · obtain ⟨i, lo, a, rfl, _⟩ := h
    rfl
  refine ⟨_, (pss_cons (ps_set (i := 2) scworks_as_far.nd rfl (.inl rfl) (pe_lst pa_nil))
      (pss_cons (ps_for PassesOwn.never rfl (pi_enum (by rfl) T.n_enumerate (pa_cons (pv 1) pa_nil)) (pg_tup (by rfl) (pgs_cons (pg_name (i := 3) scworks_as_far.nd rfl (.inl rfl)) (pgs_cons (pg_name (i := 4) scworks_as_far.nd rfl (.inl rfl)) pgs_nil))) (pss_one (ps_if (pt_val (pe_call Gis_begin hr (by rfl) gis_begin Fis_begin.kp Bis_begin .nil pass0 (pa_cons (pv 0) (pa_cons (pv 4) pa_nil)))) (pss_one (ps_expr (pe_bm PySem.F.plainAttrs_list PySem.F.slot_list_append PySem.F.type_list_append mt_append (pv 2) (pa_cons (pe_tup (pa_cons (pe_ix (ixK (K := K) rfl) (pv 4) pe_int (fun _ _ => rfl)) (pa_cons pe_int pa_nil))) pa_nil)))) (pss_one (ps_if (pt_val (pe_call Gis_go hr (by rfl) gis_go Fis_go.kp Bis_go .nil pass0 (pa_cons (pv 0) (pa_cons (pv 2) (pa_cons (pv 4) pa_nil))))) (pss_cons (ps_set (i := 5) scworks_as_far.nd rfl (.inl rfl) (pe_ix (ixK (K := K) rfl) (pe_ix (ixK (K := K) rfl) (pv 2) (pe_ix (ixK (K := K) rfl) (pv 4) pe_int (fun _ _ => rfl)) (fun _ _ => rfl)) pe_int (fun _ _ => rfl)))
      (pss_one (ps_asg (pe_tup (pa_cons (pv 5) (pa_cons (pe_ix (ixK (K := K) rfl) (pe_ix (ixK (K := K) rfl) (pe_call Gsteps_of hr (by rfl) gsteps_of Fsteps_of.kp Bsteps_of .nil pass0 (pa_cons (pv 0) (pa_cons (pv 5) pa_nil))) (pe_ix (ixK (K := K) rfl) (pv 4) pe_int (fun _ _ => rfl)) (fun _ _ => rfl)) pe_int (fun _ _ => rfl)) pa_nil))) (pg_sub (pv 2) (pe_ix (ixK (K := K) rfl) (pv 4) pe_int (fun _ _ => rfl)) set_list)))) (pss_one (ps_ret (pe_tup (pa_cons (pv 2) (pa_cons (pv 3) pa_nil))))))))))
      (pss_one (ps_ret (pe_tup (pa_cons (pv 2) (pa_cons (pe_callB (lenK (K := K) rfl) (by rfl) T.n_len (by decide +kernel) (pa_cons (pv 1) pa_nil)) pa_nil))))))), fun Z ds G h al => ?_⟩
  obtain ⟨h, es, ws, rfl, hr, hl, hG⟩ := h
  show SE _ _ _ [.dat h.d, .dat (.list (es.map Ev.d)), .no, .no, .no, .no] _
  refine s_seq (s_own (wn_lst (wl_nil ⟨by decide, fun p hp0 hpZ => ?_⟩)))
  refine s_seq (s_forE bnd2 (wl_cons (wp_var rfl (wl_nil ⟨_, rfl, fun i δ' => LeD [.dat h.d, .dat (.list (es.map Ev.d)), .own p ((worksOf h (es.take i)).map wkD), .no, .no, .no] δ', ?_, fun i x δ' v hx hI => ?_, fun δ' hI => ?_⟩))))
  · exact leD_refl _
  · obtain ⟨e, he, rfl⟩ := atm hx
    have hc := hr.can_at he
    have hw := works_snoc h he
    have hi : i < es.length := (List.getElem?_eq_some_iff.mp he).1
    have hlw := (hr.take i).len
    rw [List.length_take] at hlw
    refine ⟨_, ⟨_, _, rfl, rfl⟩, s_le (leD_set 4 (leD_set 3 hI)) ?_⟩
    show SE _ _ _ [.dat h.d, .dat (.list (es.map Ev.d)), .own p ((worksOf h (es.take i)).map wkD), .dat (.int (i : Nat)), .dat e.d, .no] _
    refine s_if (wt_val (wp_callS ?_))
    repeat walk_at "ev"
    refine ⟨h, e, rfl, fun k hk => by subst hk; exact hc, rfl, _, rfl, fun eb => ?_, fun eb => ?_⟩
    · cases e with
      | go w s => cases eb
      | begin k =>
        refine s_app rfl hp0 (by simp [sepL]) (by rw [List.length_map]; omega) ?_
        repeat walk_at "ev"
        refine ⟨by show 2 ≤ 1000; decide, rfl, ?_⟩
        show LeD [.dat h.d, .dat (.list (es.map Ev.d)), .own p ((worksOf h (es.take (i + 1))).map wkD), .no, .no, .no] [.dat h.d, .dat (.list (es.map Ev.d)), .own p ((worksOf h (es.take i)).map wkD ++ [wkD (k, 0)]), .dat (.int (i : Nat)), .dat (Ev.begin k).d, .no]
        rw [hw, show moved h (worksOf h (es.take i)) (.begin k) = worksOf h (es.take i) ++ [(k, 0)] from rfl, List.map_append]
        exact ⟨.inr rfl, .inr rfl, .inr rfl, .inl rfl, .inl rfl, .inl rfl, True.intro⟩
    · cases e with
      | begin k => cases eb
      | go w s =>
        obtain ⟨x, st, h1, h2, h3⟩ := hc
        obtain ⟨kd, h4, h5⟩ := can_kd h2
        refine s_if (wt_val (wp_callS (wl_cons (wp_var rfl (wl_cons (wp_own rfl (wl_cons (wp_var rfl (wl_nil ?_)))))))))
        refine ⟨h, worksOf h (es.take i), w, s, rfl, ⟨x, st, h1, h2, h3⟩, rfl, true, rfl, fun _ => ?_, fun e => (by cases e)⟩
        refine s_seq (s_asg (wp_ix (wp_ixO rfl ?_)))
        repeat walk_at "ev"
        refine ⟨_, _, rfl, at_m h1, wp_int ⟨_, _, _, .inr rfl, rfl, rfl, ?_⟩⟩
        refine s_setO rfl hp0 (by simp [sepL]) (wp_tup (wl_cons (wp_var rfl (wl_cons (wp_ix (wp_ix (wp_call ?_))))))) 
        repeat walk_at "ev"
        refine ⟨h, x.1, kd, rfl, h4, ?_⟩
        repeat walk_at "ev"
        refine ⟨_, _, _, .inr rfl, rfl, at_m h5, wp_int ⟨_, _, _, .inr rfl, rfl, rfl, wl_nil ⟨by show 2 ≤ 1000; decide, ?_⟩⟩⟩
        repeat walk_at "ev"
        refine ⟨by rw [List.length_map]; exact (List.getElem?_eq_some_iff.mp h1).1, rfl, ?_⟩
        have em : (moved h (worksOf h (es.take i)) (.go w s)).map wkD = ((worksOf h (es.take i)).map wkD).set w (.tuple [.int x.1, .int st.second]) := by
          show (List.set _ w ((List.getD _ w (0, 0)).1, secondOf h (List.getD _ w (0, 0)).1 s)).map wkD = _
          have e : (worksOf h (es.take i)).getD w (0, 0) = x := by rw [List.getD_eq_getElem?_getD, h1]; rfl
          rw [e, List.map_set]
          unfold secondOf
          rw [h2]
          rfl
        show LeD [.dat h.d, .dat (.list (es.map Ev.d)), .own p ((worksOf h (es.take (i + 1))).map wkD), .no, .no, .no] _
        rw [hw, em]
        exact ⟨.inr rfl, .inr rfl, .inr rfl, .inl rfl, .inl rfl, .inl rfl, True.intro⟩
  · rw [List.length_map, List.take_length] at hI
    refine s_le hI (s_retWT (wwl_ownc rfl (List.mem_cons_self ..) (flat_wks _) ?_) al)
    repeat walk_at "ev"
    rw [List.length_map]
    exact ⟨rfl, by show 2 ≤ 1000; decide, fun z hz => (by rw [List.mem_singleton.mp hz]; exact hp0), hG⟩
def preWorks : List D → (D → Prop) → Prop := fun ds G => ∃ (h : Hs) (es : List Ev) (ws : List Wk), ds = [h.d, .list (es.map Ev.d)] ∧ RunOf h es ws ∧ es.length ≤ 900 ∧ G (.list ((worksOf h es).map wkD))
theorem ok_works_behind {f f1 : Addr} {fd fd1 : FuncData} {k : Nat} (F : Fun K "works_behind" "works_behind" sworks_behind f fd) (Fworks_as_far : Fun K "works_as_far" "works_as_far" sworks_as_far f1 fd1) (Bworks_as_far : Binds K fd1 ["house", "values"] []) (gworks_as_far : mg "works_as_far" = some (.ref f1)) (T : TG mg) (Gworks_as_far : FnOk P w K mg base CX0 k f1 fd1 ["house", "values"] (spW K preFar)) : FnOk P w K mg base CX0 (k + 1) f fd ["house", "value"] (spW K preWorks) := by
  refine fn_dataW F scworks_behind (fun ds G h => ?_) (fun cdv A outer s H E hr => ?_)
  · obtain ⟨i, lo, a, rfl, _⟩ := h
    rfl
  refine ⟨_, (pss_cons (ps_if (pt_not (pt_val (pe_callB (isiK (K := K) rfl) (by rfl) T.n_isinstance (by decide +kernel) (pa_cons (pv 1) (pa_cons (pe_bltn (v := .ty "list") (by rfl) T.n_list (by decide +kernel) rfl) pa_nil))))) (pss_one (ps_ret pe_non)) pss_nil)
      (pss_cons (ps_asg (pe_call Gworks_as_far hr (by rfl) gworks_as_far Fworks_as_far.kp Bworks_as_far .nil pass0 (pa_cons (pv 0) (pa_cons (pv 1) pa_nil))) (pg_tup (by rfl) (pgs_cons (pg_name (i := 2) scworks_behind.nd rfl (.inl rfl)) (pgs_cons (pg_name (i := 3) scworks_behind.nd rfl (.inl rfl)) pgs_nil))))
      (pss_one (ps_ret (pe_ifExp (pt_cmpR (eqK (K := K) rfl hr.units) (pv 3) (pe_callB (lenK (K := K) rfl) (by rfl) T.n_len (by decide +kernel) (pa_cons (pv 1) pa_nil)) (nomark _)) (pv 2) pe_non))))), fun Z ds G h al => ?_⟩
  obtain ⟨h, es, ws, rfl, hr, hl, hG⟩ := h
  show SE _ _ _ [.dat h.d, .dat (.list (es.map Ev.d)), .no, .no] _
  refine s_seq (s_if (wt_not (wt_val (wp_isi (wp_var rfl ⟨true, rfl, true, rfl, fun e => (by cases e), fun _ => s_next ?_⟩)))))
  refine s_seq (s_bndW2 (ww_call ?_))
  repeat walk_at "ev"
  refine ⟨h, es, ws, rfl, hr, hl, _, _, rfl, rfl, fun L hL hLZ => ?_⟩
  show SE _ _ _ [.dat h.d, .dat (.list (es.map Ev.d)), .str L (.list ((worksOf h es).map wkD)), .dat (.int (es.length : Nat))] _
  refine s_retIfS rfl hL (wt_eqII ?_)
  repeat walk_at "ev"
  rw [List.length_map]
  exact ⟨fun _ => hG, fun e => absurd (of_decide_eq_false e) (by simp)⟩
def preCheckRun : List D → (D → Prop) → Prop := fun ds G => ∃ (h : Hs) (es : List Ev) (ws : List Wk), ds = [h.d, .list (es.map Ev.d)] ∧ RunOf h es ws ∧ es.length ≤ 900 ∧ G .none
theorem ok_check_run {f f1 : Addr} {fd fd1 : FuncData} {k : Nat} (F : Fun K "check_run" "check_run" scheck_run f fd) (Fworks_behind : Fun K "works_behind" "works_behind" sworks_behind f1 fd1) (Bworks_behind : Binds K fd1 ["house", "value"] []) (gworks_behind : mg "works_behind" = some (.ref f1)) (T : TG mg) (Gworks_behind : FnOk P w K mg base CX0 k f1 fd1 ["house", "value"] (spW K preWorks)) : FnOk P w K mg base CX0 (k + 1) f fd ["house", "run"] (spD K preCheckRun) := by
  refine fn_data F sccheck_run (fun ds G h => ?_) (fun cdv A outer s H E hr => ?_)
  · obtain ⟨i, lo, a, rfl, _⟩ := h
    rfl
  refine ⟨_, (pss_one (ps_if (pt_cmpR op_isN (pe_call Gworks_behind hr (by rfl) gworks_behind Fworks_behind.kp Bworks_behind .nil pass0 (pa_cons (pv 0) (pa_cons (pv 1) pa_nil))) pe_non (nomark _)) (pss_one ps_never) pss_nil)), fun Z ds G h => ?_⟩
  obtain ⟨h, es, ws, rfl, hr, hl, hG⟩ := h
  show SE _ _ _ [.dat h.d, .dat (.list (es.map Ev.d))] _
  refine s_if (wt_test (wp_isN rfl (wp_ofW (ww_call ?_))))
  repeat walk_at "ev"
  exact ⟨h, es, ws, rfl, hr, hl, false, rfl, fun e => (by cases e), fun _ => s_next hG⟩
end
end Kw

set_option Elab.async false
set_option linter.all false
set_option maxRecDepth 100000
namespace Kw
open PySem PySem.Spec PyProof.Rows L2
local macro_rules | `(tactic| walk_at "ev") => `(tactic| first
  | refine wp_var rfl ?_
  | refine wp_int ?_
  | refine wp_str ?_
  | refine wp_bl ?_
  | refine wp_non ?_
  | refine wl_nil ?_
  | refine wl_cons ?_
  | refine wp_tup ?_
  | refine wp_lst ?_
  | refine wp_ix ?_
  | refine wp_I0 ?_
  | refine wp_I ?_
  | refine wp_IB ?_
  | refine wp_neg ?_
  | refine wp_len rfl ?_
  | refine wt_test (wp_IB ?_)
  | refine wt_eqI ?_
  | refine wt_val ?_
  | refine ⟨_, _, rfl, rfl, ?_⟩
  | refine ⟨_, _, _, .inr rfl, rfl, rfl, ?_⟩
  | refine ⟨_, _, _, .inl rfl, rfl, rfl, ?_⟩
  | refine ⟨_, .inl rfl, ?_⟩
  | refine ⟨_, .inr rfl, ?_⟩
  | refine ⟨_, rfl, ?_⟩)
local macro_rules | `(tactic| walk_at "ev") => `(tactic| first
  | refine wp_not ?_
  | refine wp_isi ?_
  | refine wt_not ?_
  | refine wt_or ?_
  | refine wt_and ?_
  | refine ⟨_, _, _, .inr rfl, rfl, at0 _ _, ?_⟩
  | refine ⟨_, _, _, .inr rfl, rfl, at1 _ _ _, ?_⟩)
abbrev sdeeds_done : Stmt := topS 29
theorem scdeeds_done : FnScope ["house", "run", "kinds", "goes", "event", "work", "index", "deed"] ["house", "run"] (defScope sdeeds_done) := ⟨rfl, rfl, rfl, by decide +kernel, rfl, by decide +kernel, by decide +kernel⟩

abbrev scounters_behind : Stmt := topS 30
theorem sccounters_behind : FnScope ["many", "done", "counters", "_", "deed"] ["many", "done"] (defScope scounters_behind) := ⟨rfl, rfl, rfl, by decide +kernel, rfl, by decide +kernel, by decide +kernel⟩

abbrev sflags_behind : Stmt := topS 31
theorem scflags_behind : FnScope ["many", "done", "flags", "_", "deed"] ["many", "done"] (defScope sflags_behind) := ⟨rfl, rfl, rfl, by decide +kernel, rfl, by decide +kernel, by decide +kernel⟩

abbrev sslots_behind : Stmt := topS 32
theorem scslots_behind : FnScope ["many", "done", "slots", "work", "deed"] ["many", "done"] (defScope sslots_behind) := ⟨rfl, rfl, rfl, by decide +kernel, rfl, by decide +kernel, by decide +kernel⟩

abbrev snames_behind : Stmt := topS 33
theorem scnames_behind : FnScope ["number", "many", "done", "inside", "work", "deed"] ["number", "many", "done"] (defScope snames_behind) := ⟨rfl, rfl, rfl, by decide +kernel, rfl, by decide +kernel, by decide +kernel⟩

abbrev sstate_behind : Stmt := topS 28
theorem scstate_behind : FnScope ["house", "run", "works", "done", "number"] ["house", "run"] (defScope sstate_behind) := ⟨rfl, rfl, rfl, by decide +kernel, rfl, by decide +kernel, by decide +kernel⟩

abbrev sstate_after : Stmt := topS 21
theorem scstate_after : FnScope ["house", "run"] ["house", "run"] (defScope sstate_after) := ⟨rfl, rfl, rfl, by decide +kernel, rfl, by decide +kernel, by decide +kernel⟩

section
variable {P : Program} {w : World} {K : PySem.W.Frag} {mg : Str → Option Value} {base : Heap}
theorem kinds_take {es : List Ev} {i : Nat} {e : Ev} (he : es[i]? = some e) : kindsOf (es.take (i + 1)) = kindsOf (es.take i) ++ (match e with | .begin k => [k] | .go _ _ => []) := by
  unfold kindsOf
  rw [take_snoc he, List.filterMap_append]
  cases e <;> rfl
theorem goes_take {es : List Ev} {i : Nat} {e : Ev} (he : es[i]? = some e) : goesOf (es.take (i + 1)) = goesOf (es.take i) ++ (match e with | .begin _ => [] | .go w s => [(w, s)]) := by
  unfold goesOf
  rw [take_snoc he, List.filterMap_append]
  cases e <;> rfl
theorem kinds_len (es : List Ev) : (kindsOf es).length ≤ es.length := List.length_filterMap_le ..
theorem goes_len (es : List Ev) : (goesOf es).length ≤ es.length := List.length_filterMap_le ..
theorem flat_len {α β : Type} {g : α → List β} {m : Nat} : ∀ {xs : List α}, (∀ x ∈ xs, (g x).length ≤ m) → (xs.flatMap g).length ≤ m * xs.length
  | [], _ => by simp
  | x :: xs, h => by
    have h1 := h x (List.mem_cons_self ..)
    have h2 := flat_len (g := g) (m := m) (xs := xs) fun y hy => h y (List.mem_cons_of_mem _ hy)
    rw [List.flatMap_cons, List.length_append, List.length_cons, Nat.mul_succ]
    omega
def wsD (x : Nat × Nat) : D := .tuple [.int x.1, .int x.2]
def preDone : List D → (D → Prop) → Prop := fun ds G => ∃ (h : Hs) (es : List Ev) (ws : List Wk), ds = [h.d, .list (es.map Ev.d)] ∧ RunOf h es ws ∧ h.ok ∧ es.length ≤ 300 ∧ G (.list ((doneOf h es).map dnD))
theorem ok_deeds_done {f f1 : Addr} {fd fd1 : FuncData} {k : Nat} (F : Fun K "deeds_done" "deeds_done" sdeeds_done f fd) (Fsteps_of : Fun K "steps_of" "steps_of" ssteps_of f1 fd1) (Bsteps_of : Binds K fd1 ["house", "kind"] []) (gsteps_of : mg "steps_of" = some (.ref f1)) (T : TG mg) (Gsteps_of : FnOk P w K mg base CX0 k f1 fd1 ["house", "kind"] (spD K preSteps)) : FnOk P w K mg base CX0 (k + 1) f fd ["house", "run"] (spD K preDone) := by
  refine fn_data F scdeeds_done (fun ds G h => ?_) (fun cdv A outer s H E hr => ?_)
  · obtain ⟨i, lo, a, rfl, _⟩ := h
    rfl
  refine ⟨_, (pss_cons (ps_set (i := 2) scdeeds_done.nd rfl (.inr rfl) (pe_lc (own := [("event", 4)]) (g := (gName 4)) rfl scdeeds_done.nd (pi_list (pv 1)) (blkOk_by (own := [("event", 4)]) (N := ["house", "run", "kinds", "goes", "event", "work", "index", "deed"]) (sc := defScope sdeeds_done) (by decide +kernel)) (fun _ _ _ _ _ => (pg_name (i := 4) scdeeds_done.nd rfl (Or.inl rfl))) (fun _ _ _ _ _ => (pts_one (pt_cmpR op_eq (pe_ix (ixK (K := K) rfl) (pv 4) pe_int (fun _ _ => rfl)) pe_str (nomark _)))) (fun _ _ _ _ _ => (pe_ix (ixK (K := K) rfl) (pv 4) pe_int (fun _ _ => rfl)))))
      (pss_cons (ps_setLc (i := 3) (own := [("event", 4)]) (g := (gName 4)) (by rfl) scdeeds_done.nd rfl rfl (sw_true rfl rfl rfl (by decide +kernel)) (pi_list (pv 1)) (blkOk_by (own := [("event", 4)]) (N := ["house", "run", "kinds", "goes", "event", "work", "index", "deed"]) (sc := defScope sdeeds_done) (by decide +kernel)) (fun _ _ _ _ _ => (pg_name (i := 4) scdeeds_done.nd rfl (Or.inl rfl))) (fun _ _ _ _ _ => (pts_one (pt_cmpR op_eq (pe_ix (ixK (K := K) rfl) (pv 4) pe_int (fun _ _ => rfl)) pe_str (nomark _)))) (fun _ _ _ _ _ => (pe_tup (pa_cons (pe_ix (ixK (K := K) rfl) (pv 4) pe_int (fun _ _ => rfl)) (pa_cons (pe_ix (ixK (K := K) rfl) (pv 4) pe_int (fun _ _ => rfl)) pa_nil)))))
      (pss_one (ps_ret (pe_lc2 (own := [("work", 5), ("index", 6), ("deed", 7)]) (vs1 := [7]) (g := (gTup K 2 (gCons (gName 5) (gCons (gName 6) gNil)))) (g1 := (gName 7)) (wi1 := iTup K _) rfl scdeeds_done.nd (pi_list (pv 3)) (blkOk_by (own := [("work", 5), ("index", 6), ("deed", 7)]) (N := ["house", "run", "kinds", "goes", "event", "work", "index", "deed"]) (sc := defScope sdeeds_done) (by decide +kernel)) (by decide) (fun _ _ _ _ _ => (pg_tup (by rfl) (pgs_cons (pg_name (i := 5) scdeeds_done.nd rfl (Or.inl rfl)) (pgs_cons (pg_name (i := 6) scdeeds_done.nd rfl (Or.inl rfl)) pgs_nil)))) (fun _ _ _ _ _ => pts_nil) (fun _ _ _ _ _ => (pi_tup (pe_ix (ixK (K := K) rfl) (pe_ix (ixK (K := K) rfl) (pe_call Gsteps_of hr (by rfl) gsteps_of Fsteps_of.kp Bsteps_of .nil pass0 (pa_cons (pv 0) (pa_cons (pe_ix (ixK (K := K) rfl) (pv 2) (pv 5) (fun _ _ => rfl)) pa_nil))) (pv 6) (fun _ _ => rfl)) pe_int (fun _ _ => rfl)))) (fun _ _ _ _ _ => (pg_name (i := 7) scdeeds_done.nd rfl (Or.inl rfl))) (fun _ _ _ _ _ => pts_nil) (fun _ _ _ _ _ => (pe_tup (pa_cons (pv 5) (pa_cons (pv 7) pa_nil))))))))), fun Z ds G h => ?_⟩
  obtain ⟨h, es, ws, rfl, r, hok, hl, hG⟩ := h
  show SE _ _ _ [.dat h.d, .dat (.list (es.map Ev.d)), .no, .no, .no, .no, .no, .no] _
  refine s_seq (s_asg (wp_new (wn_lcL bw1 (wp_var rfl ⟨_, rfl, by rw [List.length_map]; omega, fun i rs => rs = (kindsOf (es.take i)).map fun (n : Nat) => PyData.int (n : Int), rfl, fun p i x rs hx hI => ⟨_, rfl, ?_⟩, fun rs hI => ?_⟩))))
  · obtain ⟨e, he, rfl⟩ := atm hx
    rw [hI]
    cases e with
    | begin k =>
      refine wt_eqS ?_
      repeat walk_at "ev"
      refine ⟨fun _ => ?_, fun e => absurd e (by decide)⟩
      repeat walk_at "ev"
      show _ = (kindsOf (es.take (i + 1))).map _
      rw [kinds_take he, List.map_append]
      rfl
    | go v s =>
      refine wt_eqS ?_
      repeat walk_at "ev"
      refine ⟨fun e => absurd e (by decide), fun _ => ?_⟩
      show _ = (kindsOf (es.take (i + 1))).map _
      rw [kinds_take he, List.map_append]
      simp
  rw [List.length_map, List.take_length] at hI
  subst hI
  refine s_seq (s_asg (wp_new (wn_lcL bw1 (wp_var rfl ⟨_, rfl, by rw [List.length_map]; omega, fun i rs => rs = (goesOf (es.take i)).map wsD, rfl, fun p i x rs hx hI => ⟨_, rfl, ?_⟩, fun rs hI => ?_⟩))))
  · obtain ⟨e, he, rfl⟩ := atm hx
    rw [hI]
    cases e with
    | begin k =>
      refine wt_eqS ?_
      repeat walk_at "ev"
      refine ⟨fun e => absurd e (by decide), fun _ => ?_⟩
      show _ = (goesOf (es.take (i + 1))).map _
      rw [goes_take he, List.map_append]
      simp
    | go v s =>
      refine wt_eqS ?_
      repeat walk_at "ev"
      refine ⟨fun _ => ?_, fun e => absurd e (by decide)⟩
      repeat walk_at "ev"
      refine ⟨by show 2 ≤ 1000; decide, ?_⟩
      show _ = (goesOf (es.take (i + 1))).map _
      rw [goes_take he, List.map_append]
      rfl
  rw [List.length_map, List.take_length] at hI
  subst hI
  have dl : ∀ x ∈ goesOf es, (deedsBy h (kindsOf es) x).length ≤ 3 := fun x hx => by
    obtain ⟨k, kd, st, h1, h2, h3⟩ := r.goes x hx
    unfold deedsBy
    rw [List.length_map, show (kindsOf es).getD x.1 0 = k by rw [List.getD_eq_getElem?_getD, h1]; rfl, deedsAt_eq h2 h3]
    exact ((hok.ks kd (List.mem_of_getElem? h2)).st st (List.mem_of_getElem? h3)).len
  have gl := goes_len es
  show SE _ _ _ [.dat h.d, .dat (.list (es.map Ev.d)), .dat (.list ((kindsOf es).map fun (n : Nat) => PyData.int (n : Int))), .dat (.list ((goesOf es).map wsD)), .no, .no, .no, .no] _
  refine s_ret (wp_new (wn_lc2 (bw2v (by simp) (by simp)) bw1 (wp_var rfl ⟨_, rfl, fun i rs => rs = (((goesOf es).take i).flatMap (deedsBy h (kindsOf es))).map dnD, rfl, fun p i x rs hx hI => ?_, fun rs hI => ?_⟩)))
  · obtain ⟨x, hxe, rfl⟩ := atm hx
    have hi : i < (goesOf es).length := (List.getElem?_eq_some_iff.mp hxe).1
    obtain ⟨k, kd, st, h1, h2, h3⟩ := r.goes x (List.mem_of_getElem? hxe)
    have l1 : (((goesOf es).take i).flatMap (deedsBy h (kindsOf es))).length ≤ 3 * i := by
      have := flat_len (g := deedsBy h (kindsOf es)) (m := 3) (xs := (goesOf es).take i) fun y hy => dl y (List.mem_of_mem_take hy)
      rw [List.length_take] at this
      omega
    have e1 : deedsBy h (kindsOf es) x = st.deeds.map fun d => (x.1, d) := by
      unfold deedsBy
      rw [show (kindsOf es).getD x.1 0 = k by rw [List.getD_eq_getElem?_getD, h1]; rfl, deedsAt_eq h2 h3]
    have l2 : st.deeds.length ≤ 3 := by
      have := dl x (List.mem_of_getElem? hxe)
      rw [e1, List.length_map] at this
      exact this
    refine ⟨_, ⟨_, _, rfl, rfl⟩, True.intro, wp_ix (wp_ix (wp_call ?_))⟩
    refine wl_cons (wp_var rfl (wl_cons (wp_ix (wp_var rfl (wp_var rfl ⟨_, _, _, .inl rfl, rfl, at_m h1, wl_nil ?_⟩)))))
    refine ⟨h, k, kd, rfl, h2, wp_var rfl ⟨_, _, _, .inr rfl, rfl, at_m h3, wp_int ⟨_, _, _, .inr rfl, rfl, rfl, ?_⟩⟩⟩
    refine ⟨_, rfl, fun j rs' => rs' = (((goesOf es).take i).flatMap (deedsBy h (kindsOf es)) ++ (st.deeds.take j).map fun d => (x.1, d)).map dnD, ?_, fun j y rs' hy hI1 => ?_, fun rs' hI1 => ?_⟩
    · rw [hI]
      simp
    · obtain ⟨dd, hd, rfl⟩ := atm hy
      refine ⟨?_, _, rfl, ?_⟩
      · rw [hI1, List.length_map, List.length_append, List.length_map, List.length_take]
        omega
      · repeat walk_at "ev"
        refine ⟨by show 2 ≤ 1000; decide, ?_⟩
        show _ = (((goesOf es).take i).flatMap (deedsBy h (kindsOf es)) ++ (st.deeds.take (j + 1)).map fun d => (x.1, d)).map dnD
        rw [hI1, take_snoc hd]
        simp [dnD]
    · rw [List.length_map] at hI1
      have hI1 : rs' = (((goesOf es).take i).flatMap (deedsBy h (kindsOf es)) ++ (st.deeds.take st.deeds.length).map fun d => (x.1, d)).map dnD := hI1
      show rs' = (((goesOf es).take (i + 1)).flatMap (deedsBy h (kindsOf es))).map dnD
      rw [hI1, take_snoc hxe, List.flatMap_append, List.take_length]
      simp [e1]
  · rw [List.length_map, List.take_length] at hI
    rw [hI]
    exact hG
theorem cnt_len (n : Nat) (dn : List (Nat × Deed)) : (cntOf n dn).length = n := (fold_len (g := fun (cs : List Int) (x : Nat × Deed) => stepC cs x.2) (fun c x => stepC_len c x.2) dn _).trans (List.length_replicate ..)
theorem flg_len (n : Nat) (dn : List (Nat × Deed)) : (flgOf n dn).length = n := (fold_len (g := fun (cs : List Bool) (x : Nat × Deed) => stepF cs x.2) (fun c x => stepF_len c x.2) dn _).trans (List.length_replicate ..)
theorem slt_len (n : Nat) (dn : List (Nat × Deed)) : (sltOf n dn).length = n := (fold_len (g := fun (cs : List (Option Nat)) (x : Nat × Deed) => stepS cs x.1 x.2) (fun c x => stepS_len c x.1 x.2) dn _).trans (List.length_replicate ..)
theorem ins_len (m n : Nat) (dn : List (Nat × Deed)) : (insOf m n dn).length = n := (fold_len (g := fun (cs : List Bool) (x : Nat × Deed) => stepN m cs x.1 x.2) (fun c x => stepN_len m c x.1 x.2) dn _).trans (List.length_replicate ..)
theorem getD_at {α : Type} {l : List α} {i : Nat} {z : α} (h : i < l.length) : l[i]? = some (l.getD i z) := by
  rw [List.getD_eq_getElem?_getD, List.getElem?_eq_getElem h]
  rfl
def DnOk (t : Things) (dn : List (Nat × Deed)) : Prop := ∀ x ∈ dn, x.2.ok t
def preCounters : List D → (D → Prop) → Prop := fun ds G => ∃ (t : Things) (dn : List (Nat × Deed)), ds = [.int t.cs, .list (dn.map dnD)] ∧ DnOk t dn ∧ t.cs ≤ 1000 ∧ G (.list ((cntOf t.cs dn).map .int))
theorem ok_counters_behind {f : Addr} {fd : FuncData} {k : Nat} (F : Fun K "counters_behind" "counters_behind" scounters_behind f fd) (T : TG mg) : FnOk P w K mg base CX0 (k + 1) f fd ["many", "done"] (spW K preCounters) := by
  refine fn_dataW F sccounters_behind (fun ds G h => ?_) (fun cdv A outer s H E hr => ?_)
  · obtain ⟨i, lo, rfl, _⟩ := h
    rfl
  refine ⟨_, (pss_cons (ps_set (i := 2) sccounters_behind.nd rfl (.inl rfl) (pe_op op_rep (pe_lst (pa_cons pe_int pa_nil)) (pv 0)))
      (pss_cons (ps_for PassesOwn.never rfl (pi_list (pv 1)) (pg_tup (by rfl) (pgs_cons (pg_name (i := 3) sccounters_behind.nd rfl (.inl rfl)) (pgs_cons (pg_name (i := 4) sccounters_behind.nd rfl (.inl rfl)) pgs_nil))) (pss_one (ps_if (pt_cmpR op_eq (pe_ix (ixK (K := K) rfl) (pv 4) pe_int (fun _ _ => rfl)) pe_str (nomark _)) (pss_one (ps_asg (pe_op op_add (pe_ix (ixK (K := K) rfl) (pv 2) (pe_ix (ixK (K := K) rfl) (pv 4) pe_int (fun _ _ => rfl)) (fun _ _ => rfl)) (pe_ix (ixK (K := K) rfl) (pv 4) pe_int (fun _ _ => rfl))) (pg_sub (pv 2) (pe_ix (ixK (K := K) rfl) (pv 4) pe_int (fun _ _ => rfl)) set_list))) pss_nil)))
      (pss_one (ps_ret (pv 2))))), fun Z ds G h al => ?_⟩
  obtain ⟨t, dn, rfl, hdn, hl, hG⟩ := h
  show SE _ _ _ [.dat (.int t.cs), .dat (.list (dn.map dnD)), .no, .no, .no] _
  refine s_seq (s_own (wn_rep (wp_lst (wl_cons (wp_int (wl_nil ⟨by show 1 ≤ 1000; decide, wp_var rfl ⟨_, _, rfl, rfl, hl, fun p hp0 hpZ => ?_⟩⟩))))))
  refine s_seq (s_forL bnd2 (wp_var rfl ⟨_, rfl, fun i δ' => LeD [.dat (.int t.cs), .dat (.list (dn.map dnD)), .own p ((cntOf t.cs (dn.take i)).map .int), .no, .no] δ', ?_, fun i x δ' v hx hI => ?_, fun δ' hI => ?_⟩))
  · show LeD _ [.dat (.int t.cs), .dat (.list (dn.map dnD)), .own p (List.replicate t.cs (.int 0)), .no, .no]
    rw [show (cntOf t.cs (dn.take 0)).map PyData.int = List.replicate t.cs (.int 0) by simp [cntOf]]
    exact leD_refl _
  · obtain ⟨x, hxe, rfl⟩ := atm hx
    have hxok := hdn x (List.mem_of_getElem? hxe)
    have hs : cntOf t.cs (dn.take (i + 1)) = stepC (cntOf t.cs (dn.take i)) x.2 := fold_snoc hxe
    have hln : (cntOf t.cs (dn.take i)).length = t.cs := cnt_len ..
    refine ⟨_, ⟨_, _, rfl, rfl⟩, s_le (leD_set 4 (leD_set 3 hI)) ?_⟩
    show SE _ _ _ [.dat (.int t.cs), .dat (.list (dn.map dnD)), .own p ((cntOf t.cs (dn.take i)).map .int), .dat (.int x.1), .dat x.2.d] _
    obtain ⟨v1, dd⟩ := x
    have done : ∀ cs', cs' = stepC (cntOf t.cs (dn.take i)) dd → LeD [.dat (.int t.cs), .dat (.list (dn.map dnD)), .own p ((cntOf t.cs (dn.take (i + 1))).map .int), .no, .no] [.dat (.int t.cs), .dat (.list (dn.map dnD)), .own p (cs'.map .int), .dat (.int v1), .dat dd.d] := fun cs' e => by
      rw [hs, e]
      exact ⟨.inr rfl, .inr rfl, .inr rfl, .inl rfl, .inl rfl, True.intro⟩
    cases dd with
    | add c n =>
      have hc : c < t.cs := hxok.1
      refine s_if (wt_eqS ?_)
      repeat walk_at "ev"
      refine ⟨fun _ => ?_, fun e => absurd e (by decide)⟩
      refine s_setO rfl hp0 (by simp [sepL]) ?_
      refine wp_I0 (wp_ixO rfl (wp_ix (wp_var rfl (wp_int ⟨_, _, _, .inr rfl, rfl, rfl, ?_⟩))))
      have hg : (cntOf t.cs (dn.take i))[c]? = some ((cntOf t.cs (dn.take i)).getD c 0) := getD_at (by omega)
      refine ⟨_, _, rfl, at_m hg, wp_ix (wp_var rfl (wp_int ⟨_, _, _, .inr rfl, rfl, rfl, ?_⟩))⟩
      refine ⟨_, _, rfl, rfl, wp_ix (wp_var rfl (wp_int ⟨_, _, _, .inr rfl, rfl, rfl, ?_⟩))⟩
      refine ⟨c, rfl, by rw [List.length_map]; omega, rfl, ?_⟩
      rw [← List.map_set]
      exact done _ rfl
    | _ =>
      refine s_if (wt_eqS ?_)
      repeat walk_at "ev"
      exact ⟨fun e => absurd e (by decide), fun _ => s_next ⟨rfl, done _ rfl⟩⟩
  · rw [List.length_map, List.take_length] at hI
    exact s_le hI (s_retOW rfl hp0 (flat_ints _) hG)
def preFlags : List D → (D → Prop) → Prop := fun ds G => ∃ (t : Things) (dn : List (Nat × Deed)), ds = [.int t.fs, .list (dn.map dnD)] ∧ DnOk t dn ∧ t.fs ≤ 1000 ∧ G (.list ((flgOf t.fs dn).map .bool))
theorem ok_flags_behind {f : Addr} {fd : FuncData} {k : Nat} (F : Fun K "flags_behind" "flags_behind" sflags_behind f fd) (T : TG mg) : FnOk P w K mg base CX0 (k + 1) f fd ["many", "done"] (spW K preFlags) := by
  refine fn_dataW F scflags_behind (fun ds G h => ?_) (fun cdv A outer s H E hr => ?_)
  · obtain ⟨i, lo, rfl, _⟩ := h
    rfl
  refine ⟨_, (pss_cons (ps_set (i := 2) scflags_behind.nd rfl (.inl rfl) (pe_op op_rep (pe_lst (pa_cons pe_bl pa_nil)) (pv 0)))
      (pss_cons (ps_for PassesOwn.never rfl (pi_list (pv 1)) (pg_tup (by rfl) (pgs_cons (pg_name (i := 3) scflags_behind.nd rfl (.inl rfl)) (pgs_cons (pg_name (i := 4) scflags_behind.nd rfl (.inl rfl)) pgs_nil))) (pss_one (ps_if (pt_cmpR op_eq (pe_ix (ixK (K := K) rfl) (pv 4) pe_int (fun _ _ => rfl)) pe_str (nomark _)) (pss_one (ps_asg (pe_ix (ixK (K := K) rfl) (pv 4) pe_int (fun _ _ => rfl)) (pg_sub (pv 2) (pe_ix (ixK (K := K) rfl) (pv 4) pe_int (fun _ _ => rfl)) set_list))) pss_nil)))
      (pss_one (ps_ret (pv 2))))), fun Z ds G h al => ?_⟩
  obtain ⟨t, dn, rfl, hdn, hl, hG⟩ := h
  show SE _ _ _ [.dat (.int t.fs), .dat (.list (dn.map dnD)), .no, .no, .no] _
  refine s_seq (s_own (wn_rep (wp_lst (wl_cons (wp_bl (wl_nil ⟨by show 1 ≤ 1000; decide, wp_var rfl ⟨_, _, rfl, rfl, hl, fun p hp0 hpZ => ?_⟩⟩))))))
  refine s_seq (s_forL bnd2 (wp_var rfl ⟨_, rfl, fun i δ' => LeD [.dat (.int t.fs), .dat (.list (dn.map dnD)), .own p ((flgOf t.fs (dn.take i)).map .bool), .no, .no] δ', ?_, fun i x δ' v hx hI => ?_, fun δ' hI => ?_⟩))
  · show LeD _ [.dat (.int t.fs), .dat (.list (dn.map dnD)), .own p (List.replicate t.fs (.bool false)), .no, .no]
    rw [show (flgOf t.fs (dn.take 0)).map PyData.bool = List.replicate t.fs (.bool false) by simp [flgOf]]
    exact leD_refl _
  · obtain ⟨x, hxe, rfl⟩ := atm hx
    have hxok := hdn x (List.mem_of_getElem? hxe)
    have hs : flgOf t.fs (dn.take (i + 1)) = stepF (flgOf t.fs (dn.take i)) x.2 := fold_snoc hxe
    have hln : (flgOf t.fs (dn.take i)).length = t.fs := flg_len ..
    refine ⟨_, ⟨_, _, rfl, rfl⟩, s_le (leD_set 4 (leD_set 3 hI)) ?_⟩
    show SE _ _ _ [.dat (.int t.fs), .dat (.list (dn.map dnD)), .own p ((flgOf t.fs (dn.take i)).map .bool), .dat (.int x.1), .dat x.2.d] _
    obtain ⟨v1, dd⟩ := x
    have done : ∀ cs', cs' = stepF (flgOf t.fs (dn.take i)) dd → LeD [.dat (.int t.fs), .dat (.list (dn.map dnD)), .own p ((flgOf t.fs (dn.take (i + 1))).map .bool), .no, .no] [.dat (.int t.fs), .dat (.list (dn.map dnD)), .own p (cs'.map .bool), .dat (.int v1), .dat dd.d] := fun cs' e => by
      rw [hs, e]
      exact ⟨.inr rfl, .inr rfl, .inr rfl, .inl rfl, .inl rfl, True.intro⟩
    cases dd with
    | flag c b =>
      have hc : c < t.fs := hxok
      refine s_if (wt_eqS ?_)
      repeat walk_at "ev"
      refine ⟨fun _ => ?_, fun e => absurd e (by decide)⟩
      refine s_setO rfl hp0 (by simp [sepL]) ?_
      refine wp_ix (wp_var rfl (wp_int ⟨_, _, _, .inr rfl, rfl, rfl, ?_⟩))
      refine wp_ix (wp_var rfl (wp_int ⟨_, _, _, .inr rfl, rfl, rfl, ?_⟩))
      refine ⟨c, rfl, by rw [List.length_map]; omega, rfl, ?_⟩
      rw [← List.map_set]
      exact done _ rfl
    | _ =>
      refine s_if (wt_eqS ?_)
      repeat walk_at "ev"
      exact ⟨fun e => absurd e (by decide), fun _ => s_next ⟨rfl, done _ rfl⟩⟩
  · rw [List.length_map, List.take_length] at hI
    exact s_le hI (s_retOW rfl hp0 (flat_bls _) hG)
def preSlots : List D → (D → Prop) → Prop := fun ds G => ∃ (t : Things) (dn : List (Nat × Deed)), ds = [.int t.ss, .list (dn.map dnD)] ∧ DnOk t dn ∧ t.ss ≤ 1000 ∧ G (.list ((sltOf t.ss dn).map optD))
theorem sh_opt (o : Option Nat) : SeqAt.shaped (optD o) = true := by
  cases o with
  | none => simp [optD, SeqAt.shaped, PyData.canLay0, PyData.depth]
  | some n => exact sh_int _
theorem ev_opt (o : Option Nat) (n : Nat) : PyData.eqv (optD o) (.int n) = decide (o = some n) := by
  cases o with
  | none => simp [optD, PyData.eqv]
  | some m =>
    show PyData.eqv (.int m) (.int n) = _
    rw [ev_int]
    exact decide_eq_decide.mpr ⟨fun h => by rw [Int.ofNat_inj.mp h], fun h => by rw [Option.some.inj h]⟩
theorem ok_slots_behind {f : Addr} {fd : FuncData} {k : Nat} (F : Fun K "slots_behind" "slots_behind" sslots_behind f fd) (T : TG mg) : FnOk P w K mg base CX0 (k + 1) f fd ["many", "done"] (spW K preSlots) := by
  refine fn_dataW F scslots_behind (fun ds G h => ?_) (fun cdv A outer s H E hr => ?_)
  · obtain ⟨i, lo, rfl, _⟩ := h
    rfl
  refine ⟨_, (pss_cons (ps_set (i := 2) scslots_behind.nd rfl (.inl rfl) (pe_op op_rep (pe_lst (pa_cons pe_non pa_nil)) (pv 0)))
      (pss_cons (ps_for PassesOwn.never rfl (pi_list (pv 1)) (pg_tup (by rfl) (pgs_cons (pg_name (i := 3) scslots_behind.nd rfl (.inl rfl)) (pgs_cons (pg_name (i := 4) scslots_behind.nd rfl (.inl rfl)) pgs_nil))) (pss_one (ps_if (pt_cmpR op_eq (pe_ix (ixK (K := K) rfl) (pv 4) pe_int (fun _ _ => rfl)) pe_str (nomark _)) (pss_one (ps_asg (pv 3) (pg_sub (pv 2) (pe_ix (ixK (K := K) rfl) (pv 4) pe_int (fun _ _ => rfl)) set_list))) (pss_one (ps_if (PW.pt (pw_and (pt_cmpR op_eq (pe_ix (ixK (K := K) rfl) (pv 4) pe_int (fun _ _ => rfl)) pe_str (nomark _)) (pw_and1 (pt_cmpR (eqK (K := K) rfl hr.units) (pe_ix (ixK (K := K) rfl) (pv 2) (pe_ix (ixK (K := K) rfl) (pv 4) pe_int (fun _ _ => rfl)) (fun _ _ => rfl)) (pv 3) (nomark _))))) (pss_one (ps_asg pe_non (pg_sub (pv 2) (pe_ix (ixK (K := K) rfl) (pv 4) pe_int (fun _ _ => rfl)) set_list))) pss_nil)))))
      (pss_one (ps_ret (pv 2))))), fun Z ds G h al => ?_⟩
  obtain ⟨t, dn, rfl, hdn, hl, hG⟩ := h
  show SE _ _ _ [.dat (.int t.ss), .dat (.list (dn.map dnD)), .no, .no, .no] _
  refine s_seq (s_own (wn_rep (wp_lst (wl_cons (wp_non (wl_nil ⟨by show 1 ≤ 1000; decide, wp_var rfl ⟨_, _, rfl, rfl, hl, fun p hp0 hpZ => ?_⟩⟩))))))
  refine s_seq (s_forL bnd2 (wp_var rfl ⟨_, rfl, fun i δ' => LeD [.dat (.int t.ss), .dat (.list (dn.map dnD)), .own p ((sltOf t.ss (dn.take i)).map optD), .no, .no] δ', ?_, fun i x δ' v hx hI => ?_, fun δ' hI => ?_⟩))
  · show LeD _ [.dat (.int t.ss), .dat (.list (dn.map dnD)), .own p (List.replicate t.ss .none), .no, .no]
    rw [show (sltOf t.ss (dn.take 0)).map optD = List.replicate t.ss .none by simp [sltOf, optD]]
    exact leD_refl _
  · obtain ⟨x, hxe, rfl⟩ := atm hx
    have hxok := hdn x (List.mem_of_getElem? hxe)
    have hs : sltOf t.ss (dn.take (i + 1)) = stepS (sltOf t.ss (dn.take i)) x.1 x.2 := fold_snoc hxe
    have hln : (sltOf t.ss (dn.take i)).length = t.ss := slt_len ..
    refine ⟨_, ⟨_, _, rfl, rfl⟩, s_le (leD_set 4 (leD_set 3 hI)) ?_⟩
    show SE _ _ _ [.dat (.int t.ss), .dat (.list (dn.map dnD)), .own p ((sltOf t.ss (dn.take i)).map optD), .dat (.int x.1), .dat x.2.d] _
    obtain ⟨v1, dd⟩ := x
    have done : ∀ cs', cs' = stepS (sltOf t.ss (dn.take i)) v1 dd → LeD [.dat (.int t.ss), .dat (.list (dn.map dnD)), .own p ((sltOf t.ss (dn.take (i + 1))).map optD), .no, .no] [.dat (.int t.ss), .dat (.list (dn.map dnD)), .own p (cs'.map optD), .dat (.int v1), .dat dd.d] := fun cs' e => by
      rw [hs, e]
      exact ⟨.inr rfl, .inr rfl, .inr rfl, .inl rfl, .inl rfl, True.intro⟩
    cases dd with
    | take c =>
      have hc : c < t.ss := hxok
      refine s_if (wt_eqS ?_)
      repeat walk_at "ev"
      refine ⟨fun _ => ?_, fun e => absurd e (by decide)⟩
      refine s_setO rfl hp0 (by simp [sepL]) (wp_var rfl ?_)
      refine wp_ix (wp_var rfl (wp_int ⟨_, _, _, .inr rfl, rfl, rfl, ?_⟩))
      refine ⟨c, rfl, by rw [List.length_map]; omega, rfl, ?_⟩
      rw [show PyData.int (v1 : Int) = optD (some v1) from rfl, ← List.map_set]
      exact done _ rfl
    | drop c =>
      have hc : c < t.ss := hxok
      have hg : (sltOf t.ss (dn.take i))[c]? = some ((sltOf t.ss (dn.take i)).getD c none) := getD_at (by omega)
      refine s_if (wt_eqS ?_)
      repeat walk_at "ev"
      refine ⟨fun e => absurd e (by decide), fun _ => s_if (wt_and (wt_eqS ?_))⟩
      repeat walk_at "ev"
      refine ⟨fun _ => wt_test (wp_eq (wp_ixO rfl ?_)), fun e => absurd e (by decide)⟩
      repeat walk_at "ev"
      refine ⟨_, _, rfl, at_m hg, wp_var rfl ⟨sh_opt _, sh_int _, _, rfl, ?_⟩⟩
      rw [ev_opt]
      refine ⟨fun e => ?_, fun e => s_next ⟨rfl, done _ ?_⟩⟩
      · have e := of_decide_eq_true e
        refine s_setO rfl hp0 (by simp [sepL]) (wp_non ?_)
        refine wp_ix (wp_var rfl (wp_int ⟨_, _, _, .inr rfl, rfl, rfl, ?_⟩))
        refine ⟨c, rfl, by rw [List.length_map]; omega, rfl, ?_⟩
        rw [show PyData.none = optD none from rfl, ← List.map_set]
        exact done _ (if_pos e).symm
      · exact (if_neg (of_decide_eq_false e)).symm
    | _ =>
      refine s_if (wt_eqS ?_)
      repeat walk_at "ev"
      refine ⟨fun e => absurd e (by decide), fun _ => s_if (wt_and (wt_eqS ?_))⟩
      repeat walk_at "ev"
      exact ⟨fun e => absurd e (by decide), fun _ => ⟨fun e => (by cases e), fun _ => s_next ⟨rfl, done _ rfl⟩⟩⟩
  · rw [List.length_map, List.take_length] at hI
    exact s_le hI (s_retOW rfl hp0 (flat_opts _) hG)
end
end Kw

set_option Elab.async false
set_option linter.all false
set_option maxRecDepth 100000
namespace Kw
open PySem PySem.Spec PyProof.Rows L2
local macro_rules | `(tactic| walk_at "ev") => `(tactic| first
  | refine wp_var rfl ?_
  | refine wp_int ?_
  | refine wp_str ?_
  | refine wp_bl ?_
  | refine wp_non ?_
  | refine wl_nil ?_
  | refine wl_cons ?_
  | refine wp_tup ?_
  | refine wp_lst ?_
  | refine wp_ix ?_
  | refine wp_I0 ?_
  | refine wp_I ?_
  | refine wp_IB ?_
  | refine wp_neg ?_
  | refine wp_len rfl ?_
  | refine wt_test (wp_IB ?_)
  | refine wt_eqI ?_
  | refine wt_val ?_
  | refine ⟨_, _, rfl, rfl, ?_⟩
  | refine ⟨_, _, _, .inr rfl, rfl, rfl, ?_⟩
  | refine ⟨_, _, _, .inl rfl, rfl, rfl, ?_⟩
  | refine ⟨_, .inl rfl, ?_⟩
  | refine ⟨_, .inr rfl, ?_⟩
  | refine ⟨_, rfl, ?_⟩)
local macro_rules | `(tactic| walk_at "ev") => `(tactic| first
  | refine wp_not ?_
  | refine wp_isi ?_
  | refine wt_not ?_
  | refine wt_or ?_
  | refine wt_and ?_
  | refine ⟨_, _, _, .inr rfl, rfl, at0 _ _, ?_⟩
  | refine ⟨_, _, _, .inr rfl, rfl, at1 _ _ _, ?_⟩)
section
variable {P : Program} {w : World} {K : PySem.W.Frag} {mg : Str → Option Value} {base : Heap}
def preNames : List D → (D → Prop) → Prop := fun ds G => ∃ (num many : Nat) (dn : List (Nat × Deed)), ds = [.int num, .int many, .list (dn.map dnD)] ∧ (∀ x ∈ dn, x.1 < many) ∧ many ≤ 900 ∧ G (.list ((namOf num many dn).map fun (n : Nat) => PyData.int (n : Int)))
theorem ok_names_behind {f : Addr} {fd : FuncData} {k : Nat} (F : Fun K "names_behind" "names_behind" snames_behind f fd) (T : TG mg) : FnOk P w K mg base CX0 (k + 1) f fd ["number", "many", "done"] (spW K preNames) := by
  refine fn_dataW F scnames_behind (fun ds G h => ?_) (fun cdv A outer s H E hr => ?_)
  · obtain ⟨i, lo, a, rfl, _⟩ := h
    rfl
  refine ⟨_, (pss_cons (ps_set (i := 3) scnames_behind.nd rfl (.inr rfl) (pe_op op_rep (pe_lst (pa_cons pe_bl pa_nil)) (pv 1)))
      (pss_cons (ps_for PassesOwn.never rfl (pi_list (pv 2)) (pg_tup (by rfl) (pgs_cons (pg_name (i := 4) scnames_behind.nd rfl (.inl rfl)) (pgs_cons (pg_name (i := 5) scnames_behind.nd rfl (.inl rfl)) pgs_nil))) (pss_one (ps_if (PW.pt (pw_and (pt_cmpR (inK (K := K) rfl) (pe_ix (ixK (K := K) rfl) (pv 5) pe_int (fun _ _ => rfl)) (pe_tup (pa_cons pe_str (pa_cons pe_str pa_nil))) (by rfl)) (pw_and1 (pt_cmpR (eqK (K := K) rfl hr.units) (pe_ix (ixK (K := K) rfl) (pv 5) pe_int (fun _ _ => rfl)) (pv 0) (nomark _))))) (pss_one (ps_asg (pe_cmpR op_eq (pe_ix (ixK (K := K) rfl) (pv 5) pe_int (fun _ _ => rfl)) pe_str (nomark _)) (pg_sub (pv 3) (pv 4) set_list))) pss_nil)))
      (pss_one (ps_ret (pe_lc (own := [("work", 4)]) (g := (gName 4)) rfl scnames_behind.nd (pi_range1 (by rfl) T.n_range (pa_cons (pv 1) pa_nil)) (blkOk_by (own := [("work", 4)]) (N := ["number", "many", "done", "inside", "work", "deed"]) (sc := defScope snames_behind) (by decide +kernel)) (fun _ _ _ _ _ => (pg_name (i := 4) scnames_behind.nd rfl (Or.inl rfl))) (fun _ _ _ _ _ => (pts_one (pt_val (pe_ix (ixK (K := K) rfl) (pv 3) (pv 4) (fun _ _ => rfl))))) (fun _ _ _ _ _ => (pv 4))))))), fun Z ds G h al => ?_⟩
  obtain ⟨num, many, dn, rfl, hdn, hl, hG⟩ := h
  show SE _ _ _ [.dat (.int num), .dat (.int many), .dat (.list (dn.map dnD)), .no, .no, .no] _
  refine s_seq (s_own (wn_rep (wp_lst (wl_cons (wp_bl (wl_nil ⟨by show 1 ≤ 1000; decide, wp_var rfl ⟨_, _, rfl, rfl, by omega, fun p hp0 hpZ => ?_⟩⟩))))))
  refine s_seq (s_forL bnd2 (wp_var rfl ⟨_, rfl, fun i δ' => LeD [.dat (.int num), .dat (.int many), .dat (.list (dn.map dnD)), .own p ((insOf num many (dn.take i)).map .bool), .no, .no] δ', ?_, fun i x δ' v hx hI => ?_, fun δ' hI => ?_⟩))
  · show LeD _ [.dat (.int num), .dat (.int many), .dat (.list (dn.map dnD)), .own p (List.replicate many (.bool false)), .no, .no]
    rw [show (insOf num many (dn.take 0)).map PyData.bool = List.replicate many (.bool false) by simp [insOf]]
    exact leD_refl _
  · obtain ⟨x, hxe, rfl⟩ := atm hx
    have hxok := hdn x (List.mem_of_getElem? hxe)
    have hs : insOf num many (dn.take (i + 1)) = stepN num (insOf num many (dn.take i)) x.1 x.2 := fold_snoc hxe
    have hln : (insOf num many (dn.take i)).length = many := ins_len ..
    refine ⟨_, ⟨_, _, rfl, rfl⟩, s_le (leD_set 5 (leD_set 4 hI)) ?_⟩
    show SE _ _ _ [.dat (.int num), .dat (.int many), .dat (.list (dn.map dnD)), .own p ((insOf num many (dn.take i)).map .bool), .dat (.int x.1), .dat x.2.d] _
    obtain ⟨v1, dd⟩ := x
    have done : ∀ cs', cs' = stepN num (insOf num many (dn.take i)) v1 dd → LeD [.dat (.int num), .dat (.int many), .dat (.list (dn.map dnD)), .own p ((insOf num many (dn.take (i + 1))).map .bool), .no, .no] [.dat (.int num), .dat (.int many), .dat (.list (dn.map dnD)), .own p (cs'.map .bool), .dat (.int v1), .dat dd.d] := fun cs' e => by
      rw [hs, e]
      exact ⟨.inr rfl, .inr rfl, .inr rfl, .inr rfl, .inl rfl, .inl rfl, True.intro⟩
    cases dd with
    | enter c =>
      refine s_if (wt_and (wt_inS ?_))
      repeat walk_at "ev"
      refine ⟨by show 2 ≤ 1000; decide, "enter", ["enter", "leave"], rfl, rfl, fun _ => wt_eqII ?_, fun e => absurd e (by decide)⟩
      repeat walk_at "ev"
      refine ⟨fun e => ?_, fun e => s_next ⟨rfl, done _ ?_⟩⟩
      · have e := Int.ofNat_inj.mp (of_decide_eq_true e)
        refine s_setO rfl hp0 (by simp [sepL]) (wp_eqS ?_)
        repeat walk_at "ev"
        refine ⟨by rw [List.length_map, hln]; exact hxok, rfl, ?_⟩
        rw [← List.map_set]
        exact done _ (if_pos e).symm
      · exact (if_neg fun q => of_decide_eq_false e (by rw [q])).symm
    | leave c =>
      refine s_if (wt_and (wt_inS ?_))
      repeat walk_at "ev"
      refine ⟨by show 2 ≤ 1000; decide, "leave", ["enter", "leave"], rfl, rfl, fun _ => wt_eqII ?_, fun e => absurd e (by decide)⟩
      repeat walk_at "ev"
      refine ⟨fun e => ?_, fun e => s_next ⟨rfl, done _ ?_⟩⟩
      · have e := Int.ofNat_inj.mp (of_decide_eq_true e)
        refine s_setO rfl hp0 (by simp [sepL]) (wp_eqS ?_)
        repeat walk_at "ev"
        refine ⟨by rw [List.length_map, hln]; exact hxok, rfl, ?_⟩
        rw [← List.map_set]
        exact done _ (if_pos e).symm
      · exact (if_neg fun q => of_decide_eq_false e (by rw [q])).symm
    | add c n =>
      refine s_if (wt_and (wt_inS ?_))
      repeat walk_at "ev"
      refine ⟨by show 2 ≤ 1000; decide, "add", ["enter", "leave"], rfl, rfl, fun e => absurd e (by decide), fun _ => ⟨fun e => (by cases e), fun _ => s_next ⟨rfl, done _ rfl⟩⟩⟩
    | flag c n =>
      refine s_if (wt_and (wt_inS ?_))
      repeat walk_at "ev"
      refine ⟨by show 2 ≤ 1000; decide, "flag", ["enter", "leave"], rfl, rfl, fun e => absurd e (by decide), fun _ => ⟨fun e => (by cases e), fun _ => s_next ⟨rfl, done _ rfl⟩⟩⟩
    | take c =>
      refine s_if (wt_and (wt_inS ?_))
      repeat walk_at "ev"
      refine ⟨by show 2 ≤ 1000; decide, "take", ["enter", "leave"], rfl, rfl, fun e => absurd e (by decide), fun _ => ⟨fun e => (by cases e), fun _ => s_next ⟨rfl, done _ rfl⟩⟩⟩
    | drop c =>
      refine s_if (wt_and (wt_inS ?_))
      repeat walk_at "ev"
      refine ⟨by show 2 ≤ 1000; decide, "drop", ["enter", "leave"], rfl, rfl, fun e => absurd e (by decide), fun _ => ⟨fun e => (by cases e), fun _ => s_next ⟨rfl, done _ rfl⟩⟩⟩
  · rw [List.length_map, List.take_length] at hI
    refine s_le hI (s_retW (ww_ofN (wn_lcR bw1 ?_)))
    have hln : (insOf num many dn).length = many := ins_len ..
    repeat walk_at "ev"
    refine ⟨by omega, fun i rs => rs = ((List.range i).filter fun w => (insOf num many dn).getD w false).map fun (n : Nat) => PyData.int (n : Int), rfl, fun pp i rs hi hI => ⟨_, rfl, wt_val (wp_ixO rfl ?_)⟩, fun rs hI => ?_⟩
    · have hi : i < many := hi
      repeat walk_at "ev"
      refine ⟨_, _, rfl, at_m (getD_at (z := false) (by omega)), _, rfl, fun e => wp_var rfl ?_, fun e => ?_⟩
      · show _ = ((List.range (i + 1)).filter fun w => (insOf num many dn).getD w false).map _
        rw [hI, List.range_succ, List.filter_append, List.map_append, List.filter_cons_of_pos (by exact e)]
        rfl
      · show _ = ((List.range (i + 1)).filter fun w => (insOf num many dn).getD w false).map _
        rw [hI, List.range_succ, List.filter_append, List.map_append, List.filter_cons_of_neg (by rw [e]; decide)]
        simp
    · rw [hI]
      exact ⟨flat_nats _, hG⟩
def preState : List D → (D → Prop) → Prop := fun ds G => ∃ (h : Hs) (es : List Ev) (ws : List Wk), ds = [h.d, .list (es.map Ev.d)] ∧ RunOf h es ws ∧ h.ok ∧ es.length ≤ 300 ∧ G (stateD h es)
theorem done_ok {h : Hs} {es : List Ev} {ws : List Wk} (r : RunOf h es ws) (hok : h.ok) : DnOk h.t (doneOf h es) ∧ ∀ x ∈ doneOf h es, x.1 < (worksOf h es).length := by
  have key : ∀ x ∈ doneOf h es, x.2.ok h.t ∧ x.1 < (worksOf h es).length := fun x hx => by
    obtain ⟨y, hy, hxy⟩ := List.mem_flatMap.mp hx
    obtain ⟨k, kd, st, h1, h2, h3⟩ := r.goes y hy
    unfold deedsBy at hxy
    rw [show (kindsOf es).getD y.1 0 = k by rw [List.getD_eq_getElem?_getD, h1]; rfl, deedsAt_eq h2 h3] at hxy
    obtain ⟨d, hd, rfl⟩ := List.mem_map.mp hxy
    refine ⟨((hok.ks kd (List.mem_of_getElem? h2)).st st (List.mem_of_getElem? h3)).ds d hd, ?_⟩
    have := (List.getElem?_eq_some_iff.mp h1).1
    rw [← r.kinds, r.eq, List.length_map] at this
    exact this
  exact ⟨fun x hx => (key x hx).1, fun x hx => (key x hx).2⟩
theorem ok_state_behind {f f1 f2 f3 f4 f5 f6 : Addr} {fd fd1 fd2 fd3 fd4 fd5 fd6 : FuncData} {k : Nat} (F : Fun K "state_behind" "state_behind" sstate_behind f fd) (Fworks_behind : Fun K "works_behind" "works_behind" sworks_behind f1 fd1) (Bworks_behind : Binds K fd1 ["house", "value"] []) (gworks_behind : mg "works_behind" = some (.ref f1)) (Fdeeds_done : Fun K "deeds_done" "deeds_done" sdeeds_done f2 fd2) (Bdeeds_done : Binds K fd2 ["house", "run"] []) (gdeeds_done : mg "deeds_done" = some (.ref f2)) (Fcounters_behind : Fun K "counters_behind" "counters_behind" scounters_behind f3 fd3) (Bcounters_behind : Binds K fd3 ["many", "done"] []) (gcounters_behind : mg "counters_behind" = some (.ref f3)) (Fflags_behind : Fun K "flags_behind" "flags_behind" sflags_behind f4 fd4) (Bflags_behind : Binds K fd4 ["many", "done"] []) (gflags_behind : mg "flags_behind" = some (.ref f4)) (Fslots_behind : Fun K "slots_behind" "slots_behind" sslots_behind f5 fd5) (Bslots_behind : Binds K fd5 ["many", "done"] []) (gslots_behind : mg "slots_behind" = some (.ref f5)) (Fnames_behind : Fun K "names_behind" "names_behind" snames_behind f6 fd6) (Bnames_behind : Binds K fd6 ["number", "many", "done"] []) (gnames_behind : mg "names_behind" = some (.ref f6)) (T : TG mg) (Gworks_behind : FnOk P w K mg base CX0 k f1 fd1 ["house", "value"] (spW K preWorks)) (Gdeeds_done : FnOk P w K mg base CX0 k f2 fd2 ["house", "run"] (spD K preDone)) (Gcounters_behind : FnOk P w K mg base CX0 k f3 fd3 ["many", "done"] (spW K preCounters)) (Gflags_behind : FnOk P w K mg base CX0 k f4 fd4 ["many", "done"] (spW K preFlags)) (Gslots_behind : FnOk P w K mg base CX0 k f5 fd5 ["many", "done"] (spW K preSlots)) (Gnames_behind : FnOk P w K mg base CX0 k f6 fd6 ["number", "many", "done"] (spW K preNames)) : FnOk P w K mg base CX0 (k + 1) f fd ["house", "run"] (spW K preState) := by
  refine fn_dataW F scstate_behind (fun ds G h => ?_) (fun cdv A outer s H E hr => ?_)
  · obtain ⟨i, lo, a, rfl, _⟩ := h
    rfl
  refine ⟨_, (pss_cons (ps_set (i := 2) scstate_behind.nd rfl (.inr rfl) (pe_call Gworks_behind hr (by rfl) gworks_behind Fworks_behind.kp Bworks_behind .nil pass0 (pa_cons (pv 0) (pa_cons (pv 1) pa_nil))))
      (pss_cons (ps_set (i := 3) scstate_behind.nd rfl (.inr rfl) (pe_call Gdeeds_done hr (by rfl) gdeeds_done Fdeeds_done.kp Bdeeds_done .nil pass0 (pa_cons (pv 0) (pa_cons (pv 1) pa_nil))))
      (pss_one (ps_ret (pe_tup (pa_cons (pe_call Gcounters_behind hr (by rfl) gcounters_behind Fcounters_behind.kp Bcounters_behind .nil pass0 (pa_cons (pe_ix (ixK (K := K) rfl) (pv 0) pe_int (fun _ _ => rfl)) (pa_cons (pv 3) pa_nil))) (pa_cons (pe_call Gflags_behind hr (by rfl) gflags_behind Fflags_behind.kp Bflags_behind .nil pass0 (pa_cons (pe_ix (ixK (K := K) rfl) (pv 0) pe_int (fun _ _ => rfl)) (pa_cons (pv 3) pa_nil))) (pa_cons (pe_call Gslots_behind hr (by rfl) gslots_behind Fslots_behind.kp Bslots_behind .nil pass0 (pa_cons (pe_ix (ixK (K := K) rfl) (pv 0) pe_int (fun _ _ => rfl)) (pa_cons (pv 3) pa_nil))) (pa_cons (pe_lc (own := [("number", 4)]) (g := (gName 4)) rfl scstate_behind.nd (pi_range1 (by rfl) T.n_range (pa_cons (pe_ix (ixK (K := K) rfl) (pv 0) pe_int (fun _ _ => rfl)) pa_nil)) (blkOk_by (own := [("number", 4)]) (N := ["house", "run", "works", "done", "number"]) (sc := defScope sstate_behind) (by decide +kernel)) (fun _ _ _ _ _ => (pg_name (i := 4) scstate_behind.nd rfl (Or.inl rfl))) (fun _ _ _ _ _ => pts_nil) (fun _ _ _ _ _ => (pe_call Gnames_behind hr (by rfl) gnames_behind Fnames_behind.kp Bnames_behind .nil pass0 (pa_cons (pv 4) (pa_cons (pe_callB (lenK (K := K) rfl) (by rfl) T.n_len (by decide +kernel) (pa_cons (pv 2) pa_nil)) (pa_cons (pv 3) pa_nil)))))) (pa_cons (pv 2) pa_nil)))))))))), fun Z ds G h al => ?_⟩
  obtain ⟨h, es, ws, rfl, r, hok, hl, hG⟩ := h
  obtain ⟨d1, d2⟩ := done_ok r hok
  have lw := r.len
  rw [r.eq] at lw
  obtain ⟨t1, t2, t3, t4⟩ := hok.t
  show SE _ _ _ [.dat h.d, .dat (.list (es.map Ev.d)), .no, .no, .no] _
  refine s_seq (s_str (ww_call ?_))
  repeat walk_at "ev"
  refine ⟨h, es, ws, rfl, r, by omega, fun L hL0 hLZ => ?_⟩
  refine s_seq (s_asg (wp_call ?_))
  repeat walk_at "ev"
  refine ⟨h, es, ws, rfl, r, hok, hl, ?_⟩
  show SE _ _ _ [.dat h.d, .dat (.list (es.map Ev.d)), .str L (.list ((worksOf h es).map wkD)), .dat (.list ((doneOf h es).map dnD)), .no] _
  have zs : ∀ {A : List Addr} {a : Addr}, a ∈ L ++ Z → a ∈ A ++ (L ++ Z) := fun m => List.mem_append_right _ m
  refine s_retWT (wwl_cons (fun a m => m) (ww_call ?_)) al
  repeat walk_at "ev"
  refine ⟨h.t, _, rfl, d1, by omega, fun L1 => wwl_cons (fun a m => zs m) (ww_call ?_)⟩
  repeat walk_at "ev"
  refine ⟨h.t, _, rfl, d1, by omega, fun L2 => wwl_cons (fun a m => List.mem_append_right _ (zs m)) (ww_call ?_)⟩
  repeat walk_at "ev"
  refine ⟨h.t, _, rfl, d1, by omega, fun L3 => wwl_cons (fun a m => List.mem_append_right _ (List.mem_append_right _ (zs m))) (ww_lcR bw1 ?_)⟩
  repeat walk_at "ev"
  refine ⟨by omega, fun i rs => rs = (List.range i).map fun k => PyData.list ((namOf k (worksOf h es).length (doneOf h es)).map fun (n : Nat) => PyData.int (n : Int)), rfl, fun p M i rs hi hI => ⟨_, rfl, ww_call ?_⟩, fun rs hI => ?_⟩
  · refine wl_cons (wp_var rfl (wl_cons (wp_len rfl (wp_str' rfl ⟨_, .inl rfl, wl_cons (wp_var rfl (wl_nil ?_))⟩))))
    rw [List.length_map]
    refine ⟨i, _, _, rfl, d2, by omega, ?_⟩
    show _ = (List.range (i + 1)).map _
    rw [hI, List.range_succ, List.map_append]
    rfl
  · intro L4
    refine wwl_str rfl (fun a m => List.mem_append_left _ m) ⟨by show 5 ≤ 1000; decide, hL0, ?_⟩
    rw [hI]
    exact hG
theorem ok_state_after {f f1 f2 f3 : Addr} {fd fd1 fd2 fd3 : FuncData} {k : Nat} (F : Fun K "state_after" "state_after" sstate_after f fd) (Fcheck_house : Fun K "check_house" "check_house" scheck_house f1 fd1) (Bcheck_house : Binds K fd1 ["house"] []) (gcheck_house : mg "check_house" = some (.ref f1)) (Fcheck_run : Fun K "check_run" "check_run" scheck_run f2 fd2) (Bcheck_run : Binds K fd2 ["house", "run"] []) (gcheck_run : mg "check_run" = some (.ref f2)) (Fstate_behind : Fun K "state_behind" "state_behind" sstate_behind f3 fd3) (Bstate_behind : Binds K fd3 ["house", "run"] []) (gstate_behind : mg "state_behind" = some (.ref f3)) (T : TG mg) (Gcheck_house : FnOk P w K mg base CX0 k f1 fd1 ["house"] (spD K preIsHouse2)) (Gcheck_run : FnOk P w K mg base CX0 k f2 fd2 ["house", "run"] (spD K preCheckRun)) (Gstate_behind : FnOk P w K mg base CX0 k f3 fd3 ["house", "run"] (spW K preState)) : FnOk P w K mg base CX0 (k + 1) f fd ["house", "run"] (spW K preState) := by
  refine fn_dataW F scstate_after (fun ds G h => ?_) (fun cdv A outer s H E hr => ?_)
  · obtain ⟨i, lo, a, rfl, _⟩ := h
    rfl
  refine ⟨_, (pss_cons (ps_expr (pe_call Gcheck_house hr (by rfl) gcheck_house Fcheck_house.kp Bcheck_house .nil pass0 (pa_cons (pv 0) pa_nil)))
      (pss_cons (ps_expr (pe_call Gcheck_run hr (by rfl) gcheck_run Fcheck_run.kp Bcheck_run .nil pass0 (pa_cons (pv 0) (pa_cons (pv 1) pa_nil))))
      (pss_one (ps_ret (pe_call Gstate_behind hr (by rfl) gstate_behind Fstate_behind.kp Bstate_behind .nil pass0 (pa_cons (pv 0) (pa_cons (pv 1) pa_nil))))))), fun Z ds G h al => ?_⟩
  obtain ⟨h, es, ws, rfl, r, hok, hl, hG⟩ := h
  show SE _ _ _ [.dat h.d, .dat (.list (es.map Ev.d))] _
  refine s_seq (s_drop (wp_callS ?_))
  repeat walk_at "ev"
  refine ⟨hok, rfl, ?_⟩
  refine s_seq (s_drop (wp_callS ?_))
  repeat walk_at "ev"
  refine ⟨h, es, ws, rfl, r, by omega, rfl, ?_⟩
  refine s_retW (ww_call ?_)
  repeat walk_at "ev"
  exact ⟨h, es, ws, rfl, r, hok, hl, hG⟩
end
end Kw

set_option Elab.async false
set_option linter.all false
set_option maxRecDepth 100000
namespace Kw
open PySem PySem.Spec PyProof.Rows L2
local macro_rules | `(tactic| walk_at "ev") => `(tactic| first
  | refine wp_var rfl ?_
  | refine wp_int ?_
  | refine wp_str ?_
  | refine wp_bl ?_
  | refine wp_non ?_
  | refine wl_nil ?_
  | refine wl_cons ?_
  | refine wp_tup ?_
  | refine wp_lst ?_
  | refine wp_ix ?_
  | refine wp_I0 ?_
  | refine wp_I ?_
  | refine wp_IB ?_
  | refine wp_neg ?_
  | refine wp_len rfl ?_
  | refine wt_test (wp_IB ?_)
  | refine wt_eqI ?_
  | refine wt_val ?_
  | refine ⟨_, _, rfl, rfl, ?_⟩
  | refine ⟨_, _, _, .inr rfl, rfl, rfl, ?_⟩
  | refine ⟨_, _, _, .inl rfl, rfl, rfl, ?_⟩
  | refine ⟨_, .inl rfl, ?_⟩
  | refine ⟨_, .inr rfl, ?_⟩
  | refine ⟨_, rfl, ?_⟩)
local macro_rules | `(tactic| walk_at "ev") => `(tactic| first
  | refine ⟨_, _, _, .inr rfl, rfl, at0 _ _, ?_⟩
  | refine ⟨_, _, _, .inr rfl, rfl, at1 _ _ _, ?_⟩)
abbrev s_law_state : Stmt := topS 44
theorem sc_law_state : FnScope ["home", "events_here", "sums", "lamps", "holders", "rooms", "k", "works_here", "event", "who", "deeds_here", "deed", "others", "one", "some"] ["home", "events_here"] (defScope s_law_state) := ⟨rfl, rfl, rfl, by decide +kernel, rfl, by decide +kernel, by decide +kernel⟩

section
variable {P : Program} {w : World} {K : PySem.W.Frag} {mg : Str → Option Value} {base : Heap}
def preLawState : List D → (D → Prop) → Prop := fun ds G => ∃ (h : Hs) (es : List Ev) (ws : List Wk), ds = [h.d, .list (es.map Ev.d)] ∧ RunOf h es ws ∧ h.ok ∧ es.length ≤ 100 ∧ G (stateD h es)
def dnP (h : Hs) (es : List Ev) (i : Nat) : List (Nat × Deed) := (goesOf (es.take i)).flatMap (deedsBy h (kindsOf es))
theorem cnt_snoc (n : Nat) (dn : List (Nat × Deed)) (x : Nat × Deed) : cntOf n (dn ++ [x]) = stepC (cntOf n dn) x.2 := by
  unfold cntOf
  rw [List.foldl_append]
  rfl
theorem flg_snoc (n : Nat) (dn : List (Nat × Deed)) (x : Nat × Deed) : flgOf n (dn ++ [x]) = stepF (flgOf n dn) x.2 := by
  unfold flgOf
  rw [List.foldl_append]
  rfl
theorem slt_snoc (n : Nat) (dn : List (Nat × Deed)) (x : Nat × Deed) : sltOf n (dn ++ [x]) = stepS (sltOf n dn) x.1 x.2 := by
  unfold sltOf
  rw [List.foldl_append]
  rfl
/-- where the loops of the law stand -/
def Lst (h : Hs) (es : List Ev) (p1 p2 p3 p4 : Addr) (dn : List (Nat × Deed)) (rm : List (List Nat)) (s6 s7 s8 s9 s10 s11 : Sl) : List Sl :=
  [.dat h.d, .dat (.list (es.map Ev.d)), .own p1 ((cntOf h.t.cs dn).map .int), .own p2 ((flgOf h.t.fs dn).map .bool), .own p3 ((sltOf h.t.ss dn).map optD), .own p4 (rm.map fun l => .list (natsD l)), s6, s7, s8, s9, s10, s11, .no, .no, .no]
def wordT (K : PySem.W.Frag) (z : Str) : TT := tTest (tOp rEq (tOp (rIx K) (tVar 11) (tC (.int 0))) (tC (.str z)))
def turnT (K : PySem.W.Frag) : TS := tSeq (tAsg (tOp (rIx K) (tVar 11) (tC (.int 1))) (gName 6))
  (tIfS (wordT K "add") (tAsg (tOp (rI0 fun i j => .int (i + j)) (tOp (rIx K) (tVar 2) (tVar 6)) (tOp (rIx K) (tVar 11) (tC (.int 2)))) (gSub (tVar 2) (tVar 6) rSetL))
  (tIfS (wordT K "flag") (tAsg (tOp (rIx K) (tVar 11) (tC (.int 2))) (gSub (tVar 3) (tVar 6) rSetL))
  (tIfS (wordT K "take") (tAsg (tVar 9) (gSub (tVar 4) (tVar 6) rSetL))
  (tIfS (wordT K "drop") (tAsg (tIf (tTest (tOp (rEqD K) (tOp (rIx K) (tVar 4) (tVar 6)) (tVar 9))) (tC .non) (tOp (rIx K) (tVar 4) (tVar 6))) (gSub (tVar 4) (tVar 6) rSetL))
  (tSeq (tAsg (tLc (iList K (tOp (rIx K) (tVar 5) (tVar 6))) (gName 13) (tTest (tOp (rNeD K) (tVar 13) (tVar 9))) (tVar 13) [13]) (gName 12))
    (tAsg (tOp rCat (tVar 12) (tIf (wordT K "enter") (tLst (tCons (tVar 9) tNil)) (tLst tNil))) (gSub (tVar 5) (tVar 6) rSetL)))))))
section
variable {f : Fx} {Z : List Addr} {E : EndsD} {p1 p2 p3 p4 : Addr} {h : Hs} {es : List Ev} {dn : List (Nat × Deed)} {rm : List (List Nat)} {v N : Nat} {s6 s7 s8 s9 s10 s12 : Sl} {t u : TS}
theorem word_no {z : Str} {dd : Deed} {x : Str} {r : List D} (e : dd.d = .tuple (.str x :: r)) (n : decide (x = z) = false) (hu : SE f u Z ((Lst h es p1 p2 p3 p4 dn rm s6 s7 s8 s9 s10 (.dat dd.d)).set 12 s12) E) : SE f (tIfS (wordT f.K z) t u) Z ((Lst h es p1 p2 p3 p4 dn rm s6 s7 s8 s9 s10 (.dat dd.d)).set 12 s12) E := by
  refine s_if (wt_eqS (wp_ix (wp_var (d := dd.d) rfl (wp_int ⟨_, _, _, .inr e, rfl, at0 _ _, wp_str ⟨_, _, rfl, rfl, fun c => ?_, fun _ => hu⟩⟩))))
  rw [n] at c
  cases c
theorem word_yes {z : Str} {dd : Deed} {r : List D} (e : dd.d = .tuple (.str z :: r)) (ht : SE f t Z ((Lst h es p1 p2 p3 p4 dn rm s6 s7 s8 s9 s10 (.dat dd.d)).set 12 s12) E) : SE f (tIfS (wordT f.K z) t u) Z ((Lst h es p1 p2 p3 p4 dn rm s6 s7 s8 s9 s10 (.dat dd.d)).set 12 s12) E := by
  refine s_if (wt_eqS (wp_ix (wp_var (d := dd.d) rfl (wp_int ⟨_, _, _, .inr e, rfl, at0 _ _, wp_str ⟨_, _, rfl, rfl, fun _ => ht, fun c => ?_⟩⟩))))
  rw [decide_eq_true rfl] at c
  cases c
theorem deed_turn {w7 w8 w10 : D} (q1 : f.H0 p1 = none) (q2 : f.H0 p2 = none) (q3 : f.H0 p3 = none) (q4 : f.H0 p4 = none) (n12 : p1 ≠ p2) (n13 : p1 ≠ p3) (n14 : p1 ≠ p4) (n23 : p2 ≠ p3) (n24 : p2 ≠ p4) (n34 : p3 ≠ p4)
    {dd : Deed} (ok : dd.ok h.t) (r : RmOk h.t.rs N dn rm) (hv : v < N) (hd : dn.length ≤ 900)
    (hE : ∀ rm' s6' s12', RmOk h.t.rs N (dn ++ [(v, dd)]) rm' → E.nx Z ((Lst h es p1 p2 p3 p4 (dn ++ [(v, dd)]) rm' s6' (.dat w7) (.dat w8) (.dat (.int v)) (.dat w10) (.dat dd.d)).set 12 s12')) :
    SE f (turnT f.K) Z (Lst h es p1 p2 p3 p4 dn rm .no (.dat w7) (.dat w8) (.dat (.int v)) (.dat w10) (.dat dd.d)) E := by
  have q : ∀ {cs : List Int} {fs : List Bool} {ss : List (Option Nat)} {rm' : List (List Nat)} {s6' s12' : Sl}, cs = stepC (cntOf h.t.cs dn) dd → fs = stepF (flgOf h.t.fs dn) dd → ss = stepS (sltOf h.t.ss dn) v dd → RmOk h.t.rs N (dn ++ [(v, dd)]) rm' →
      E.nx Z [.dat h.d, .dat (.list (es.map Ev.d)), .own p1 (cs.map .int), .own p2 (fs.map .bool), .own p3 (ss.map optD), .own p4 (rm'.map fun l => .list (natsD l)), s6', .dat w7, .dat w8, .dat (.int v), .dat w10, .dat dd.d, s12', .no, .no] := by
    intro cs fs ss rm' s6' s12' e1 e2 e3 hr
    have g := hE rm' s6' s12' hr
    unfold Lst at g
    rw [cnt_snoc, flg_snoc, slt_snoc] at g
    rw [e1, e2, e3]
    exact g
  have l1 : (cntOf h.t.cs dn).length = h.t.cs := cnt_len ..
  have l2 : (flgOf h.t.fs dn).length = h.t.fs := flg_len ..
  have l3 : (sltOf h.t.ss dn).length = h.t.ss := slt_len ..
  have lr := r.len
  have rooms : ∀ (dd : Deed) (c : Nat) (b : Bool) (z : Str), dd.d = .tuple [.str z, .int c] → b = decide (z = "enter") → c < h.t.rs → (∀ rm' s6' s12', RmOk h.t.rs N (dn ++ [(v, dd)]) rm' → E.nx Z [.dat h.d, .dat (.list (es.map Ev.d)), .own p1 ((cntOf h.t.cs dn).map .int), .own p2 ((flgOf h.t.fs dn).map .bool), .own p3 ((sltOf h.t.ss dn).map optD), .own p4 (rm'.map fun l => .list (natsD l)), s6', .dat w7, .dat w8, .dat (.int v), .dat w10, .dat dd.d, s12', .no, .no]) →
      (∀ k is, stepN k is v dd = if c = k then is.set v b else is) → SE f (tSeq (tAsg (tLc (iList f.K (tOp (rIx f.K) (tVar 5) (tVar 6))) (gName 13) (tTest (tOp (rNeD f.K) (tVar 13) (tVar 9))) (tVar 13) [13]) (gName 12))
        (tAsg (tOp rCat (tVar 12) (tIf (wordT f.K "enter") (tLst (tCons (tVar 9) tNil)) (tLst tNil))) (gSub (tVar 5) (tVar 6) rSetL))) Z
        [.dat h.d, .dat (.list (es.map Ev.d)), .own p1 ((cntOf h.t.cs dn).map .int), .own p2 ((flgOf h.t.fs dn).map .bool), .own p3 ((sltOf h.t.ss dn).map optD), .own p4 (rm.map fun l => .list (natsD l)), .dat (.int c), .dat w7, .dat w8, .dat (.int v), .dat w10, .dat dd.d, .no, .no, .no] E := by
    intro dd c b z ed eb hc hE hst
    have hg : rm[c]? = some (rm.getD c []) := getD_at (by omega)
    have few : (rm.getD c []).length ≤ 900 := Nat.le_trans (r.few _ (List.mem_of_getElem? hg)) hd
    refine s_seq (s_asg (wp_new (wn_lcL bw1 (wp_ixO rfl (wp_var rfl ⟨_, _, rfl, at_m hg, _, rfl, by unfold natsD; rw [List.length_map]; omega, fun i rs => rs = natsD (((rm.getD c []).take i).filter fun o => !decide (o = v)), rfl, fun p i x rs hx hI => ⟨_, rfl, wt_neII (wp_var rfl (wp_var rfl ?_))⟩, fun rs hI => ?_⟩)))))
    · obtain ⟨y, hy, rfl⟩ := atm hx
      refine ⟨_, _, rfl, rfl, fun c1 => wp_var rfl ?_, fun c1 => ?_⟩
      · show _ = natsD (((rm.getD c []).take (i + 1)).filter fun o => !decide (o = v))
        have c2 : (!decide (y = v)) = true := by
          rw [← c1]
          exact congrArg not (decide_eq_decide.mpr ⟨fun e => by rw [e], fun e => by omega⟩)
        rw [hI, take_snoc hy, List.filter_append, List.filter_cons_of_pos (by exact c2)]
        unfold natsD
        rw [List.map_append]
        rfl
      · show _ = natsD (((rm.getD c []).take (i + 1)).filter fun o => !decide (o = v))
        have c2 : (!decide (y = v)) = false := by
          rw [← c1]
          exact congrArg not (decide_eq_decide.mpr ⟨fun e => by rw [e], fun e => by omega⟩)
        rw [hI, take_snoc hy, List.filter_append, List.filter_cons_of_neg (by rw [c2]; decide)]
        simp
    · have ln : (natsD (rm.getD c [])).length = (rm.getD c []).length := List.length_map ..
      rw [ln, List.take_length] at hI
      subst hI
      have lf : (natsD ((rm.getD c []).filter fun o => !decide (o = v))).length ≤ 900 := by
        unfold natsD
        rw [List.length_map]
        exact Nat.le_trans (List.length_filter_le ..) few
      refine s_setO rfl q4 ⟨n14, n24, n34, True.intro⟩ (wp_new (wn_cat (wp_var rfl (wp_if (wt_eqS (wp_ix (wp_var (d := dd.d) rfl (wp_int ⟨_, _, _, .inr ed, rfl, at0 _ _, wp_str ⟨_, _, rfl, rfl, fun c1 => ?_, fun c1 => ?_⟩⟩))))))))
      · have hb : b = true := eb.trans c1
        subst hb
        refine wp_lst (wl_cons (wp_var rfl (wl_nil ⟨by show 1 ≤ 1000; decide, _, _, rfl, rfl, by show _ + 1 ≤ 1000; omega, wp_var rfl ⟨c, rfl, by rw [List.length_map]; omega, ?_⟩⟩)))
        have g := hE _ (.dat (.int c)) (.dat (.list (natsD ((rm.getD c []).filter fun o => !decide (o = v))))) (r.put dd hc hv hst)
        rw [List.map_set] at g
        unfold natsD at g ⊢
        rw [List.map_append] at g
        exact g
      · have hb : b = false := eb.trans c1
        subst hb
        refine wp_lst (wl_nil ⟨by decide, _, _, rfl, rfl, by show _ + 0 ≤ 1000; omega, wp_var rfl ⟨c, rfl, by rw [List.length_map]; omega, ?_⟩⟩)
        have g := hE _ (.dat (.int c)) (.dat (.list (natsD ((rm.getD c []).filter fun o => !decide (o = v))))) (r.put dd hc hv hst)
        rw [List.map_set] at g
        unfold natsD at g ⊢
        rw [List.map_append] at g
        exact g
  cases dd with
  | add c n =>
    have hc : c < h.t.cs := ok.1
    refine s_seq (s_asg (wp_ix (wp_var (d := (Deed.add c n).d) rfl (wp_int ⟨_, _, _, .inr rfl, rfl, rfl, ?_⟩))))
    refine word_yes (s12 := .no) (s6 := .dat (.int c)) (dd := .add c n) rfl ?_
    refine s_setO rfl q1 ⟨Ne.symm n12, Ne.symm n13, Ne.symm n14, True.intro⟩ (wp_I0 (wp_ixO rfl (wp_var rfl ⟨_, _, rfl, at_m (getD_at (z := (0 : Int)) (i := c) (by omega)), wp_ix (wp_var (d := (Deed.add c n).d) rfl (wp_int ⟨_, _, _, .inr rfl, rfl, rfl, ?_⟩))⟩)))
    refine ⟨_, _, rfl, rfl, wp_var rfl ⟨c, rfl, by rw [List.length_map]; omega, ?_⟩⟩
    rw [← List.map_set]
    exact q (fs := flgOf h.t.fs dn) (ss := sltOf h.t.ss dn) rfl rfl rfl (r.same (v, .add c n) fun k is => rfl)
  | flag c b =>
    have hc : c < h.t.fs := ok
    refine s_seq (s_asg (wp_ix (wp_var (d := (Deed.flag c b).d) rfl (wp_int ⟨_, _, _, .inr rfl, rfl, rfl, ?_⟩))))
    refine word_no (s12 := .no) (s6 := .dat (.int c)) (dd := .flag c b) (x := "flag") rfl (by decide) ?_
    refine word_yes (s12 := .no) (s6 := .dat (.int c)) (dd := .flag c b) rfl ?_
    refine s_setO rfl q2 ⟨n12, Ne.symm n23, Ne.symm n24, True.intro⟩ (wp_ix (wp_var (d := (Deed.flag c b).d) rfl (wp_int ⟨_, _, _, .inr rfl, rfl, rfl, ?_⟩)))
    refine wp_var rfl ⟨c, rfl, by rw [List.length_map]; omega, ?_⟩
    rw [← List.map_set]
    exact q (cs := cntOf h.t.cs dn) (ss := sltOf h.t.ss dn) rfl rfl rfl (r.same (v, .flag c b) fun k is => rfl)
  | take c =>
    have hc : c < h.t.ss := ok
    refine s_seq (s_asg (wp_ix (wp_var (d := (Deed.take c).d) rfl (wp_int ⟨_, _, _, .inr rfl, rfl, rfl, ?_⟩))))
    refine word_no (s12 := .no) (s6 := .dat (.int c)) (dd := .take c) (x := "take") rfl (by decide) ?_
    refine word_no (s12 := .no) (s6 := .dat (.int c)) (dd := .take c) (x := "take") rfl (by decide) ?_
    refine word_yes (s12 := .no) (s6 := .dat (.int c)) (dd := .take c) rfl ?_
    refine s_setO rfl q3 ⟨n13, n23, Ne.symm n34, True.intro⟩ (wp_var rfl (wp_var rfl ⟨c, rfl, by rw [List.length_map]; omega, ?_⟩))
    rw [show PyData.int (v : Int) = optD (some v) from rfl, ← List.map_set]
    exact q (cs := cntOf h.t.cs dn) (fs := flgOf h.t.fs dn) rfl rfl rfl (r.same (v, .take c) fun k is => rfl)
  | drop c =>
    have hc : c < h.t.ss := ok
    have hg : (sltOf h.t.ss dn)[c]? = some ((sltOf h.t.ss dn).getD c none) := getD_at (by omega)
    refine s_seq (s_asg (wp_ix (wp_var (d := (Deed.drop c).d) rfl (wp_int ⟨_, _, _, .inr rfl, rfl, rfl, ?_⟩))))
    refine word_no (s12 := .no) (s6 := .dat (.int c)) (dd := .drop c) (x := "drop") rfl (by decide) ?_
    refine word_no (s12 := .no) (s6 := .dat (.int c)) (dd := .drop c) (x := "drop") rfl (by decide) ?_
    refine word_no (s12 := .no) (s6 := .dat (.int c)) (dd := .drop c) (x := "drop") rfl (by decide) ?_
    refine word_yes (s12 := .no) (s6 := .dat (.int c)) (dd := .drop c) rfl ?_
    refine s_setO rfl q3 ⟨n13, n23, Ne.symm n34, True.intro⟩ (wp_if (wt_test (wp_eq (wp_ixO rfl (wp_var rfl ⟨_, _, rfl, at_m hg, wp_var rfl ⟨sh_opt _, sh_int _, _, rfl, fun e => ?_, fun e => ?_⟩⟩)))))
    · rw [ev_opt] at e
      refine wp_non (wp_var rfl ⟨c, rfl, by rw [List.length_map]; omega, ?_⟩)
      rw [show PyData.none = optD none from rfl, ← List.map_set]
      exact q (cs := cntOf h.t.cs dn) (fs := flgOf h.t.fs dn) rfl rfl (if_pos (of_decide_eq_true e)).symm (r.same (v, .drop c) fun k is => rfl)
    · rw [ev_opt] at e
      refine wp_ixO rfl (wp_var rfl ⟨_, _, rfl, at_m hg, wp_var rfl ⟨c, rfl, by rw [List.length_map]; omega, ?_⟩⟩)
      rw [← List.map_set]
      refine q (cs := cntOf h.t.cs dn) (fs := flgOf h.t.fs dn) rfl rfl ?_ (r.same (v, .drop c) fun k is => rfl)
      show _ = if (sltOf h.t.ss dn).getD c none = some v then (sltOf h.t.ss dn).set c none else sltOf h.t.ss dn
      rw [if_neg (of_decide_eq_false e)]
      apply List.ext_getElem?
      intro j
      by_cases hj : c = j
      · subst hj
        rw [List.getElem?_set_self (by omega), hg]
      · rw [List.getElem?_set_ne hj]
  | enter c =>
    refine s_seq (s_asg (wp_ix (wp_var (d := (Deed.enter c).d) rfl (wp_int ⟨_, _, _, .inr rfl, rfl, rfl, ?_⟩))))
    refine word_no (s12 := .no) (s6 := .dat (.int c)) (dd := .enter c) (x := "enter") rfl (by decide) ?_
    refine word_no (s12 := .no) (s6 := .dat (.int c)) (dd := .enter c) (x := "enter") rfl (by decide) ?_
    refine word_no (s12 := .no) (s6 := .dat (.int c)) (dd := .enter c) (x := "enter") rfl (by decide) ?_
    refine word_no (s12 := .no) (s6 := .dat (.int c)) (dd := .enter c) (x := "enter") rfl (by decide) ?_
    exact rooms (.enter c) c true "enter" rfl (by decide) ok (fun rm' s6' s12' hr => q (cs := cntOf h.t.cs dn) (fs := flgOf h.t.fs dn) (ss := sltOf h.t.ss dn) rfl rfl rfl hr) fun k is => rfl
  | leave c =>
    refine s_seq (s_asg (wp_ix (wp_var (d := (Deed.leave c).d) rfl (wp_int ⟨_, _, _, .inr rfl, rfl, rfl, ?_⟩))))
    refine word_no (s12 := .no) (s6 := .dat (.int c)) (dd := .leave c) (x := "leave") rfl (by decide) ?_
    refine word_no (s12 := .no) (s6 := .dat (.int c)) (dd := .leave c) (x := "leave") rfl (by decide) ?_
    refine word_no (s12 := .no) (s6 := .dat (.int c)) (dd := .leave c) (x := "leave") rfl (by decide) ?_
    refine word_no (s12 := .no) (s6 := .dat (.int c)) (dd := .leave c) (x := "leave") rfl (by decide) ?_
    exact rooms (.leave c) c false "leave" rfl (by decide) ok (fun rm' s6' s12' hr => q (cs := cntOf h.t.cs dn) (fs := flgOf h.t.fs dn) (ss := sltOf h.t.ss dn) rfl rfl rfl hr) fun k is => rfl
end
theorem dnP_take {h : Hs} {es : List Ev} {i : Nat} {e : Ev} (he : es[i]? = some e) : dnP h es (i + 1) = dnP h es i ++ (match e with | .begin _ => [] | .go v s => deedsBy h (kindsOf es) (v, s)) := by
  unfold dnP
  rw [goes_take he, List.flatMap_append]
  cases e <;> simp
theorem dnP_len {h : Hs} {es : List Ev} {ws : List Wk} (r : RunOf h es ws) (hok : h.ok) (i : Nat) : (dnP h es i).length ≤ 3 * es.length := by
  have := flat_len (g := deedsBy h (kindsOf es)) (m := 3) (xs := goesOf (es.take i)) fun x hx => by
    have hx' : x ∈ goesOf es := by
      unfold goesOf at hx ⊢
      obtain ⟨e, he, hxe⟩ := List.mem_filterMap.mp hx
      exact List.mem_filterMap.mpr ⟨e, List.mem_of_mem_take he, hxe⟩
    obtain ⟨k, kd, st, h1, h2, h3⟩ := r.goes x hx'
    unfold deedsBy
    rw [List.length_map, show (kindsOf es).getD x.1 0 = k by rw [List.getD_eq_getElem?_getD, h1]; rfl, deedsAt_eq h2 h3]
    exact ((hok.ks kd (List.mem_of_getElem? h2)).st st (List.mem_of_getElem? h3)).len
  have g := goes_len (es.take i)
  rw [List.length_take] at g
  have : 3 * (goesOf (es.take i)).length ≤ 3 * es.length := by omega
  unfold dnP
  omega
theorem ok__law_state {f f1 : Addr} {fd fd1 : FuncData} {k : Nat} (F : Fun K "_law_state" "_law_state" s_law_state f fd) (F_law_moved : Fun K "_law_moved" "_law_moved" s_law_moved f1 fd1) (B_law_moved : Binds K fd1 ["home", "works_here", "event"] []) (g_law_moved : mg "_law_moved" = some (.ref f1)) (T : TG mg) (G_law_moved : FnOk P w K mg base CX0 k f1 fd1 ["home", "works_here", "event"] (spD K preMoved)) : FnOk P w K mg base CX0 (k + 1) f fd ["home", "events_here"] (spD K preLawState) := by
  refine fn_data F sc_law_state (fun ds G h => ?_) (fun cdv A outer s H E hr => ?_)
  · obtain ⟨i, lo, a, rfl, _⟩ := h
    rfl
  refine ⟨_, (pss_cons (ps_par (i := 2) (j := 3) (by rfl) sc_law_state.nd rfl rfl (by decide) rfl rfl (pa_cons (pe_op op_rep (pe_lst (pa_cons pe_int pa_nil)) (pe_ix (ixK (K := K) rfl) (pv 0) pe_int (fun _ _ => rfl))) (pa_cons (pe_op op_rep (pe_lst (pa_cons pe_bl pa_nil)) (pe_ix (ixK (K := K) rfl) (pv 0) pe_int (fun _ _ => rfl))) pa_nil)) (by rfl))
      (pss_cons (ps_par (i := 4) (j := 5) (by rfl) sc_law_state.nd rfl rfl (by decide) rfl rfl (pa_cons (pe_op op_rep (pe_lst (pa_cons pe_non pa_nil)) (pe_ix (ixK (K := K) rfl) (pv 0) pe_int (fun _ _ => rfl))) (pa_cons (pe_lst pa_nil) pa_nil)) (by rfl))
      (pss_cons (ps_for PassesOwn.never rfl (pi_range1 (by rfl) T.n_range (pa_cons (pe_ix (ixK (K := K) rfl) (pv 0) pe_int (fun _ _ => rfl)) pa_nil)) (pg_name (i := 6) sc_law_state.nd rfl (.inl rfl)) (pss_one (ps_expr (pe_bm PySem.F.plainAttrs_list PySem.F.slot_list_append PySem.F.type_list_append mt_append (pv 5) (pa_cons (pe_lst pa_nil) pa_nil)))))
      (pss_cons (ps_set (i := 7) sc_law_state.nd rfl (.inr rfl) (pe_lst pa_nil))
      (pss_cons (ps_for PassesOwn.never rfl (pi_list (pv 1)) (pg_name (i := 8) sc_law_state.nd rfl (.inl rfl)) (pss_cons (ps_asg (pe_tup (pa_cons (pe_call G_law_moved hr (by rfl) g_law_moved F_law_moved.kp B_law_moved .nil pass0 (pa_cons (pv 0) (pa_cons (pv 7) (pa_cons (pv 8) pa_nil)))) (pa_cons (pe_ix (ixK (K := K) rfl) (pv 8) pe_int (fun _ _ => rfl)) pa_nil))) (pg_tup (by rfl) (pgs_cons (pg_name (i := 7) sc_law_state.nd rfl (.inr rfl)) (pgs_cons (pg_name (i := 9) sc_law_state.nd rfl (.inr rfl)) pgs_nil))))
      (pss_cons (ps_set (i := 10) sc_law_state.nd rfl (.inl rfl) (pe_lst pa_nil))
      (pss_cons (ps_if (pt_cmpR op_eq (pe_ix (ixK (K := K) rfl) (pv 8) pe_int (fun _ _ => rfl)) pe_str (nomark _)) (pss_one (ps_set (i := 10) sc_law_state.nd rfl (.inl rfl) (pe_ix (ixK (K := K) rfl) (pe_ix (ixK (K := K) rfl) (pe_ix (ixK (K := K) rfl) (pe_ix (ixK (K := K) rfl) (pe_ix (ixK (K := K) rfl) (pv 0) pe_int (fun _ _ => rfl)) (pe_ix (ixK (K := K) rfl) (pe_ix (ixK (K := K) rfl) (pv 7) (pv 9) (fun _ _ => rfl)) pe_int (fun _ _ => rfl)) (fun _ _ => rfl)) pe_int (fun _ _ => rfl)) (pe_ix (ixK (K := K) rfl) (pv 8) pe_int (fun _ _ => rfl)) (fun _ _ => rfl)) pe_int (fun _ _ => rfl)))) pss_nil)
      (pss_one (ps_for PassesOwn.never rfl (pi_or (pi_list (pv 10)) (pi_tup (pv 10))) (pg_name (i := 11) sc_law_state.nd rfl (.inl rfl)) (pss_cons (ps_set (i := 6) sc_law_state.nd rfl (.inl rfl) (pe_ix (ixK (K := K) rfl) (pv 11) pe_int (fun _ _ => rfl)))
      (pss_one (ps_if (pt_cmpR op_eq (pe_ix (ixK (K := K) rfl) (pv 11) pe_int (fun _ _ => rfl)) pe_str (nomark _)) (pss_one (ps_asg (pe_op op_add (pe_ix (ixK (K := K) rfl) (pv 2) (pv 6) (fun _ _ => rfl)) (pe_ix (ixK (K := K) rfl) (pv 11) pe_int (fun _ _ => rfl))) (pg_sub (pv 2) (pv 6) set_list))) (pss_one (ps_if (pt_cmpR op_eq (pe_ix (ixK (K := K) rfl) (pv 11) pe_int (fun _ _ => rfl)) pe_str (nomark _)) (pss_one (ps_asg (pe_ix (ixK (K := K) rfl) (pv 11) pe_int (fun _ _ => rfl)) (pg_sub (pv 3) (pv 6) set_list))) (pss_one (ps_if (pt_cmpR op_eq (pe_ix (ixK (K := K) rfl) (pv 11) pe_int (fun _ _ => rfl)) pe_str (nomark _)) (pss_one (ps_asg (pv 9) (pg_sub (pv 4) (pv 6) set_list))) (pss_one (ps_if (pt_cmpR op_eq (pe_ix (ixK (K := K) rfl) (pv 11) pe_int (fun _ _ => rfl)) pe_str (nomark _)) (pss_one (ps_asg (pe_ifExp (pt_cmpR (eqK (K := K) rfl hr.units) (pe_ix (ixK (K := K) rfl) (pv 4) (pv 6) (fun _ _ => rfl)) (pv 9) (nomark _)) pe_non (pe_ix (ixK (K := K) rfl) (pv 4) (pv 6) (fun _ _ => rfl))) (pg_sub (pv 4) (pv 6) set_list))) (pss_cons (ps_setLc (i := 12) (own := [("one", 13)]) (g := (gName 13)) (by rfl) sc_law_state.nd rfl rfl (sw_true rfl rfl rfl (by decide +kernel)) (pi_list (pe_ix (ixK (K := K) rfl) (pv 5) (pv 6) (fun _ _ => rfl))) (blkOk_by (own := [("one", 13)]) (N := ["home", "events_here", "sums", "lamps", "holders", "rooms", "k", "works_here", "event", "who", "deeds_here", "deed", "others", "one", "some"]) (sc := defScope s_law_state) (by decide +kernel)) (fun _ _ _ _ _ => (pg_name (i := 13) sc_law_state.nd rfl (Or.inl rfl))) (fun _ _ _ _ _ => (pts_one (pt_cmpR (neK (K := K) rfl hr.units) (pv 13) (pv 9) (nomark _)))) (fun _ _ _ _ _ => (pv 13)))
      (pss_one (ps_asg (pe_op op_cat (pv 12) (pe_ifExp (pt_cmpR op_eq (pe_ix (ixK (K := K) rfl) (pv 11) pe_int (fun _ _ => rfl)) pe_str (nomark _)) (pe_lst (pa_cons (pv 9) pa_nil)) (pe_lst pa_nil))) (pg_sub (pv 5) (pv 6) set_list)))))))))))))))))))
      (pss_cons (ps_setLc (i := 5) (own := [("some", 14)]) (g := (gName 14)) (by rfl) sc_law_state.nd rfl rfl (sw_true rfl rfl rfl (by decide +kernel)) (pi_list (pv 5)) (blkOk_by (own := [("some", 14)]) (N := ["home", "events_here", "sums", "lamps", "holders", "rooms", "k", "works_here", "event", "who", "deeds_here", "deed", "others", "one", "some"]) (sc := defScope s_law_state) (by decide +kernel)) (fun _ _ _ _ _ => (pg_name (i := 14) sc_law_state.nd rfl (by first | exact Or.inl rfl | exact Or.inr rfl))) (fun _ _ _ _ _ => pts_nil) (fun _ _ _ _ _ => (pe_lc (own := [("who", 9)]) (g := (gName 9)) rfl sc_law_state.nd (pi_range1 (by rfl) T.n_range (pa_cons (pe_callB (lenK (K := K) rfl) (by rfl) T.n_len (by decide +kernel) (pa_cons (pv 7) pa_nil)) pa_nil)) (blkOk_sc1 (own := [("who", 9)]) (N := ["home", "events_here", "sums", "lamps", "holders", "rooms", "k", "works_here", "event", "who", "deeds_here", "deed", "others", "one", "some"]) (sc0 := defScope s_law_state) "some" (by decide +kernel) rfl) (fun _ _ _ _ _ => (pg_name (i := 9) sc_law_state.nd rfl (Or.inl rfl))) (fun _ _ _ _ _ => (pts_one (pt_cmpR (inK (K := K) rfl) (pv 9) (pv 14) (by rfl)))) (fun _ _ _ _ _ => (pv 9)))))
      (pss_one (ps_ret (pe_tup (pa_cons (pv 2) (pa_cons (pv 3) (pa_cons (pv 4) (pa_cons (pv 5) (pa_cons (pv 7) pa_nil)))))))))))))), fun Z ds G hh => ?_⟩
  obtain ⟨h, es, ws, rfl, r, hok, hl, hG⟩ := hh
  obtain ⟨t1, t2, t3, t4⟩ := hok.t
  have lw := r.len
  rw [r.eq] at lw
  show SE _ _ _ [.dat h.d, .dat (.list (es.map Ev.d)), .no, .no, .no, .no, .no, .no, .no, .no, .no, .no, .no, .no, .no] _
  refine s_seq (s_parOO (wn_rep (wp_lst (wl_cons (wp_int (wl_nil ⟨by show 1 ≤ 1000; decide, wp_ix (wp_var rfl (wp_int ⟨_, _, _, .inr rfl, rfl, rfl, _, _, rfl, rfl, by omega, fun p1 q1 z1 => ?_⟩))⟩))))))
  refine wn_rep (wp_lst (wl_cons (wp_bl (wl_nil ⟨by show 1 ≤ 1000; decide, wp_ix (wp_var rfl (wp_int ⟨_, _, _, .inr rfl, rfl, rfl, _, _, rfl, rfl, by omega, fun p2 q2 z2 => ?_⟩))⟩))))
  refine s_seq (s_parOO (wn_rep (wp_lst (wl_cons (wp_non (wl_nil ⟨by show 1 ≤ 1000; decide, wp_ix (wp_var rfl (wp_int ⟨_, _, _, .inr rfl, rfl, rfl, _, _, rfl, rfl, by omega, fun p3 q3 z3 => ?_⟩))⟩))))))
  refine wn_lst (wl_nil ⟨by decide, fun p4 q4 z4 => ?_⟩)
  have n12 : p1 ≠ p2 := fun e => z2 (by rw [e]; exact List.mem_cons_self ..)
  have n23 : p2 ≠ p3 := fun e => z3 (by rw [e]; exact List.mem_cons_self ..)
  have n13 : p1 ≠ p3 := fun e => z3 (by rw [e]; simp)
  have n14 : p1 ≠ p4 := fun e => z4 (by rw [e]; simp)
  have n24 : p2 ≠ p4 := fun e => z4 (by rw [e]; simp)
  have n34 : p3 ≠ p4 := fun e => z4 (by rw [e]; simp)
  have y1 : p1 ∉ Z := z1
  have y2 : p2 ∉ Z := fun m => z2 (by simp [m])
  have y3 : p3 ∉ Z := fun m => z3 (by simp [m])
  have y4 : p4 ∉ Z := fun m => z4 (by simp [m])
  show SE _ _ (p4 :: p3 :: p2 :: p1 :: Z) [.dat h.d, .dat (.list (es.map Ev.d)), .own p1 (List.replicate h.t.cs (.int 0)), .own p2 (List.replicate h.t.fs (.bool false)), .own p3 (List.replicate h.t.ss .none), .own p4 [], .no, .no, .no, .no, .no, .no, .no, .no, .no] _
  refine s_seq (s_forR ?_)
  repeat walk_at "ev"
  refine ⟨by omega, fun i δ' => LeD [.dat h.d, .dat (.list (es.map Ev.d)), .own p1 (List.replicate h.t.cs (.int 0)), .own p2 (List.replicate h.t.fs (.bool false)), .own p3 (List.replicate h.t.ss .none), .own p4 (List.replicate i (.list [])), .no, .no, .no, .no, .no, .no, .no, .no, .no] δ', leD_refl _, fun i δ' hi hI => ?_, fun δ' hI => ?_⟩
  · refine s_le (leD_set 6 hI) ?_
    have hi : i < h.t.rs := hi
    refine s_app (i := 5) rfl q4 ⟨n14, n24, n34, True.intro⟩ (by rw [List.length_replicate]; omega) (wp_lst (wl_nil ⟨by decide, rfl, ?_⟩))
    show LeD [_, _, _, _, _, .own p4 (List.replicate (i + 1) (.list [])), .no, .no, .no, .no, .no, .no, .no, .no, .no] [_, _, _, _, _, _, _, _, _, _, _, _, _, _, _]
    rw [List.replicate_succ']
    exact ⟨.inr rfl, .inr rfl, .inr rfl, .inr rfl, .inr rfl, .inr rfl, .inl rfl, .inl rfl, .inl rfl, .inl rfl, .inl rfl, .inl rfl, .inl rfl, .inl rfl, .inl rfl, True.intro⟩
  refine s_le hI ?_
  refine s_seq (s_asg (wp_lst (wl_nil ⟨by decide, ?_⟩)))
  refine s_seq (s_forL bnd1 (wp_var rfl ⟨_, rfl, fun i δ' => ∃ rm, LeD (Lst h es p1 p2 p3 p4 (dnP h es i) rm .no (.dat (.list ((worksOf h (es.take i)).map wkD))) .no .no .no .no) δ' ∧ RmOk h.t.rs (worksOf h es).length (dnP h es i) rm, ?_, fun i x δ' v0 hx hI => ?_, fun δ' hI => ?_⟩))
  · refine ⟨List.replicate h.t.rs [], ?_, RmOk.start ..⟩
    unfold Lst
    have e1 : (cntOf h.t.cs (dnP h es 0)).map PyData.int = List.replicate h.t.cs (.int 0) := by simp [cntOf, dnP, goesOf]
    have e2 : (flgOf h.t.fs (dnP h es 0)).map PyData.bool = List.replicate h.t.fs (.bool false) := by simp [flgOf, dnP, goesOf]
    have e3 : (sltOf h.t.ss (dnP h es 0)).map optD = List.replicate h.t.ss .none := by simp [sltOf, dnP, goesOf, optD]
    have e4 : (List.replicate h.t.rs ([] : List Nat)).map (fun l => PyData.list (natsD l)) = List.replicate h.t.rs (.list []) := by simp [natsD]
    rw [e1, e2, e3, e4]
    exact leD_refl _
  · obtain ⟨e, he, rfl⟩ := atm hx
    obtain ⟨rm, hI, hrm⟩ := hI
    have hc := r.can_at he
    have hw := works_snoc h he
    have hi : i < es.length := (List.getElem?_eq_some_iff.mp he).1
    have hlw := (r.take i).len
    rw [List.length_take] at hlw
    have hd := dnP_take (h := h) he
    refine ⟨_, rfl, s_le (leD_set 8 hI) ?_⟩
    show SE _ _ _ (Lst h es p1 p2 p3 p4 (dnP h es i) rm .no (.dat (.list ((worksOf h (es.take i)).map wkD))) (.dat e.d) .no .no .no) _
    refine s_seq (s_bnd bnd2 (wp_tup (wl_cons (wp_call (wl_cons (wp_var rfl (wl_cons (wp_var rfl (wl_cons (wp_var rfl (wl_nil ?_)))))))))))
    refine ⟨h, worksOf h (es.take i), e, rfl, hok, (r.take i).ok, by omega, hc, ?_⟩
    rw [← hw]
    cases e with
    | begin k =>
      refine wl_cons (wp_ix (wp_var (d := (Ev.begin k).d) rfl (wp_int ⟨_, _, _, .inr rfl, rfl, rfl, wl_nil ⟨by show 2 ≤ 1000; decide, _, ⟨_, _, rfl, rfl⟩, ?_⟩⟩)))
      refine s_seq (s_asg (wp_lst (wl_nil ⟨by decide, ?_⟩)))
      refine s_seq (s_if (wt_eqS (wp_ix (wp_var (d := (Ev.begin k).d) rfl (wp_int ⟨_, _, _, .inr rfl, rfl, rfl, wp_str ⟨_, _, rfl, rfl, fun c => absurd c (by decide), fun _ => s_next ?_⟩⟩)))))
      refine s_orL (s_forL bnd1 (wp_var rfl ⟨[], rfl, fun _ δ' => LeD (Lst h es p1 p2 p3 p4 (dnP h es i) rm .no (.dat (.list ((worksOf h (es.take (i + 1))).map wkD))) .no .no .no .no) δ', ?_, fun j y δ' v hy => ?_, fun δ' hI => ⟨rfl, rm, ?_, ?_⟩⟩))
      · exact ⟨.inr rfl, .inr rfl, .inr rfl, .inr rfl, .inr rfl, .inr rfl, .inl rfl, .inr rfl, .inl rfl, .inl rfl, .inl rfl, .inl rfl, .inl rfl, .inl rfl, .inl rfl, True.intro⟩
      · simp at hy
      · rw [hd, List.append_nil]
        exact hI
      · rw [hd, List.append_nil]
        exact hrm
    | go v1 s =>
      obtain ⟨x, st, h1, h2, h3⟩ := hc
      obtain ⟨kd, h4, h5⟩ := can_kd h2
      have hk : (kindsOf es)[v1]? = some x.1 := by
        have a1 : (kindsOf (es.take i))[v1]? = some x.1 := by
          rw [← (r.take i).kinds, List.getElem?_map, h1]
          rfl
        have a2 : kindsOf es = kindsOf (es.take i) ++ kindsOf (es.drop i) := by
          unfold kindsOf
          rw [← List.filterMap_append, List.take_append_drop]
        rw [a2, List.getElem?_append_left (List.getElem?_eq_some_iff.mp a1).1]
        exact a1
      have hv : v1 < (worksOf h es).length := by
        have := (List.getElem?_eq_some_iff.mp hk).1
        rw [← r.kinds, r.eq, List.length_map] at this
        exact this
      have hby : deedsBy h (kindsOf es) (v1, s) = st.deeds.map fun d => (v1, d) := by
        unfold deedsBy
        rw [show (kindsOf es).getD v1 0 = x.1 by rw [List.getD_eq_getElem?_getD, hk]; rfl, deedsAt_eq h4 h5]
      have hw1 : (worksOf h (es.take (i + 1)))[v1]? = some (x.1, secondOf h x.1 s) := by
        rw [hw]
        show (List.set _ v1 ((List.getD _ v1 (0, 0)).1, secondOf h (List.getD _ v1 (0, 0)).1 s))[v1]? = _
        rw [show (worksOf h (es.take i)).getD v1 (0, 0) = x by rw [List.getD_eq_getElem?_getD, h1]; rfl, List.getElem?_set_self (List.getElem?_eq_some_iff.mp h1).1]
      have hst := (hok.ks kd (List.mem_of_getElem? h4)).st st (List.mem_of_getElem? h5)
      refine wl_cons (wp_ix (wp_var (d := (Ev.go v1 s).d) rfl (wp_int ⟨_, _, _, .inr rfl, rfl, rfl, wl_nil ⟨by show 2 ≤ 1000; decide, _, ⟨_, _, rfl, rfl⟩, ?_⟩⟩)))
      refine s_seq (s_asg (wp_lst (wl_nil ⟨by decide, ?_⟩)))
      refine s_seq (s_if (wt_eqS (wp_ix (wp_var (d := (Ev.go v1 s).d) rfl (wp_int ⟨_, _, _, .inr rfl, rfl, rfl, wp_str ⟨_, _, rfl, rfl, fun _ => s_asg ?_, fun c => absurd c (by decide)⟩⟩)))))
      refine wp_ix (wp_ix (wp_ix (wp_ix (wp_ix (wp_var (d := h.d) rfl (wp_int ⟨_, _, _, .inr rfl, rfl, rfl, ?_⟩))))))
      refine wp_ix (wp_ix (wp_var rfl (wp_var rfl ⟨_, _, _, .inl rfl, rfl, at_m hw1, wp_int ⟨_, _, _, .inr rfl, rfl, rfl, ?_⟩⟩)))
      refine ⟨_, _, _, .inr rfl, rfl, at_m h4, wp_int ⟨_, _, _, .inr rfl, rfl, rfl, ?_⟩⟩
      refine wp_ix (wp_var (d := (Ev.go v1 s).d) rfl (wp_int ⟨_, _, _, .inr rfl, rfl, rfl, ?_⟩))
      refine ⟨_, _, _, .inr rfl, rfl, at_m h5, wp_int ⟨_, _, _, .inr rfl, rfl, rfl, ?_⟩⟩
      refine s_orR (s_forT bnd1 (wp_var rfl ⟨st.deeds.map Deed.d, rfl, fun j δ' => ∃ rm, LeD (Lst h es p1 p2 p3 p4 (dnP h es i ++ (st.deeds.take j).map fun d => (v1, d)) rm .no (.dat (.list ((worksOf h (es.take (i + 1))).map wkD))) (.dat (Ev.go v1 s).d) (.dat (.int v1)) (.dat (.tuple (st.deeds.map Deed.d))) .no) δ' ∧ RmOk h.t.rs (worksOf h es).length (dnP h es i ++ (st.deeds.take j).map fun d => (v1, d)) rm, ?_, fun j y δ' v hy hJ => ?_, fun δ' hJ => ?_⟩))
      · refine ⟨rm, ?_, ?_⟩
        · rw [show (dnP h es i ++ (st.deeds.take 0).map fun d => (v1, d)) = dnP h es i by simp]
          exact ⟨.inr rfl, .inr rfl, .inr rfl, .inr rfl, .inr rfl, .inr rfl, .inl rfl, .inr rfl, .inr rfl, .inr rfl, .inr rfl, .inl rfl, .inl rfl, .inl rfl, .inl rfl, True.intro⟩
        · rw [show (dnP h es i ++ (st.deeds.take 0).map fun d => (v1, d)) = dnP h es i by simp]
          exact hrm
      · obtain ⟨dd, hdd, rfl⟩ := atm hy
        obtain ⟨rm1, hJ, hrm1⟩ := hJ
        have sn : (dnP h es i ++ (st.deeds.take (j + 1)).map fun d => (v1, d)) = (dnP h es i ++ (st.deeds.take j).map fun d => (v1, d)) ++ [(v1, dd)] := by
          rw [take_snoc hdd, List.map_append, List.append_assoc]
          rfl
        have dl := dnP_len r hok i
        have hl3 := hst.len
        refine ⟨_, rfl, s_le (leD_set 11 hJ) ?_⟩
        show SE _ (turnT K) _ (Lst h es p1 p2 p3 p4 (dnP h es i ++ (st.deeds.take j).map fun d => (v1, d)) rm1 .no (.dat (.list ((worksOf h (es.take (i + 1))).map wkD))) (.dat (Ev.go v1 s).d) (.dat (.int v1)) (.dat (.tuple (st.deeds.map Deed.d))) (.dat dd.d)) _
        refine deed_turn (f := ((⟨W0, K, Z, H, []⟩ : Fx).with v0 (.list (es.map Ev.d))).with v (.tuple (st.deeds.map Deed.d))) (N := (worksOf h es).length) q1 q2 q3 q4 n12 n13 n14 n23 n24 n34 (hst.ds dd (List.mem_of_getElem? hdd)) hrm1 hv ?_ ?_
        · rw [List.length_append, List.length_map, List.length_take]
          omega
        intro rm' s6' s12' hr'
        refine ⟨rfl, rm', ?_, ?_⟩
        · rw [sn]
          exact ⟨.inr rfl, .inr rfl, .inr rfl, .inr rfl, .inr rfl, .inr rfl, .inl rfl, .inr rfl, .inr rfl, .inr rfl, .inr rfl, .inl rfl, .inl rfl, .inl rfl, .inl rfl, True.intro⟩
        · rw [sn]
          exact hr'
      · obtain ⟨rm1, hJ, hrm1⟩ := hJ
        rw [List.length_map, List.take_length] at hJ hrm1
        refine ⟨rfl, rm1, ?_, ?_⟩
        · rw [hd]
          show LeD (Lst h es p1 p2 p3 p4 (dnP h es i ++ deedsBy h (kindsOf es) (v1, s)) _ _ _ _ _ _ _) _
          rw [hby]
          refine leD_trans ?_ hJ
          exact ⟨.inr rfl, .inr rfl, .inr rfl, .inr rfl, .inr rfl, .inr rfl, .inl rfl, .inr rfl, .inl rfl, .inl rfl, .inl rfl, .inl rfl, .inl rfl, .inl rfl, .inl rfl, True.intro⟩
        · rw [hd]
          show RmOk _ _ (dnP h es i ++ deedsBy h (kindsOf es) (v1, s)) _
          rw [hby]
          exact hrm1
  · obtain ⟨rm, hI, hrm⟩ := hI
    rw [List.length_map] at hI hrm
    have ed : dnP h es es.length = doneOf h es := by
      unfold dnP doneOf
      rw [List.take_length]
    rw [ed, List.take_length] at hI
    rw [ed] at hrm
    refine s_le hI ?_
    show SE _ _ (p4 :: p3 :: p2 :: p1 :: Z) (Lst h es p1 p2 p3 p4 (doneOf h es) rm .no (.dat (.list ((worksOf h es).map wkD))) .no .no .no .no) _
    refine s_seq (s_asg (wp_new (wn_lcO bw1 rfl (by rw [List.length_map, hrm.len]; omega) ⟨fun i rs => rs = (List.range i).map fun k => PyData.list ((namOf k (worksOf h es).length (doneOf h es)).map fun (n : Nat) => PyData.int (n : Int)), rfl, fun p i x rs hx hI => ⟨_, rfl, wt_yes ⟨fun _ => ?_, fun c => (by cases c)⟩⟩, fun rs hI => ?_⟩)))
    · obtain ⟨l, hlx, rfl⟩ := atm hx
      have hi : i < h.t.rs := by
        have := (List.getElem?_eq_some_iff.mp hlx).1
        rw [hrm.len] at this
        exact this
      have hgd : rm.getD i [] = l := by rw [List.getD_eq_getElem?_getD, hlx]; rfl
      refine wp_new (wn_lcR bw1 (wl_cons (wp_len rfl (wp_var rfl ⟨_, .inl rfl, wl_nil ?_⟩))))
      refine ⟨(worksOf h es).length, by rw [List.length_map], by omega, fun j rs2 => rs2 = ((List.range j).filter fun w => (insOf i (worksOf h es).length (doneOf h es)).getD w false).map fun (n : Nat) => PyData.int (n : Int), rfl, fun pp j rs2 hj hJ => ⟨_, rfl, wt_inI (wp_var rfl (wp_var rfl ⟨_, l.map fun (n : Nat) => (n : Int), rfl, by unfold natsD; rw [List.map_map]; rfl, ?_⟩))⟩, fun rs2 hJ => ?_⟩
      · rw [any_nat]
        have hm := hrm.mem i j hi hj
        rw [hgd] at hm
        refine ⟨fun c => wp_var rfl ?_, fun c => ?_⟩
        · have c2 := hm.mp (of_decide_eq_true c)
          show _ = ((List.range (j + 1)).filter fun w => (insOf i (worksOf h es).length (doneOf h es)).getD w false).map _
          rw [hJ, List.range_succ, List.filter_append, List.map_append, List.filter_cons_of_pos (by exact c2)]
          rfl
        · have c2 : ¬ (insOf i (worksOf h es).length (doneOf h es)).getD j false = true := fun q => of_decide_eq_false c (hm.mpr q)
          show _ = ((List.range (j + 1)).filter fun w => (insOf i (worksOf h es).length (doneOf h es)).getD w false).map _
          rw [hJ, List.range_succ, List.filter_append, List.map_append, List.filter_cons_of_neg (by exact c2)]
          simp
      · show _ = (List.range (i + 1)).map _
        rw [hI, hJ, List.range_succ, List.map_append]
        rfl
    · rw [List.length_map, hrm.len] at hI
      subst hI
      have hS : ∀ a ∈ W0.S, a ∈ Z := fun a m => (nomatch m)
      have hY : ∀ a ∈ Z, a ∈ p4 :: p3 :: p2 :: p1 :: Z := fun a m => by simp [m]
      refine s_retYT (wyl_cons hS (wy_own hY rfl y1 (wyl_cons hS (wy_own hY rfl y2 (wyl_cons hS (wy_own hY rfl y3 (wyl_cons hS (wy_var hY rfl (wyl_cons hS (wy_var hY rfl (wyl_nil ⟨by show 5 ≤ 1000; decide, hG⟩)))))))))))
end
end Kw

set_option Elab.async false
set_option linter.all false
set_option maxRecDepth 100000
namespace Kw
open PySem PySem.Spec PyProof.Rows L2
local macro_rules | `(tactic| walk_at "ev") => `(tactic| first
  | refine wp_var rfl ?_
  | refine wp_int ?_
  | refine wp_str ?_
  | refine wp_bl ?_
  | refine wp_non ?_
  | refine wl_nil ?_
  | refine wl_cons ?_
  | refine wp_tup ?_
  | refine wp_lst ?_
  | refine wp_ix ?_
  | refine wp_I0 ?_
  | refine wp_I ?_
  | refine wp_IB ?_
  | refine wp_neg ?_
  | refine wp_len rfl ?_
  | refine wt_test (wp_IB ?_)
  | refine wt_eqI ?_
  | refine wt_val ?_
  | refine ⟨_, _, rfl, rfl, ?_⟩
  | refine ⟨_, _, _, .inr rfl, rfl, rfl, ?_⟩
  | refine ⟨_, _, _, .inl rfl, rfl, rfl, ?_⟩
  | refine ⟨_, .inl rfl, ?_⟩
  | refine ⟨_, .inr rfl, ?_⟩
  | refine ⟨_, rfl, ?_⟩)
local macro_rules | `(tactic| walk_at "ev") => `(tactic| first
  | refine ⟨_, _, _, .inr rfl, rfl, at0 _ _, ?_⟩
  | refine ⟨_, _, _, .inr rfl, rfl, at1 _ _ _, ?_⟩)
abbrev s_law_right : Stmt := topS 45
theorem sc_law_right : FnScope ["home", "events_here", "kept", "due", "told", "rows", "rooms", "k", "one"] ["home", "events_here"] (defScope s_law_right) := ⟨rfl, rfl, rfl, by decide +kernel, rfl, by decide +kernel, by decide +kernel⟩

section
variable {P : Program} {w : World} {K : PySem.W.Frag} {mg : Str → Option Value} {base : Heap}
/-- a def of data, where no repr is under way -/
theorem fn_dataG {x qual : Str} {st : Stmt} {f : Addr} {fd : FuncData} {N ps : List Str} {k : Nat} (F : Fun K x qual st f fd) (S : FnScope N ps (defScope st)) {Pre : List D → (D → Prop) → Prop} (hlen : ∀ ds G, Pre ds G → ds.length = ps.length)
    (body : ∀ (cdv : Value) (A : Around) (outer : List Env) (s : Shared) (H : Hp) (E : XK), Room k (A.deeper (envOfC qual (defScope st) s.heap.objs.size f cdv)) → A.guards = some [] →
      ∃ t, PSs (cxOf CX0 P w K mg base N qual (defScope st) f cdv A outer s H E).nox (defBody st) t ∧ ∀ Z ds G, Pre ds G → SE ⟨W0, K, Z, H, []⟩ t Z (ds.map .dat ++ List.replicate (N.length - ps.length) .no) { rt := G, nx := fun _ _ => G .none }) :
    FnG P w K mg base CX0 (k + 1) f fd ps (spD K Pre) := by
  refine funG F S (fun vs H Q E h => ?_) (fun cdv A outer s H vs Q E hr hgd h => ?_)
  · obtain ⟨Z, ds, G, hp, al, hd, q⟩ := h
    rw [hd.len]
    exact hlen ds G hp
  · obtain ⟨Z, ds, G, hp, al, hd, q⟩ := h
    obtain ⟨t, ht, hs⟩ := body cdv A outer s H E hr hgd
    refine ⟨t, ht, hs Z ds G hp (start N vs) H _ ⟨fun a h => h, ⟨True.intro, al, fun a h => (nomatch h), ?_⟩, Gr.refl _ _, fun x h => (nomatch h)⟩ (imp_end rfl fun v H' d f g _ dd => q v H' d f g dd)⟩
    unfold L2.start
    rw [hd.len, hlen ds G hp]
    exact sto_start _ hd
theorem wp_scl {W : Wd} {Z : List Addr} {δ : List Sl} {b : Bool} {te : TE} {F : D → Prop} (h : EvG W K Z δ false te fun d => scl d = true ∧ F d) : EvG W K Z δ b te F := fun σ H k Q q => h σ H k Q fun v H' d f g i e => q v H' d f.2 g i (Dd.any f.1 e)
def nmD (h : Hs) (es : List Ev) (k : Nat) : List D := (namOf k (worksOf h es).length (doneOf h es)).map fun (n : Nat) => PyData.int (n : Int)
theorem nm_len (h : Hs) (es : List Ev) (k : Nat) : (nmD h es k).length ≤ (worksOf h es).length := by
  unfold nmD namOf
  rw [List.length_map]
  have := List.length_filter_le (fun w => (insOf k (worksOf h es).length (doneOf h es)).getD w false) (List.range (worksOf h es).length)
  rw [List.length_range] at this
  exact this
theorem nm_small (h : Hs) (es : List Ev) (k : Nat) (hl : (worksOf h es).length ≤ 100) : ∀ d ∈ nmD h es k, Small 0 16 d := fun d m => by
  unfold nmD at m
  refine mem_mapD (fun x hx => small_nat ?_) m
  unfold namOf at hx
  have := List.mem_range.mp (List.mem_filter.mp hx).1
  omega
theorem flg_sm (xs : List Bool) : ∀ d ∈ xs.map PyData.bool, Small 0 16 d := fun d m => mem_mapD (fun x _ => small_bl x) m
theorem state_small {h : Hs} {es : List Ev} {ws : List Wk} (r : RunOf h es ws) (hok : h.ok) (hl : es.length ≤ 100) : Small 3 17505 (stateD h es) := by
  obtain ⟨d1, d2⟩ := done_ok r hok
  have lw := r.len
  rw [r.eq] at lw
  obtain ⟨t1, t2, t3, t4⟩ := hok.t
  have hb := r.bnd hok
  rw [r.eq] at hb
  have dl := dnP_len r hok es.length
  have ed : dnP h es es.length = doneOf h es := by
    unfold dnP doneOf
    rw [List.take_length]
  rw [ed] at dl
  refine small_tup (dep := 2) (wt := 3500) (n := 5) (fun y hy => ?_) (Nat.le_refl _)
  simp only [List.mem_cons, List.not_mem_nil, or_false] at hy
  rcases hy with rfl | rfl | rfl | rfl | rfl
  · refine (small_list (dep := 0) (wt := 16) (n := 2) (fun d m => mem_mapD (g := PyData.int) (fun x hx => ?_) m) (by rw [List.length_map, cnt_len]; exact t1)).mono (by omega) (by omega)
    have := cnt_small (t := h.t) 0 (doneOf h es) 0 (List.replicate h.t.cs 0) d1 (fun c hc => by rw [(List.mem_replicate.mp hc).2]; decide) x hx
    exact small_int (by omega)
  · exact (small_list (dep := 0) (wt := 16) (n := 4) (flg_sm _) (by rw [List.length_map, flg_len]; exact t2)).mono (by omega) (by omega)
  · refine (small_list (dep := 0) (wt := 16) (n := 3) (fun d m => mem_mapD (g := optD) (fun x hx => ?_) m) (by rw [List.length_map, slt_len]; exact t3)).mono (by omega) (by omega)
    have := slt_small (N := (worksOf h es).length) (doneOf h es) (List.replicate h.t.ss none) d2 (fun c hc w e => by rw [(List.mem_replicate.mp hc).2] at e; cases e) x hx
    cases x with
    | none => exact small_non
    | some v =>
      have := this v rfl
      exact small_nat (by omega)
  · refine (small_list (dep := 1) (wt := 1700) (n := 2) (fun d m => mem_mapD (fun x hx => ?_) m) (by rw [List.length_map, List.length_range]; exact t4)).mono (by omega) (by omega)
    exact small_list (dep := 0) (wt := 16) (n := 100) (nm_small h es x (by omega)) (by have := nm_len h es x; unfold nmD at this; omega)
  · refine small_list (dep := 1) (wt := 34) (n := 100) (fun d m => mem_mapD (g := wkD) (fun x hx => ?_) m) (by rw [List.length_map]; omega)
    refine small_tup (dep := 0) (wt := 16) (n := 2) (fun y hy => ?_) (Nat.le_refl _)
    have b1 := hb.k x hx
    have b2 := hb.p x hx
    have := hok.k3
    simp only [List.mem_cons, List.not_mem_nil, or_false] at hy
    rcases hy with rfl | rfl
    · exact small_nat (by omega)
    · exact small_nat (by omega)
def rmJ (h : Hs) (es : List Ev) (j : Nat) : List D := (List.range h.t.rs).map fun k => .list (nmD h es k ++ if k < j then [.int (70 + (k : Int))] else [])
theorem rmJ_at {h : Hs} {es : List Ev} {j k : Nat} (hk : k < h.t.rs) : (rmJ h es j)[k]? = some (.list (nmD h es k ++ if k < j then [.int (70 + (k : Int))] else [])) := by
  unfold rmJ
  rw [List.getElem?_map, List.getElem?_range hk]
  rfl
theorem rmJ_set {h : Hs} {es : List Ev} {j : Nat} (hj : j < h.t.rs) : (rmJ h es j).set j (.list ((nmD h es j ++ if j < j then [.int (70 + (j : Int))] else []) ++ [.int (70 + (j : Int))])) = rmJ h es (j + 1) := by
  apply List.ext_getElem?
  intro k
  have ln : (rmJ h es j).length = h.t.rs := by unfold rmJ; rw [List.length_map, List.length_range]
  have ln2 : (rmJ h es (j + 1)).length = h.t.rs := by unfold rmJ; rw [List.length_map, List.length_range]
  by_cases hk : k < h.t.rs
  · rw [rmJ_at hk]
    by_cases e : j = k
    · subst e
      rw [List.getElem?_set_self (by omega), if_neg (Nat.lt_irrefl _), if_pos (Nat.lt_succ_self _), List.append_nil]
    · rw [List.getElem?_set_ne e, rmJ_at hk]
      by_cases q : k < j
      · rw [if_pos q, if_pos (by omega)]
      · rw [if_neg q, if_neg (by omega)]
  · rw [List.getElem?_eq_none (by rw [List.length_set]; omega), List.getElem?_eq_none (by omega)]
def B5 (a b c d e : List D) : Nat → List D
  | 0 => a
  | 1 => b
  | 2 => c
  | 3 => d
  | _ => e
def T5 (g : Nat → List D) (j : Nat) : List D := (List.range 5).map fun k => .list (g k ++ if k < j then [.int (90 + (k : Int))] else [])
theorem T5_at {g : Nat → List D} {j k : Nat} (hk : k < 5) : (T5 g j)[k]? = some (.list (g k ++ if k < j then [.int (90 + (k : Int))] else [])) := by
  unfold T5
  rw [List.getElem?_map, List.getElem?_range hk]
  rfl
theorem T5_set {g : Nat → List D} {j : Nat} (hj : j < 5) : (T5 g j).set j (.list ((g j ++ if j < j then [.int (90 + (j : Int))] else []) ++ [.int (90 + (j : Int))])) = T5 g (j + 1) := by
  apply List.ext_getElem?
  intro k
  have ln : (T5 g j).length = 5 := by unfold T5; rw [List.length_map, List.length_range]
  have ln2 : (T5 g (j + 1)).length = 5 := by unfold T5; rw [List.length_map, List.length_range]
  by_cases hk : k < 5
  · rw [T5_at hk]
    by_cases e : j = k
    · subst e
      rw [List.getElem?_set_self (by omega), if_neg (Nat.lt_irrefl _), if_pos (Nat.lt_succ_self _), List.append_nil]
    · rw [List.getElem?_set_ne e, T5_at hk]
      by_cases q : k < j
      · rw [if_pos q, if_pos (by omega)]
      · rw [if_neg q, if_neg (by omega)]
  · rw [List.getElem?_eq_none (by rw [List.length_set]; omega), List.getElem?_eq_none (by omega)]
theorem T5_start (a b c d e : List D) : T5 (B5 a b c d e) 0 = [.list a, .list b, .list c, .list d, .list e] := by
  show [PyData.list (a ++ []), .list (b ++ []), .list (c ++ []), .list (d ++ []), .list (e ++ [])] = _
  simp only [List.append_nil]
theorem map_snoc {g : Nat → D} (i : Nat) : ((List.range i).map g) ++ [g i] = (List.range (i + 1)).map g := by
  rw [List.range_succ, List.map_append]
  rfl
def preRight : List D → (D → Prop) → Prop := fun ds G => ∃ (h : Hs) (es : List Ev) (ws : List Wk), ds = [h.d, .list (es.map Ev.d)] ∧ RunOf h es ws ∧ h.ok ∧ es.length ≤ 61 ∧ G (.bool true)
theorem ok__law_right {f f1 f2 : Addr} {fd fd1 fd2 : FuncData} {k : Nat} (F : Fun K "_law_right" "_law_right" s_law_right f fd) (F_law_state : Fun K "_law_state" "_law_state" s_law_state f1 fd1) (B_law_state : Binds K fd1 ["home", "events_here"] []) (g_law_state : mg "_law_state" = some (.ref f1))
    (Fstate_after : Fun K "state_after" "state_after" sstate_after f2 fd2) (Bstate_after : Binds K fd2 ["house", "run"] []) (BRstate_after : BindRev fd2 "house" "run") (gstate_after : mg "state_after" = some (.ref f2)) (T : TG mg)
    (G_law_state : FnOk P w K mg base CX0 k f1 fd1 ["home", "events_here"] (spD K preLawState)) (Gstate_after : FnOk P w K mg base CX0 k f2 fd2 ["house", "run"] (spW K preState)) : FnG P w K mg base CX0 (k + 1) f fd ["home", "events_here"] (spD K preRight) := by
  refine fn_dataG F sc_law_right (fun ds G h => ?_) (fun cdv A outer s H E hr hgd => ?_)
  · obtain ⟨i, lo, a, rfl, _⟩ := h
    rfl
  refine ⟨_, (pss_cons (ps_set (i := 2) sc_law_right.nd rfl (.inl rfl) (pe_callB (reprK (K := K) rfl hr.units hgd) (by rfl) T.n_repr (by decide +kernel) (pa_cons (pe_lst (pa_cons (pv 0) (pa_cons (pv 1) pa_nil))) pa_nil)))
      (pss_cons (ps_set (i := 3) sc_law_right.nd rfl (.inl rfl) (pe_callB (reprK (K := K) rfl hr.units hgd) (by rfl) T.n_repr (by decide +kernel) (pa_cons (pe_call G_law_state hr (by rfl) g_law_state F_law_state.kp B_law_state .nil pass0 (pa_cons (pv 0) (pa_cons (pv 1) pa_nil))) pa_nil)))
      (pss_cons (ps_set (i := 4) sc_law_right.nd rfl (.inr rfl) (pe_call Gstate_after hr (by rfl) gstate_after Fstate_after.kp Bstate_after .nil pass0 (pa_cons (pv 0) (pa_cons (pv 1) pa_nil))))
      (pss_cons (ps_if (pt_cmpR op_ne (pe_callB (reprK (K := K) rfl hr.units hgd) (by rfl) T.n_repr (by decide +kernel) (pa_cons (pv 4) pa_nil)) (pv 3) (nomark _)) (pss_one (ps_ret pe_bl)) pss_nil)
      (pss_cons (ps_set (i := 5) sc_law_right.nd rfl (.inr rfl) (pe_call G_law_state hr (by rfl) g_law_state F_law_state.kp B_law_state .nil pass0 (pa_cons (pv 0) (pa_cons (pv 1) pa_nil))))
      (pss_cons (ps_set (i := 6) sc_law_right.nd rfl (.inr rfl) (pe_lc (own := [("one", 8)]) (g := (gName 8)) rfl sc_law_right.nd (pi_list (pe_ix (ixK (K := K) rfl) (pv 5) pe_int (fun _ _ => rfl))) (blkOk_by (own := [("one", 8)]) (N := ["home", "events_here", "kept", "due", "told", "rows", "rooms", "k", "one"]) (sc := defScope s_law_right) (by decide +kernel)) (fun _ _ _ _ _ => (pg_name (i := 8) sc_law_right.nd rfl (Or.inl rfl))) (fun _ _ _ _ _ => pts_nil) (fun _ _ _ _ _ => (pe_callTy (listK (K := K) rfl) (by rfl) T.n_list (by decide +kernel) (pa_cons (pv 8) pa_nil)))))
      (pss_cons (ps_for PassesOwn.never rfl (pi_range1 (by rfl) T.n_range (pa_cons (pe_ix (ixK (K := K) rfl) (pv 0) pe_int (fun _ _ => rfl)) pa_nil)) (pg_name (i := 7) sc_law_right.nd rfl (.inl rfl)) (pss_one (ps_expr (pe_bm PySem.F.plainAttrs_list PySem.F.slot_list_append PySem.F.type_list_append mt_append (pe_ix (ixK (K := K) rfl) (pe_ix (ixK (K := K) rfl) (pv 4) pe_int (fun _ _ => rfl)) (pv 7) (fun _ _ => rfl)) (pa_cons (pe_op op_add pe_int (pv 7)) pa_nil)))))
      (pss_cons (ps_if (pt_cmpR (neK (K := K) rfl hr.units) (pe_ix (ixK (K := K) rfl) (pv 4) pe_int (fun _ _ => rfl)) (pe_lc (own := [("k", 7)]) (g := (gName 7)) rfl sc_law_right.nd (pi_range1 (by rfl) T.n_range (pa_cons (pe_ix (ixK (K := K) rfl) (pv 0) pe_int (fun _ _ => rfl)) pa_nil)) (blkOk_by (own := [("k", 7)]) (N := ["home", "events_here", "kept", "due", "told", "rows", "rooms", "k", "one"]) (sc := defScope s_law_right) (by decide +kernel)) (fun _ _ _ _ _ => (pg_name (i := 7) sc_law_right.nd rfl (Or.inl rfl))) (fun _ _ _ _ _ => pts_nil) (fun _ _ _ _ _ => (pe_op op_cat (pe_ix (ixK (K := K) rfl) (pv 6) (pv 7) (fun _ _ => rfl)) (pe_lst (pa_cons (pe_op op_add pe_int (pv 7)) pa_nil))))) (nomark _)) (pss_one (ps_ret pe_bl)) pss_nil)
      (pss_cons (ps_for PassesOwn.never rfl (pi_range1 (by rfl) T.n_range (pa_cons pe_int pa_nil)) (pg_name (i := 7) sc_law_right.nd rfl (.inl rfl)) (pss_one (ps_expr (pe_bm PySem.F.plainAttrs_list PySem.F.slot_list_append PySem.F.type_list_append mt_append (pe_ix (ixK (K := K) rfl) (pv 4) (pv 7) (fun _ _ => rfl)) (pa_cons (pe_op op_add pe_int (pv 7)) pa_nil)))))
      (pss_cons (ps_if (pt_cmpR (neK (K := K) rfl hr.units) (pe_lc (own := [("k", 7)]) (g := (gName 7)) rfl sc_law_right.nd (pi_range1 (by rfl) T.n_range (pa_cons pe_int pa_nil)) (blkOk_by (own := [("k", 7)]) (N := ["home", "events_here", "kept", "due", "told", "rows", "rooms", "k", "one"]) (sc := defScope s_law_right) (by decide +kernel)) (fun _ _ _ _ _ => (pg_name (i := 7) sc_law_right.nd rfl (Or.inl rfl))) (fun _ _ _ _ _ => pts_nil) (fun _ _ _ _ _ => (pe_callB (lenK (K := K) rfl) (by rfl) T.n_len (by decide +kernel) (pa_cons (pe_ix (ixK (K := K) rfl) (pv 4) (pv 7) (fun _ _ => rfl)) pa_nil)))) (pe_lc (own := [("k", 7)]) (g := (gName 7)) rfl sc_law_right.nd (pi_range1 (by rfl) T.n_range (pa_cons pe_int pa_nil)) (blkOk_by (own := [("k", 7)]) (N := ["home", "events_here", "kept", "due", "told", "rows", "rooms", "k", "one"]) (sc := defScope s_law_right) (by decide +kernel)) (fun _ _ _ _ _ => (pg_name (i := 7) sc_law_right.nd rfl (Or.inl rfl))) (fun _ _ _ _ _ => pts_nil) (fun _ _ _ _ _ => (pe_op op_add (pe_callB (lenK (K := K) rfl) (by rfl) T.n_len (by decide +kernel) (pa_cons (pe_ix (ixK (K := K) rfl) (pv 5) (pv 7) (fun _ _ => rfl)) pa_nil)) pe_int))) (nomark _)) (pss_one (ps_ret pe_bl)) pss_nil)
      (pss_cons (ps_if (pt_cmpR (neK (K := K) rfl hr.units) (pe_lc (own := [("k", 7)]) (g := (gName 7)) rfl sc_law_right.nd (pi_range1 (by rfl) T.n_range (pa_cons pe_int pa_nil)) (blkOk_by (own := [("k", 7)]) (N := ["home", "events_here", "kept", "due", "told", "rows", "rooms", "k", "one"]) (sc := defScope s_law_right) (by decide +kernel)) (fun _ _ _ _ _ => (pg_name (i := 7) sc_law_right.nd rfl (Or.inl rfl))) (fun _ _ _ _ _ => pts_nil) (fun _ _ _ _ _ => (pe_ix (ixK (K := K) rfl) (pe_ix (ixK (K := K) rfl) (pv 4) (pv 7) (fun _ _ => rfl)) (pe_un un_neg pe_int) (fun _ _ => rfl)))) (pe_lst (pa_cons pe_int (pa_cons pe_int (pa_cons pe_int (pa_cons pe_int (pa_cons pe_int pa_nil)))))) (nomark _)) (pss_one (ps_ret pe_bl)) pss_nil)
      (pss_one (ps_ret (pe_and (pe_cmpR op_eq (pe_callB (reprK (K := K) rfl hr.units hgd) (by rfl) T.n_repr (by decide +kernel) (pa_cons (pe_callR Gstate_after hr (by rfl) gstate_after Fstate_after.kp BRstate_after pass0 (pk_cons (pv 1) (pk_cons (pv 0) pk_nil))) pa_nil)) (pv 3) (nomark _)) (pe_one (pe_cmpR op_eq (pe_callB (reprK (K := K) rfl hr.units hgd) (by rfl) T.n_repr (by decide +kernel) (pa_cons (pe_lst (pa_cons (pv 0) (pa_cons (pv 1) pa_nil))) pa_nil)) (pv 2) (nomark _))))))))))))))))), fun Z ds G hh => ?_⟩
  obtain ⟨h, es, ws, rfl, r, hok, hl, hG⟩ := hh
  obtain ⟨t1, t2, t3, t4⟩ := hok.t
  have lw := r.len
  rw [r.eq] at lw
  have sS := state_small r hok (by omega)
  have sH := small_hs hok fun kd hk => Nat.le_trans (pw_len (hok.ks kd hk).asc (hok.ks kd hk).lt) (hok.ks kd hk).p6
  have sE := small_evs hok r (by omega)
  have sB : Small 8 424932 (.list [h.d, .list (es.map Ev.d)]) := small_list (dep := 7) (wt := 212465) (n := 2) (fun y hy => by
    simp only [List.mem_cons, List.not_mem_nil, or_false] at hy
    rcases hy with rfl | rfl
    · exact sH
    · exact sE.mono (by omega) (by omega)) (Nat.le_refl _)
  show SE _ _ _ [.dat h.d, .dat (.list (es.map Ev.d)), .no, .no, .no, .no, .no, .no, .no] _
  refine s_seq (s_asg (wp_repr (wp_lst ?_)))
  repeat walk_at "ev"
  refine ⟨by show 2 ≤ 1000; decide, 8, 424932, .inl ⟨_, rfl⟩, sB, by decide, by decide, ?_⟩
  refine s_seq (s_asg (wp_repr (wp_call ?_)))
  repeat walk_at "ev"
  refine ⟨h, es, ws, rfl, r, hok, by omega, 3, 17505, .inr ⟨_, rfl⟩, sS, by decide, by decide, ?_⟩
  refine s_seq (s_str (ww_call ?_))
  repeat walk_at "ev"
  refine ⟨h, es, ws, rfl, r, hok, by omega, fun L hL0 hLZ => ?_⟩
  have hH : ∀ a ∈ L, H a = none := hL0
  refine s_seq (s_if (wt_neS (wp_repr (wp_str' rfl ⟨3, 17505, .inr ⟨_, rfl⟩, sS, by decide, by decide, ?_⟩))))
  repeat walk_at "ev"
  refine ⟨fun e => ?_, fun _ => s_next ?_⟩
  · rw [decide_eq_true rfl] at e
    cases e
  refine s_seq (s_asg (wp_call ?_))
  repeat walk_at "ev"
  refine ⟨h, es, ws, rfl, r, hok, by omega, ?_⟩
  have er : (List.range h.t.rs).map (fun k => PyData.list (nmD h es k)) = rmJ h es 0 := by
    unfold rmJ
    simp
  generalize eC : (cntOf h.t.cs (doneOf h es)).map PyData.int = cC
  generalize eF : (flgOf h.t.fs (doneOf h es)).map PyData.bool = cF
  generalize eS : (sltOf h.t.ss (doneOf h es)).map optD = cS
  generalize eW : (worksOf h es).map wkD = cW
  have est : stateD h es = .tuple [.list cC, .list cF, .list cS, .list (rmJ h es 0), .list cW] := by
    rw [← er, ← eC, ← eF, ← eS, ← eW]
    rfl
  have ln0 : ∀ j, (rmJ h es j).length = h.t.rs := fun j => by unfold rmJ; rw [List.length_map, List.length_range]
  have few : ∀ k, (nmD h es k).length ≤ 61 := fun k => Nat.le_trans (nm_len h es k) (by omega)
  generalize ekp : PyData.str (PyData.list [h.d, .list (es.map Ev.d)]).shown = kp
  generalize edu : PyData.str (stateD h es).shown = du
  rw [est]
  show SE _ _ (L ++ Z) [.dat h.d, .dat (.list (es.map Ev.d)), .dat kp, .dat du, .str L (.tuple [.list cC, .list cF, .list cS, .list (rmJ h es 0), .list cW]), .dat (.tuple [.list cC, .list cF, .list cS, .list (rmJ h es 0), .list cW]), .no, .no, .no] _
  -- rooms
  refine s_seq (s_asg (wp_new (wn_lcL bw1 (wp_ix (wp_var rfl (wp_int ⟨_, _, _, .inr rfl, rfl, rfl, ?_⟩))))))
  refine ⟨_, rfl, by rw [ln0]; omega, fun i rs => rs = (rmJ h es 0).take i, rfl, fun p i x rs hx hI => ⟨_, rfl, wt_yes ⟨fun _ => ?_, fun c => (by cases c)⟩⟩, fun rs hI => ?_⟩
  · have hi : i < h.t.rs := by
      have := (List.getElem?_eq_some_iff.mp hx).1
      rw [ln0] at this
      exact this
    have hx2 := hx
    rw [rmJ_at hi] at hx2
    have hx3 := Option.some.inj hx2
    refine wp_new (wn_listof (wp_var rfl ⟨_, hx3.symm, ?_⟩))
    rw [hI, hx3]
    show _ = (rmJ h es 0).take (i + 1)
    rw [take_snoc hx]
  have hI : rs = (rmJ h es 0).take (rmJ h es 0).length := hI
  rw [List.take_length] at hI
  subst hI
  -- the sets are added to
  refine s_seq (s_forR ?_)
  repeat walk_at "ev"
  refine ⟨by omega, fun i δ' => LeD [.dat h.d, .dat (.list (es.map Ev.d)), .dat kp, .dat du, .str L (.tuple [.list cC, .list cF, .list cS, .list (rmJ h es i), .list cW]), .dat (.tuple [.list cC, .list cF, .list cS, .list (rmJ h es 0), .list cW]), .dat (.list (rmJ h es 0)), .no, .no] δ', leD_refl _, fun i δ' hi hI => ?_, fun δ' hI => ?_⟩
  · have hi : i < h.t.rs := hi
    refine s_le (leD_set 7 hI) ?_
    refine s_appP2 rfl hH (fun a _ => True.intro) (wp_int ⟨3, rmJ h es i, rfl, rfl, wp_var rfl ⟨i, _, rfl, rmJ_at hi, ?_, ?_⟩⟩)
    · rw [if_neg (Nat.lt_irrefl _), List.append_nil]
      exact Nat.le_trans (few i) (by decide)
    · refine wp_I0 (wp_int (wp_var rfl ⟨_, _, rfl, rfl, rfl, .int _, rfl, ?_⟩))
      rw [rmJ_set hi]
      exact ⟨.inr rfl, .inr rfl, .inr rfl, .inr rfl, .inr rfl, .inr rfl, .inr rfl, .inl rfl, .inl rfl, True.intro⟩
  refine s_le hI ?_
  have sR : ∀ j, Small 2 3402 (.list (rmJ h es j)) := fun j => by
    refine small_list (dep := 1) (wt := 1700) (n := 2) (fun d m => mem_mapD (fun x hx => ?_) m) (by rw [ln0]; exact t4)
    refine small_list (dep := 0) (wt := 16) (n := 100) (fun d m => ?_) ?_
    · rcases List.mem_append.mp m with m | m
      · exact nm_small h es x (by omega) d m
      · have := List.mem_range.mp hx
        split at m
        · rw [List.mem_singleton.mp m]
          exact small_int (by omega)
        · cases m
    · have := few x
      rw [List.length_append]
      split
      · show _ + 1 ≤ 100
        omega
      · show _ + 0 ≤ 100
        omega
  refine s_seq (s_if (wt_test (wp_ne (wp_ix (wp_str' rfl (wp_int ⟨_, _, _, .inr rfl, rfl, rfl, wp_new (wn_lcR bw1 ?_)⟩))))))
  repeat walk_at "ev"
  refine ⟨by omega, fun i rs => rs = (rmJ h es h.t.rs).take i, rfl, fun p i rs hi hI => ⟨_, rfl, wt_yes ⟨fun _ => ?_, fun c => (by cases c)⟩⟩, fun rs hI => ?_⟩
  · have hi : i < h.t.rs := hi
    refine wp_new (wn_cat (wp_ix (wp_var rfl (wp_var rfl ⟨_, _, _, .inl rfl, rfl, atI_nat (rmJ_at hi), ?_⟩))))
    refine wp_lst (wl_cons (wp_I0 (wp_int (wp_var rfl ⟨_, _, rfl, rfl, wl_nil ⟨by show 1 ≤ 1000; decide, _, _, rfl, rfl, ?_, ?_⟩⟩))))
    · rw [if_neg (by omega), List.append_nil]
      have := few i
      show _ + 1 ≤ 1000
      omega
    · show _ = (rmJ h es h.t.rs).take (i + 1)
      rw [hI, if_neg (by omega), List.append_nil, take_snoc (rmJ_at hi), if_pos hi]
  have hI : rs = (rmJ h es h.t.rs).take h.t.rs := hI
  rw [List.take_of_length_le (by rw [ln0]; exact Nat.le_refl _)] at hI
  subst hI
  refine ⟨(sR _).shaped (by decide), (sR _).shaped (by decide), _, rfl, ?_⟩
  rw [(sR _).refl]
  refine ⟨fun e => (by cases e), fun _ => s_next ?_⟩
  -- all five are added to
  have lenC : cC.length ≤ 2 := by rw [← eC, List.length_map, cnt_len]; exact t1
  have lenF : cF.length ≤ 4 := by rw [← eF, List.length_map, flg_len]; exact t2
  have lenS : cS.length ≤ 3 := by rw [← eS, List.length_map, slt_len]; exact t3
  have lenW : cW.length ≤ 61 := by rw [← eW, List.length_map]; omega
  generalize eg : B5 cC cF cS (rmJ h es h.t.rs) cW = g
  have lg : ∀ k, k < 5 → (g k).length ≤ 61 := fun k hk => by
    rw [← eg]
    match k, hk with
    | 0, _ => show cC.length ≤ 61; omega
    | 1, _ => show cF.length ≤ 61; omega
    | 2, _ => show cS.length ≤ 61; omega
    | 3, _ => show (rmJ h es h.t.rs).length ≤ 61; rw [ln0]; omega
    | 4, _ => exact lenW
    | n + 5, q => exact absurd q (by omega)
  have row : ∀ k : Nat, k < 5 → ∃ l : List D, atI [PyData.list cC, .list cF, .list cS, .list (rmJ h es 0), .list cW] (k : Int) = some (.list l) ∧ l.length = (g k).length := fun k hk => by
    rw [← eg]
    match k, hk with
    | 0, _ => exact ⟨cC, rfl, rfl⟩
    | 1, _ => exact ⟨cF, rfl, rfl⟩
    | 2, _ => exact ⟨cS, rfl, rfl⟩
    | 3, _ => exact ⟨rmJ h es 0, rfl, by show _ = (rmJ h es h.t.rs).length; rw [ln0, ln0]⟩
    | 4, _ => exact ⟨cW, rfl, rfl⟩
    | n + 5, q => exact absurd q (by omega)
  have e0 : PyData.tuple [.list cC, .list cF, .list cS, .list (rmJ h es h.t.rs), .list cW] = .tuple (T5 g 0) := by rw [← eg, T5_start]
  rw [e0]
  refine s_seq (s_forR ?_)
  repeat walk_at "ev"
  refine ⟨by decide, fun i δ' => LeD [.dat h.d, .dat (.list (es.map Ev.d)), .dat kp, .dat du, .str L (.tuple (T5 g i)), .dat (.tuple [.list cC, .list cF, .list cS, .list (rmJ h es 0), .list cW]), .no, .no, .no] δ', ?_, fun i δ' hi hI => ?_, fun δ' hI => ?_⟩
  · exact ⟨.inr rfl, .inr rfl, .inr rfl, .inr rfl, .inr rfl, .inr rfl, .inl rfl, .inl rfl, .inl rfl, True.intro⟩
  · have hi : i < 5 := hi
    refine s_le (leD_set 7 hI) ?_
    refine s_appP rfl hH (fun a _ => True.intro) (wp_var rfl ⟨i, _, rfl, T5_at hi, ?_, ?_⟩)
    · rw [if_neg (Nat.lt_irrefl _), List.append_nil]
      exact Nat.le_trans (lg i hi) (by decide)
    · refine wp_I0 (wp_int (wp_var rfl ⟨_, _, rfl, rfl, rfl, .int _, rfl, ?_⟩))
      rw [T5_set hi]
      exact ⟨.inr rfl, .inr rfl, .inr rfl, .inr rfl, .inr rfl, .inr rfl, .inl rfl, .inl rfl, .inl rfl, True.intro⟩
  have hI : LeD [.dat h.d, .dat (.list (es.map Ev.d)), .dat kp, .dat du, .str L (.tuple (T5 g 5)), .dat (.tuple [.list cC, .list cF, .list cS, .list (rmJ h es 0), .list cW]), .no, .no, .no] δ' := hI
  refine s_le hI ?_
  have sI : ∀ v : Nat → Int, (∀ k, k < 5 → (v k).natAbs < 1024) → Small 1 85 (.list ((List.range 5).map fun k => PyData.int (v k))) := fun v hv => small_list (dep := 0) (wt := 16) (n := 5) (fun d m => mem_mapD (fun x hx => small_int (hv x (List.mem_range.mp hx))) m) (by rw [List.length_map, List.length_range]; exact Nat.le_refl _)
  refine s_seq (s_if (wt_test (wp_ne (wp_new (wn_lcR bw1 ?_)))))
  repeat walk_at "ev"
  refine ⟨by decide, fun i rs => rs = (List.range i).map fun k => PyData.int (((g k).length : Int) + 1), rfl, fun p i rs hi hI => ⟨_, rfl, wt_yes ⟨fun _ => ?_, fun c => (by cases c)⟩⟩, fun rs hI => ?_⟩
  · have hi : i < 5 := hi
    refine wp_len rfl (wp_ix (wp_str' rfl (wp_var rfl ⟨_, _, _, .inr rfl, rfl, atI_nat (T5_at hi), _, .inl rfl, ?_⟩)))
    rw [if_pos hi, List.length_append, hI]
    exact map_snoc (g := fun k => PyData.int (((g k).length : Int) + 1)) i
  have hI : rs = (List.range 5).map fun k => PyData.int (((g k).length : Int) + 1) := hI
  subst hI
  refine wp_new (wn_lcR bw1 ?_)
  repeat walk_at "ev"
  refine ⟨by decide, fun i rs => rs = (List.range i).map fun k => PyData.int (((g k).length : Int) + 1), rfl, fun p i rs hi hI => ⟨_, rfl, wt_yes ⟨fun _ => ?_, fun c => (by cases c)⟩⟩, fun rs hI => ?_⟩
  · have hi : i < 5 := hi
    obtain ⟨l, hl1, hl2⟩ := row i hi
    refine wp_I0 (wp_len rfl (wp_ix (wp_var rfl (wp_var rfl ⟨_, _, _, .inr rfl, rfl, hl1, _, .inl rfl, wp_int ⟨_, _, rfl, rfl, ?_⟩⟩))))
    rw [hl2, hI]
    exact map_snoc (g := fun k => PyData.int (((g k).length : Int) + 1)) i
  have hI : rs = (List.range 5).map fun k => PyData.int (((g k).length : Int) + 1) := hI
  subst hI
  have s1 := sI (fun k => ((g k).length : Int) + 1) fun k hk => by
    have := lg k hk
    show (((g k).length : Int) + 1).natAbs < 1024
    omega
  refine ⟨s1.shaped (by decide), s1.shaped (by decide), _, rfl, ?_⟩
  rw [s1.refl]
  refine ⟨fun e => (by cases e), fun _ => s_next ?_⟩
  refine s_seq (s_if (wt_test (wp_ne (wp_new (wn_lcR bw1 ?_)))))
  repeat walk_at "ev"
  refine ⟨by decide, fun i rs => rs = (List.range i).map fun (k : Nat) => PyData.int (90 + (k : Int)), rfl, fun p i rs hi hI => ⟨_, rfl, wt_yes ⟨fun _ => ?_, fun c => (by cases c)⟩⟩, fun rs hI => ?_⟩
  · have hi : i < 5 := hi
    refine wp_scl (wp_ix (wp_ix (wp_str' rfl (wp_var rfl ⟨_, _, _, .inr rfl, rfl, atI_nat (T5_at hi), wp_neg (wp_int ⟨_, rfl, ?_⟩)⟩))))
    rw [if_pos hi]
    refine ⟨_, _, _, .inl rfl, rfl, atI_last _ _, rfl, ?_⟩
    rw [hI]
    exact map_snoc (g := fun (k : Nat) => PyData.int (90 + (k : Int))) i
  have hI : rs = (List.range 5).map fun (k : Nat) => PyData.int (90 + (k : Int)) := hI
  subst hI
  have s2 := sI (fun k => 90 + (k : Int)) fun k hk => by
    show (90 + (k : Int)).natAbs < 1024
    omega
  refine wp_lst ?_
  repeat walk_at "ev"
  refine ⟨by show 5 ≤ 1000; decide, s2.shaped (by decide), s2.shaped (by decide), _, rfl, ?_⟩
  rw [show PyData.eqv (.list ((List.range 5).map fun (k : Nat) => PyData.int (90 + (k : Int)))) (.list [.int 90, .int 91, .int 92, .int 93, .int 94]) = true from s2.refl]
  refine ⟨fun e => (by cases e), fun _ => s_next ?_⟩
  -- the end
  subst ekp
  subst edu
  refine s_retS (wp_and (wp_eqS (wp_repr (wp_ofW (ww_callR ?_)))))
  repeat walk_at "ev"
  refine ⟨_, _, rfl, h, es, ws, rfl, r, hok, by omega, 3, 17505, .inr ⟨_, rfl⟩, sS, by decide, by decide, ?_⟩
  repeat walk_at "ev"
  refine ⟨fun _ => wp_eqS (wp_repr (wp_lst ?_)), fun e => ?_⟩
  · repeat walk_at "ev"
    refine ⟨by show 2 ≤ 1000; decide, 8, 424932, .inl ⟨_, rfl⟩, sB, by decide, by decide, ?_⟩
    repeat walk_at "ev"
    rw [decide_eq_true rfl]
    exact ⟨rfl, hG⟩
  · rw [decide_eq_true rfl] at e
    cases e
end
end Kw

set_option Elab.async false
set_option linter.all false
set_option maxRecDepth 100000
namespace Kw
open PySem PySem.Spec PyProof.Rows L2
local macro_rules | `(tactic| walk_at "ev") => `(tactic| first
  | refine wp_var rfl ?_
  | refine wp_int ?_
  | refine wp_str ?_
  | refine wp_bl ?_
  | refine wp_non ?_
  | refine wl_nil ?_
  | refine wl_cons ?_
  | refine wp_tup ?_
  | refine wp_lst ?_
  | refine wp_ix ?_
  | refine wp_I0 ?_
  | refine wp_I ?_
  | refine wp_IB ?_
  | refine wp_neg ?_
  | refine wp_len rfl ?_
  | refine wt_test (wp_IB ?_)
  | refine wt_eqI ?_
  | refine wt_val ?_
  | refine ⟨_, _, rfl, rfl, ?_⟩
  | refine ⟨_, _, _, .inr rfl, rfl, rfl, ?_⟩
  | refine ⟨_, _, _, .inl rfl, rfl, rfl, ?_⟩
  | refine ⟨_, .inl rfl, ?_⟩
  | refine ⟨_, .inr rfl, ?_⟩
  | refine ⟨_, rfl, ?_⟩)
local macro_rules | `(tactic| walk_at "ev") => `(tactic| first
  | refine ⟨_, _, _, .inr rfl, rfl, at0 _ _, ?_⟩
  | refine ⟨_, _, _, .inr rfl, rfl, at1 _ _ _, ?_⟩)
section
variable {X : Cx} {K : PySem.W.Frag} {W : Wd} {Z : List Addr} {δ : List Sl} {b : Bool} {ta tb : TE} {F : D → Prop}
theorem catTK (h : X.K = K) : OpR X (binaryOp .Add) (rCatT K) := h ▸ op_catT
theorem wp_catT (h : EvG W K Z δ b ta fun x => EvG W K Z δ b tb fun y => ∃ xs ys, x = .tuple xs ∧ y = .tuple ys ∧ xs ≠ [] ∧ ys ≠ [] ∧ xs.length + ys.length ≤ 1000 ∧ F (.tuple (xs ++ ys))) : EvG W K Z δ b (tOp (rCatT K) ta tb) F := fun σ H k Q q => h σ H k _ fun v H1 x hx g1 i1 d1 => hx σ H1 (k.gr g1 i1) _ fun w H2 y hy g2 i2 d2 => by
  obtain ⟨xs, ys, rfl, rfl, nx, ny, hl, f⟩ := hy
  have d1' := d1.mono (lv_gr (b := b) k g1 g2)
  cases d1' with
  | @tup a vs _ ha hva =>
    cases d2 with
    | @tup c ws _ hc hwc =>
      refine ⟨a, c, vs, ws, rfl, rfl, Same.seqT hid_all ha, Same.seqT hid_all hc, fun e => ?_, by rw [hva.len, hwc.len]; exact Nat.le_of_lt (small1000 hl), fun e => ?_, fun _ p np => q _ _ _ f ((g1.trans g2).trans (Gr.new np)) (Wd.new i2 np) (.tup (SqT.of (xs := vs ++ ws) ?_) ?_)⟩
      · subst e
        cases hva
        exact nx rfl
      · subst e
        cases hwc
        exact absurd rfl ny
      · rw [hid_out (lv_new (b := b) ((k.gr g1 i1).gr g2 i2) np)]
        exact upd_same
      · exact (hva.append hwc).mono (hid_same fun b u _ e => (Gr.new (S := []) np) b u (by simp) e)
end
abbrev slaw : Stmt := topS 46
theorem sclaw : FnScope ["script", "deck", "turn", "home", "events_here", "steps", "both", "told", "due"] ["script"] (defScope slaw) := ⟨rfl, rfl, rfl, by decide +kernel, rfl, by decide +kernel, by decide +kernel⟩

section
variable {P : Program} {w : World} {K : PySem.W.Frag} {mg : Str → Option Value} {base : Heap}
theorem FnG.mono {CX : CXT} {j k : Nat} {f : Addr} {fd : FuncData} {ps : List Str} {sp : Sp} (F : FnG P w K mg base CX j f fd ps sp) (h : j ≤ k) : FnG P w K mg base CX k f fd ps sp :=
  ⟨F.len, fun A outer s H args us vs Q E hr hg e0 hb r hs => F.run A outer s H args us vs Q E (hr.mono h) hg e0 hb r hs⟩
def spLaw (K : PySem.W.Frag) : Sp := fun vs H Q _ => ∃ (a : Addr) (ns : List Int), vs = [.ref a] ∧ SqL K H a (ns.map V.int) ∧ ns.length ≤ 63 ∧ ∀ H', Q (.bl true) H'
theorem law_start {u : TS} {T : Ends} {σ : Sg} {H : Hp} {E : XK} {a : Addr} {ns : List Int} (h0 : σ[0]? = some (some (.ref a))) (hS : SqL K H a (ns.map V.int)) (hl : ns.length ≤ 63)
    (h : ∀ p q Ha, Same H Ha → Deck Ha p q → u T (σ.set 1 (some (.ref p))) Ha) : tSeq (tAsg (tCall (spDeck K) [] E (tCons (tVar 0) tNil)) (gName 1)) u T σ H :=
  ⟨.ref a, h0, a, ns, rfl, hS, hl, fun p q Ha sa _ _ hD => h p q Ha sa hD⟩
def h0 : Hs := ⟨⟨1, 1, 1, 1⟩, [⟨3, [], [⟨0, 1, [.take 0, .drop 0, .take 0]⟩, ⟨1, 2, [.drop 0]⟩, ⟨0, 2, [.enter 0, .enter 0, .add 0 (-2)]⟩, ⟨0, 2, [.flag 0 true, .flag 0 false]⟩]⟩]⟩
theorem h0_ok : h0.ok := by
  refine ⟨⟨by decide, by decide, by decide, by decide⟩, by decide, by decide, fun k hk => ?_⟩
  have hk : k ∈ [(⟨3, [], [⟨0, 1, [.take 0, .drop 0, .take 0]⟩, ⟨1, 2, [.drop 0]⟩, ⟨0, 2, [.enter 0, .enter 0, .add 0 (-2)]⟩, ⟨0, 2, [.flag 0 true, .flag 0 false]⟩]⟩ : Knd)] := hk
  rw [List.mem_singleton.mp hk]
  refine ⟨by decide, by decide, .nil, fun n hn => (nomatch hn), fun s hs => ?_, by decide⟩
  have hs : s ∈ [(⟨0, 1, [.take 0, .drop 0, .take 0]⟩ : Stp), ⟨1, 2, [.drop 0]⟩, ⟨0, 2, [.enter 0, .enter 0, .add 0 (-2)]⟩, ⟨0, 2, [.flag 0 true, .flag 0 false]⟩] := hs
  simp only [List.mem_cons, List.not_mem_nil, or_false] at hs
  rcases hs with rfl | rfl | rfl | rfl
  all_goals
    refine ⟨by decide, by decide, fun x hx => ?_, by decide⟩
    simp only [List.mem_cons, List.not_mem_nil, or_false] at hx
  · rcases hx with rfl | rfl | rfl <;> exact (by decide : (0 : Nat) < 1)
  · rcases hx with rfl
    exact (by decide : (0 : Nat) < 1)
  · rcases hx with rfl | rfl | rfl
    · exact (by decide : (0 : Nat) < 1)
    · exact (by decide : (0 : Nat) < 1)
    · exact ⟨by decide, by decide, by decide, by decide⟩
  · rcases hx with rfl | rfl <;> exact (by decide : (0 : Nat) < 1)
theorem run_nil : RunOf h0 [] [] := .nil
theorem run_b : RunOf h0 [.begin 0] [(0, 0)] := RunOf.snoc (es := []) (e := .begin 0) run_nil (show 0 < 1 by decide)
theorem run1 : RunOf h0 [.begin 0, .go 0 2] [(0, 2)] := RunOf.snoc (es := [.begin 0]) (e := .go 0 2) run_b ⟨(0, 0), _, rfl, rfl, rfl⟩
theorem run2 : RunOf h0 [.begin 0, .go 0 3] [(0, 2)] := RunOf.snoc (es := [.begin 0]) (e := .go 0 3) run_b ⟨(0, 0), _, rfl, rfl, rfl⟩
theorem run_bb : RunOf h0 [.begin 0, .begin 0] [(0, 0), (0, 0)] := RunOf.snoc (es := [.begin 0]) (e := .begin 0) run_b (show 0 < 1 by decide)
theorem run_c : RunOf h0 [.begin 0, .begin 0, .go 0 0] [(0, 1), (0, 0)] := RunOf.snoc (es := [.begin 0, .begin 0]) (e := .go 0 0) run_bb ⟨(0, 0), _, rfl, rfl, rfl⟩
theorem run_d : RunOf h0 [.begin 0, .begin 0, .go 0 0, .go 1 0] [(0, 1), (0, 1)] := RunOf.snoc (es := [.begin 0, .begin 0, .go 0 0]) (e := .go 1 0) run_c ⟨(0, 0), _, rfl, rfl, rfl⟩
theorem run_e : RunOf h0 [.begin 0, .begin 0, .go 0 0, .go 1 0, .go 0 1] [(0, 2), (0, 1)] := RunOf.snoc (es := [.begin 0, .begin 0, .go 0 0, .go 1 0]) (e := .go 0 1) run_d ⟨(0, 1), _, rfl, rfl, rfl⟩
theorem st_e : stateD h0 [.begin 0, .begin 0, .go 0 0, .go 1 0, .go 0 1] = .tuple [.list [.int 0], .list [.bool false], .list [.int 1], .list [.list []], .list [.tuple [.int 0, .int 2], .tuple [.int 0, .int 1]]] := by rfl
theorem st_1 : stateD h0 [.begin 0, .go 0 2] = .tuple [.list [.int (-2)], .list [.bool false], .list [.none], .list [.list [.int 0]], .list [.tuple [.int 0, .int 2]]] := by rfl
theorem st_2 : stateD h0 [.begin 0, .go 0 3] = .tuple [.list [.int 0], .list [.bool false], .list [.none], .list [.list []], .list [.tuple [.int 0, .int 2]]] := by rfl
theorem st_0 : stateD h0 [] = .tuple [.list [.int 0], .list [.bool false], .list [.none], .list [.list []], .list []] := by rfl
theorem fin_small : Small 4 70024 (.list [stateD h0 [.begin 0, .begin 0, .go 0 0, .go 1 0, .go 0 1], stateD h0 [.begin 0, .go 0 2], stateD h0 [.begin 0, .go 0 3], stateD h0 []]) := small_list (dep := 3) (wt := 17505) (n := 4) (fun y hy => by
  simp only [List.mem_cons, List.not_mem_nil, or_false] at hy
  rcases hy with rfl | rfl | rfl | rfl
  · exact state_small run_e h0_ok (by decide)
  · exact state_small run1 h0_ok (by decide)
  · exact state_small run2 h0_ok (by decide)
  · exact state_small run_nil h0_ok (by decide)) (Nat.le_refl _)
theorem ok_law {f f1 f2 f3 f4 f5 : Addr} {fd fd1 fd2 fd3 fd4 fd5 : FuncData} {k : Nat} (F : Fun K "law" "law" slaw f fd) (F_law_deck : Fun K "_law_deck" "_law_deck" s_law_deck f1 fd1) (B_law_deck : Binds K fd1 ["script"] []) (g_law_deck : mg "_law_deck" = some (.ref f1)) (F_law_take : Fun K "_law_take" "_law_take" s_law_take f2 fd2) (B_law_take : Binds K fd2 ["deck", "wide"] []) (g_law_take : mg "_law_take" = some (.ref f2)) (F_law_house : Fun K "_law_house" "_law_house" s_law_house f3 fd3) (B_law_house : Binds K fd3 ["deck", "wide", "most", "long"] []) (g_law_house : mg "_law_house" = some (.ref f3)) (F_law_run : Fun K "_law_run" "_law_run" s_law_run f4 fd4) (B_law_run : Binds K fd4 ["deck", "home", "long"] []) (g_law_run : mg "_law_run" = some (.ref f4)) (Fstate_after : Fun K "state_after" "state_after" sstate_after f5 fd5) (Bstate_after : Binds K fd5 ["house", "run"] []) (gstate_after : mg "state_after" = some (.ref f5)) (T : TG mg) {fR : Addr} {fdR : FuncData} (F_law_right : Fun K "_law_right" "_law_right" s_law_right fR fdR) (B_law_right : Binds K fdR ["home", "events_here"] []) (g_law_right : mg "_law_right" = some (.ref fR)) (G_law_right : FnG P w K mg base CX0 k fR fdR ["home", "events_here"] (spD K preRight)) (G_law_deck : FnOk P w K mg base CX0 k f1 fd1 ["script"] (spDeck K)) (G_law_take : FnOk P w K mg base CX0 k f2 fd2 ["deck", "wide"] (spK K preTake)) (G_law_house : FnOk P w K mg base CX0 k f3 fd3 ["deck", "wide", "most", "long"] (spK K preHouse)) (G_law_run : FnOk P w K mg base CX0 k f4 fd4 ["deck", "home", "long"] (spK K preRun)) (Gstate_after : FnOk P w K mg base CX0 k f5 fd5 ["house", "run"] (spW K preState)) : FnG P w K mg base CX0 (k + 1) f fd ["script"] (spLaw K) := by
  refine funG F sclaw (fun vs H Q E h => ?_) (fun cdv A outer s H vs Q E hr hgd h => ?_)
  · obtain ⟨a, ns, rfl, _⟩ := h
    rfl
  obtain ⟨a, ns, rfl, hS, hl, hq⟩ := h
  refine ⟨_, (pss_cons (ps_set (i := 1) sclaw.nd rfl (.inl rfl) (pe_call G_law_deck hr (by rfl) g_law_deck F_law_deck.kp B_law_deck .nil pass0 (pa_cons (pv 0) pa_nil)))
      (pss_cons (ps_for PassesOwn.never rfl (pi_range1 (by rfl) T.n_range (pa_cons pe_int pa_nil)) (pg_name (i := 2) sclaw.nd rfl (.inl rfl)) (pss_cons (ps_set (i := 3) sclaw.nd rfl (.inl rfl) (pe_call G_law_house hr (by rfl) g_law_house F_law_house.kp B_law_house .nil pass0 (pa_cons (pv 1) (pa_cons pe_int (pa_cons (pe_ix (ixK (K := K) rfl) (pe_lst (pa_cons pe_int (pa_cons pe_int pa_nil))) (pe_call G_law_take hr (by rfl) g_law_take F_law_take.kp B_law_take .nil pass0 (pa_cons (pv 1) (pa_cons pe_int pa_nil))) (fun _ _ => rfl)) (pa_cons (pe_ix (ixK (K := K) rfl) (pe_lst (pa_cons pe_int (pa_cons pe_int pa_nil))) (pe_call G_law_take hr (by rfl) g_law_take F_law_take.kp B_law_take .nil pass0 (pa_cons (pv 1) (pa_cons pe_int pa_nil))) (fun _ _ => rfl)) pa_nil))))))
      (pss_cons (ps_set (i := 4) sclaw.nd rfl (.inl rfl) (pe_call G_law_run hr (by rfl) g_law_run F_law_run.kp B_law_run .nil pass0 (pa_cons (pv 1) (pa_cons (pv 3) (pa_cons (pe_ix (ixK (K := K) rfl) (pe_lst (pa_cons (pe_call G_law_take hr (by rfl) g_law_take F_law_take.kp B_law_take .nil pass0 (pa_cons (pv 1) (pa_cons pe_int pa_nil))) (pa_cons (pe_call G_law_take hr (by rfl) g_law_take F_law_take.kp B_law_take .nil pass0 (pa_cons (pv 1) (pa_cons pe_int pa_nil))) pa_nil))) (pe_call G_law_take hr (by rfl) g_law_take F_law_take.kp B_law_take .nil pass0 (pa_cons (pv 1) (pa_cons pe_int pa_nil))) (fun _ _ => rfl)) pa_nil)))))
      (pss_one (ps_if (pt_not (pt_val (pe_callG G_law_right hr hgd (by rfl) g_law_right F_law_right.kp B_law_right pass0 (pa_cons (pv 3) (pa_cons (pv 4) pa_nil))))) (pss_one (ps_ret pe_bl)) pss_nil)))))
      (pss_cons (ps_set (i := 5) sclaw.nd rfl (.inl rfl) (pe_tup (pa_cons (pe_tup (pa_cons pe_int (pa_cons pe_int (pa_cons (pe_tup (pa_cons (pe_tup (pa_cons pe_str (pa_cons pe_int pa_nil))) (pa_cons (pe_tup (pa_cons pe_str (pa_cons pe_int pa_nil))) (pa_cons (pe_tup (pa_cons pe_str (pa_cons pe_int pa_nil))) pa_nil)))) pa_nil)))) (pa_cons (pe_tup (pa_cons pe_int (pa_cons pe_int (pa_cons (pe_tup (pa_cons (pe_tup (pa_cons pe_str (pa_cons pe_int pa_nil))) pa_nil)) pa_nil)))) pa_nil))))
      (pss_cons (ps_set (i := 5) sclaw.nd rfl (.inl rfl) (pe_op (catTK (K := K) rfl) (pv 5) (pe_tup (pa_cons (pe_tup (pa_cons pe_int (pa_cons pe_int (pa_cons (pe_tup (pa_cons (pe_tup (pa_cons pe_str (pa_cons pe_int pa_nil))) (pa_cons (pe_tup (pa_cons pe_str (pa_cons pe_int pa_nil))) (pa_cons (pe_tup (pa_cons pe_str (pa_cons pe_int (pa_cons (pe_un un_neg pe_int) pa_nil)))) pa_nil)))) pa_nil)))) pa_nil))))
      (pss_cons (ps_set (i := 5) sclaw.nd rfl (.inl rfl) (pe_op (catTK (K := K) rfl) (pv 5) (pe_tup (pa_cons (pe_tup (pa_cons pe_int (pa_cons pe_int (pa_cons (pe_tup (pa_cons (pe_tup (pa_cons pe_str (pa_cons pe_int (pa_cons pe_bl pa_nil)))) (pa_cons (pe_tup (pa_cons pe_str (pa_cons pe_int (pa_cons pe_bl pa_nil)))) pa_nil))) pa_nil)))) pa_nil))))
      (pss_cons (ps_set (i := 3) sclaw.nd rfl (.inl rfl) (pe_tup (pa_cons pe_int (pa_cons pe_int (pa_cons pe_int (pa_cons pe_int (pa_cons (pe_tup (pa_cons (pe_tup (pa_cons pe_int (pa_cons (pe_tup pa_nil) (pa_cons (pv 5) pa_nil)))) pa_nil)) pa_nil)))))))
      (pss_cons (ps_set (i := 6) sclaw.nd rfl (.inl rfl) (pe_lst (pa_cons (pe_tup (pa_cons pe_str (pa_cons pe_int pa_nil))) (pa_cons (pe_tup (pa_cons pe_str (pa_cons pe_int pa_nil))) (pa_cons (pe_tup (pa_cons pe_str (pa_cons pe_int (pa_cons pe_int pa_nil)))) (pa_cons (pe_tup (pa_cons pe_str (pa_cons pe_int (pa_cons pe_int pa_nil)))) (pa_cons (pe_tup (pa_cons pe_str (pa_cons pe_int (pa_cons pe_int pa_nil)))) pa_nil)))))))
      (pss_cons (ps_set (i := 7) sclaw.nd rfl (.inl rfl) (pe_lst (pa_cons (pe_call Gstate_after hr (by rfl) gstate_after Fstate_after.kp Bstate_after .nil pass0 (pa_cons (pv 3) (pa_cons (pv 6) pa_nil))) (pa_cons (pe_call Gstate_after hr (by rfl) gstate_after Fstate_after.kp Bstate_after .nil pass0 (pa_cons (pv 3) (pa_cons (pe_lst (pa_cons (pe_tup (pa_cons pe_str (pa_cons pe_int pa_nil))) (pa_cons (pe_tup (pa_cons pe_str (pa_cons pe_int (pa_cons pe_int pa_nil)))) pa_nil))) pa_nil))) pa_nil))))
      (pss_cons (ps_set (i := 7) sclaw.nd rfl (.inl rfl) (pe_op op_cat (pv 7) (pe_lst (pa_cons (pe_call Gstate_after hr (by rfl) gstate_after Fstate_after.kp Bstate_after .nil pass0 (pa_cons (pv 3) (pa_cons (pe_lst (pa_cons (pe_tup (pa_cons pe_str (pa_cons pe_int pa_nil))) (pa_cons (pe_tup (pa_cons pe_str (pa_cons pe_int (pa_cons pe_int pa_nil)))) pa_nil))) pa_nil))) (pa_cons (pe_call Gstate_after hr (by rfl) gstate_after Fstate_after.kp Bstate_after .nil pass0 (pa_cons (pv 3) (pa_cons (pe_lst pa_nil) pa_nil))) pa_nil)))))
      (pss_cons (ps_set (i := 8) sclaw.nd rfl (.inl rfl) (pe_lst (pa_cons (pe_tup (pa_cons (pe_lst (pa_cons pe_int pa_nil)) (pa_cons (pe_lst (pa_cons pe_bl pa_nil)) (pa_cons (pe_lst (pa_cons pe_int pa_nil)) (pa_cons (pe_lst (pa_cons (pe_lst pa_nil) pa_nil)) (pa_cons (pe_lst (pa_cons (pe_tup (pa_cons pe_int (pa_cons pe_int pa_nil))) (pa_cons (pe_tup (pa_cons pe_int (pa_cons pe_int pa_nil))) pa_nil))) pa_nil)))))) (pa_cons (pe_tup (pa_cons (pe_lst (pa_cons (pe_un un_neg pe_int) pa_nil)) (pa_cons (pe_lst (pa_cons pe_bl pa_nil)) (pa_cons (pe_lst (pa_cons pe_non pa_nil)) (pa_cons (pe_lst (pa_cons (pe_lst (pa_cons pe_int pa_nil)) pa_nil)) (pa_cons (pe_lst (pa_cons (pe_tup (pa_cons pe_int (pa_cons pe_int pa_nil))) pa_nil)) pa_nil)))))) pa_nil))))
      (pss_one (ps_ret (pe_cmpR (eqK (K := K) rfl hr.units) (pv 7) (pe_op op_cat (pv 8) (pe_lst (pa_cons (pe_tup (pa_cons (pe_lst (pa_cons pe_int pa_nil)) (pa_cons (pe_lst (pa_cons pe_bl pa_nil)) (pa_cons (pe_lst (pa_cons pe_non pa_nil)) (pa_cons (pe_lst (pa_cons (pe_lst pa_nil) pa_nil)) (pa_cons (pe_lst (pa_cons (pe_tup (pa_cons pe_int (pa_cons pe_int pa_nil))) pa_nil)) pa_nil)))))) (pa_cons (pe_tup (pa_cons (pe_lst (pa_cons pe_int pa_nil)) (pa_cons (pe_lst (pa_cons pe_bl pa_nil)) (pa_cons (pe_lst (pa_cons pe_non pa_nil)) (pa_cons (pe_lst (pa_cons (pe_lst pa_nil) pa_nil)) (pa_cons (pe_lst pa_nil) pa_nil)))))) pa_nil)))) (nomark _)))))))))))))), ?_⟩
  refine law_start (a := a) (ns := ns) rfl hS hl fun p q Ha sa hD => ?_
  refine (?_ : SE ⟨WK p q, K, [], Ha, []⟩ _ [p, q] [.no, .raw (.ref p), .no, .no, .no, .no, .no, .no, .no] { rt := fun d => d = .bool true, nx := fun _ _ => False }) _ _ _ ⟨fun a h => (nomatch h), ⟨hD, deck_al hD, fun a h => h, ?_⟩, Gr.refl _ _, fun x h => (nomatch h)⟩ ⟨fun Z δ σ H e s => e.elim, fun Z δ σ H e s => e.elim, fun Z δ σ H e s => e.elim, fun v d H e g i dd => ?_, fun v d H L e => e.elim⟩
  rotate_left
  · exact ⟨True.intro, rfl, True.intro, True.intro, True.intro, True.intro, True.intro, True.intro, True.intro, True.intro⟩
  · subst e
    cases dd
    exact hq _
  refine s_seq (s_forR ?_)
  repeat walk_at "ev"
  refine ⟨by decide, fun _ δ' => LeD [.no, .raw (.ref p), .no, .no, .no, .no, .no, .no, .no] δ', leD_refl _, fun i δ' hi hI => ?_, fun δ' hI => s_le hI ?_⟩
  · refine s_le (leD_set 2 hI) ?_
    refine s_seq (s_asg (wp_callK rfl ?_))
    refine wl_cons (wp_int (wl_cons (wp_ix (wp_lst ?_))))
    repeat walk_at "ev"
    refine ⟨by show 2 ≤ 1000; decide, wp_callKS rfl ?_⟩
    repeat walk_at "ev"
    refine ⟨by decide, by decide, fun r1 hr1 => ⟨rfl, ?_⟩⟩
    have hr1 : r1 < 2 := hr1
    obtain ⟨m1, hm1, b1, b2⟩ : ∃ m : Nat, atI [PyData.int 6, .int 4] (r1 : Int) = some (.int m) ∧ 1 ≤ m ∧ m ≤ 6 := by
      match r1, hr1 with
      | 0, _ => exact ⟨6, rfl, by decide, by decide⟩
      | 1, _ => exact ⟨4, rfl, by decide, by decide⟩
      | n + 2, q => exact absurd q (by omega)
    refine ⟨_, _, _, .inl rfl, rfl, hm1, wl_cons (wp_ix (wp_lst ?_))⟩
    repeat walk_at "ev"
    refine ⟨by show 2 ≤ 1000; decide, wp_callKS rfl ?_⟩
    repeat walk_at "ev"
    refine ⟨by decide, by decide, fun r2 hr2 => ⟨rfl, ?_⟩⟩
    have hr2 : r2 < 2 := hr2
    obtain ⟨m2, hm2, b3⟩ : ∃ m : Nat, atI [PyData.int 10, .int 6] (r2 : Int) = some (.int m) ∧ m ≤ 10 := by
      match r2, hr2 with
      | 0, _ => exact ⟨10, rfl, by decide⟩
      | 1, _ => exact ⟨6, rfl, by decide⟩
      | n + 2, q => exact absurd q (by omega)
    refine ⟨_, _, _, .inl rfl, rfl, hm2, wl_nil ⟨3, m1, m2, rfl, by decide, by decide, b1, b2, b3, fun x hx => ?_⟩⟩
    refine s_seq (s_asg (wp_callK rfl ?_))
    refine wl_cons (wp_var rfl (wl_cons (wp_ix (wp_lst (wl_cons (wp_callKS rfl ?_))))))
    repeat walk_at "ev"
    refine ⟨by decide, by decide, fun r3 hr3 => ⟨rfl, wl_cons (wp_callKS rfl ?_)⟩⟩
    repeat walk_at "ev"
    refine ⟨by decide, by decide, fun r4 hr4 => ⟨rfl, ?_⟩⟩
    repeat walk_at "ev"
    refine ⟨by show 2 ≤ 1000; decide, wp_callKS rfl ?_⟩
    repeat walk_at "ev"
    refine ⟨by decide, by decide, fun r5 hr5 => ⟨rfl, ?_⟩⟩
    have hr5 : r5 < 2 := hr5
    have hr3 : r3 < 61 := hr3
    have hr4 : r4 < 9 := hr4
    obtain ⟨m3, hm3, b4⟩ : ∃ m : Nat, atI [PyData.int (r3 : Int), .int (r4 : Int)] (r5 : Int) = some (.int m) ∧ m ≤ 61 := by
      match r5, hr5 with
      | 0, _ => exact ⟨r3, rfl, by omega⟩
      | 1, _ => exact ⟨r4, rfl, by omega⟩
      | n + 2, q => exact absurd q (by omega)
    refine ⟨_, _, _, .inl rfl, rfl, hm3, wl_nil ⟨x, m3, rfl, hx, b4, fun es ws r hlen => ?_⟩⟩
    refine s_if (wt_not (wt_val (wp_callS ?_)))
    repeat walk_at "ev"
    refine ⟨x, es, ws, rfl, r, hx, by omega, rfl, true, rfl, fun e => (by cases e), fun _ => s_next ⟨rfl, ?_⟩⟩
    exact ⟨.inl rfl, .inr rfl, .inl rfl, .inl rfl, .inl rfl, .inl rfl, .inl rfl, .inl rfl, .inl rfl, True.intro⟩
  · refine s_seq (s_asg (wp_tup ?_))
    repeat (first | walk_at "ev" | refine And.intro (Nat.le_of_ble_eq_true rfl) ?_)
    refine s_seq (s_asg (wp_catT ?_))
    repeat (first | walk_at "ev" | refine And.intro (Nat.le_of_ble_eq_true rfl) ?_)
    refine ⟨by simp, by simp, by decide, ?_⟩
    refine s_seq (s_asg (wp_catT ?_))
    repeat (first | walk_at "ev" | refine And.intro (Nat.le_of_ble_eq_true rfl) ?_)
    refine ⟨by simp, by simp, by decide, ?_⟩
    refine s_seq (s_asg (wp_tup ?_))
    repeat (first | walk_at "ev" | refine And.intro (Nat.le_of_ble_eq_true rfl) ?_)
    refine s_seq (s_asg (wp_lst ?_))
    repeat (first | walk_at "ev" | refine And.intro (Nat.le_of_ble_eq_true rfl) ?_)
    refine s_seq (s_asg (wp_lst (wl_cons (wp_ofW (ww_call ?_)))))
    repeat (first | walk_at "ev" | refine And.intro (Nat.le_of_ble_eq_true rfl) ?_)
    refine ⟨h0, [.begin 0, .begin 0, .go 0 0, .go 1 0, .go 0 1], _, rfl, run_e, h0_ok, by decide, wl_cons (wp_ofW (ww_call ?_))⟩
    rw [st_e]
    repeat (first | walk_at "ev" | refine And.intro (Nat.le_of_ble_eq_true rfl) ?_)
    refine ⟨h0, [.begin 0, .go 0 2], _, rfl, run1, h0_ok, by decide, ?_⟩
    rw [st_1]
    repeat (first | walk_at "ev" | refine And.intro (Nat.le_of_ble_eq_true rfl) ?_)
    refine s_seq (s_asg (wp_new (wn_cat (wp_var rfl (wp_lst (wl_cons (wp_ofW (ww_call ?_))))))))
    repeat (first | walk_at "ev" | refine And.intro (Nat.le_of_ble_eq_true rfl) ?_)
    refine ⟨h0, [.begin 0, .go 0 3], _, rfl, run2, h0_ok, by decide, wl_cons (wp_ofW (ww_call ?_))⟩
    rw [st_2]
    repeat (first | walk_at "ev" | refine And.intro (Nat.le_of_ble_eq_true rfl) ?_)
    refine ⟨h0, [], _, rfl, run_nil, h0_ok, by decide, ?_⟩
    rw [st_0]
    repeat (first | walk_at "ev" | refine And.intro (Nat.le_of_ble_eq_true rfl) ?_)
    refine s_seq (s_asg (wp_lst ?_))
    repeat (first | walk_at "ev" | refine And.intro (Nat.le_of_ble_eq_true rfl) ?_)
    refine s_retS (wp_eq (wp_var rfl (wp_new (wn_cat (wp_var rfl (wp_lst ?_))))))
    repeat (first | walk_at "ev" | refine And.intro (Nat.le_of_ble_eq_true rfl) ?_)
    exact ⟨fin_small.shaped (by decide), fin_small.shaped (by decide), rfl, congrArg PyData.bool fin_small.refl⟩
end
end Kw

set_option Elab.async false
set_option linter.all false
set_option maxRecDepth 100000
namespace Kw
open PySem PySem.Spec PyProof.Rows L2
set_option maxHeartbeats 0 in
theorem all_mk {l : PySem.W.OpenLaw} {w : World} {K : PySem.W.Frag} {h : Heap} {mg : Str → Option Value} {fa fis_number fhas_word fhas_form fis_deed fis_step fare_marked fis_kind fis_house fcheck_house fsteps_of fis_begin fis_go fworks_as_far fworks_behind fcheck_run fdeeds_done fcounters_behind fflags_behind fslots_behind fnames_behind fstate_behind fstate_after f_law_deck f_law_take f_law_deed f_law_step f_law_kind f_law_house f_law_next f_law_moved f_law_run f_law_state f_law_right flaw : Addr} (X : K.In h) (G : h.Ns mainGlobals mg) (hfa : mg "law" = some (.ref fa))
    {odis_number anis_number : Option Addr} {slis_number : Array (Option Value)} {ocis_number kVis_number dcis_number pmis_number cdvis_number ctis_number : Value}
    {odhas_word anhas_word : Option Addr} {slhas_word : Array (Option Value)} {ochas_word kVhas_word dchas_word pmhas_word cdvhas_word cthas_word : Value}
    {odhas_form anhas_form : Option Addr} {slhas_form : Array (Option Value)} {ochas_form kVhas_form dchas_form pmhas_form cdvhas_form cthas_form : Value}
    {odis_deed anis_deed : Option Addr} {slis_deed : Array (Option Value)} {ocis_deed kVis_deed dcis_deed pmis_deed cdvis_deed ctis_deed : Value}
    {odis_step anis_step : Option Addr} {slis_step : Array (Option Value)} {ocis_step kVis_step dcis_step pmis_step cdvis_step ctis_step : Value}
    {odare_marked anare_marked : Option Addr} {slare_marked : Array (Option Value)} {ocare_marked kVare_marked dcare_marked pmare_marked cdvare_marked ctare_marked : Value}
    {odis_kind anis_kind : Option Addr} {slis_kind : Array (Option Value)} {ocis_kind kVis_kind dcis_kind pmis_kind cdvis_kind ctis_kind : Value}
    {odis_house anis_house : Option Addr} {slis_house : Array (Option Value)} {ocis_house kVis_house dcis_house pmis_house cdvis_house ctis_house : Value}
    {odcheck_house ancheck_house : Option Addr} {slcheck_house : Array (Option Value)} {occheck_house kVcheck_house dccheck_house pmcheck_house cdvcheck_house ctcheck_house : Value}
    {odsteps_of ansteps_of : Option Addr} {slsteps_of : Array (Option Value)} {ocsteps_of kVsteps_of dcsteps_of pmsteps_of cdvsteps_of ctsteps_of : Value}
    {odis_begin anis_begin : Option Addr} {slis_begin : Array (Option Value)} {ocis_begin kVis_begin dcis_begin pmis_begin cdvis_begin ctis_begin : Value}
    {odis_go anis_go : Option Addr} {slis_go : Array (Option Value)} {ocis_go kVis_go dcis_go pmis_go cdvis_go ctis_go : Value}
    {odworks_as_far anworks_as_far : Option Addr} {slworks_as_far : Array (Option Value)} {ocworks_as_far kVworks_as_far dcworks_as_far pmworks_as_far cdvworks_as_far ctworks_as_far : Value}
    {odworks_behind anworks_behind : Option Addr} {slworks_behind : Array (Option Value)} {ocworks_behind kVworks_behind dcworks_behind pmworks_behind cdvworks_behind ctworks_behind : Value}
    {odcheck_run ancheck_run : Option Addr} {slcheck_run : Array (Option Value)} {occheck_run kVcheck_run dccheck_run pmcheck_run cdvcheck_run ctcheck_run : Value}
    {oddeeds_done andeeds_done : Option Addr} {sldeeds_done : Array (Option Value)} {ocdeeds_done kVdeeds_done dcdeeds_done pmdeeds_done cdvdeeds_done ctdeeds_done : Value}
    {odcounters_behind ancounters_behind : Option Addr} {slcounters_behind : Array (Option Value)} {occounters_behind kVcounters_behind dccounters_behind pmcounters_behind cdvcounters_behind ctcounters_behind : Value}
    {odflags_behind anflags_behind : Option Addr} {slflags_behind : Array (Option Value)} {ocflags_behind kVflags_behind dcflags_behind pmflags_behind cdvflags_behind ctflags_behind : Value}
    {odslots_behind anslots_behind : Option Addr} {slslots_behind : Array (Option Value)} {ocslots_behind kVslots_behind dcslots_behind pmslots_behind cdvslots_behind ctslots_behind : Value}
    {odnames_behind annames_behind : Option Addr} {slnames_behind : Array (Option Value)} {ocnames_behind kVnames_behind dcnames_behind pmnames_behind cdvnames_behind ctnames_behind : Value}
    {odstate_behind anstate_behind : Option Addr} {slstate_behind : Array (Option Value)} {ocstate_behind kVstate_behind dcstate_behind pmstate_behind cdvstate_behind ctstate_behind : Value}
    {odstate_after anstate_after : Option Addr} {slstate_after : Array (Option Value)} {ocstate_after kVstate_after dcstate_after pmstate_after cdvstate_after ctstate_after : Value}
    {od_law_deck an_law_deck : Option Addr} {sl_law_deck : Array (Option Value)} {oc_law_deck kV_law_deck dc_law_deck pm_law_deck cdv_law_deck ct_law_deck : Value}
    {od_law_take an_law_take : Option Addr} {sl_law_take : Array (Option Value)} {oc_law_take kV_law_take dc_law_take pm_law_take cdv_law_take ct_law_take : Value}
    {od_law_deed an_law_deed : Option Addr} {sl_law_deed : Array (Option Value)} {oc_law_deed kV_law_deed dc_law_deed pm_law_deed cdv_law_deed ct_law_deed : Value}
    {od_law_step an_law_step : Option Addr} {sl_law_step : Array (Option Value)} {oc_law_step kV_law_step dc_law_step pm_law_step cdv_law_step ct_law_step : Value}
    {od_law_kind an_law_kind : Option Addr} {sl_law_kind : Array (Option Value)} {oc_law_kind kV_law_kind dc_law_kind pm_law_kind cdv_law_kind ct_law_kind : Value}
    {od_law_house an_law_house : Option Addr} {sl_law_house : Array (Option Value)} {oc_law_house kV_law_house dc_law_house pm_law_house cdv_law_house ct_law_house : Value}
    {od_law_next an_law_next : Option Addr} {sl_law_next : Array (Option Value)} {oc_law_next kV_law_next dc_law_next pm_law_next cdv_law_next ct_law_next : Value}
    {od_law_moved an_law_moved : Option Addr} {sl_law_moved : Array (Option Value)} {oc_law_moved kV_law_moved dc_law_moved pm_law_moved cdv_law_moved ct_law_moved : Value}
    {od_law_run an_law_run : Option Addr} {sl_law_run : Array (Option Value)} {oc_law_run kV_law_run dc_law_run pm_law_run cdv_law_run ct_law_run : Value}
    {od_law_state an_law_state : Option Addr} {sl_law_state : Array (Option Value)} {oc_law_state kV_law_state dc_law_state pm_law_state cdv_law_state ct_law_state : Value}
    {od_law_right an_law_right : Option Addr} {sl_law_right : Array (Option Value)} {oc_law_right kV_law_right dc_law_right pm_law_right cdv_law_right ct_law_right : Value}
    {odlaw anlaw : Option Addr} {sllaw : Array (Option Value)} {oclaw kVlaw dclaw pmlaw cdvlaw ctlaw : Value}
    (eis_number : PySem.W.nsIn K mainGlobals "is_number" = some (some (.ref fis_number)))
    (lis_number : K.lookup fis_number = some ⟨ocis_number, odis_number, .func (PySem.W.fnOf "is_number" "is_number" (defArgs sis_number) (defBody sis_number) (defScope sis_number) .none kVis_number dcis_number pmis_number anis_number cdvis_number ctis_number), slis_number⟩)
    (cis_number : PySem.W.codeIn K cdvis_number "is_number" = true)
    (kis_number : PySem.W.keepIn K (.ref fis_number) = true)
    (ehas_word : PySem.W.nsIn K mainGlobals "has_word" = some (some (.ref fhas_word)))
    (lhas_word : K.lookup fhas_word = some ⟨ochas_word, odhas_word, .func (PySem.W.fnOf "has_word" "has_word" (defArgs shas_word) (defBody shas_word) (defScope shas_word) .none kVhas_word dchas_word pmhas_word anhas_word cdvhas_word cthas_word), slhas_word⟩)
    (chas_word : PySem.W.codeIn K cdvhas_word "has_word" = true)
    (khas_word : PySem.W.keepIn K (.ref fhas_word) = true)
    (ehas_form : PySem.W.nsIn K mainGlobals "has_form" = some (some (.ref fhas_form)))
    (lhas_form : K.lookup fhas_form = some ⟨ochas_form, odhas_form, .func (PySem.W.fnOf "has_form" "has_form" (defArgs shas_form) (defBody shas_form) (defScope shas_form) .none kVhas_form dchas_form pmhas_form anhas_form cdvhas_form cthas_form), slhas_form⟩)
    (chas_form : PySem.W.codeIn K cdvhas_form "has_form" = true)
    (khas_form : PySem.W.keepIn K (.ref fhas_form) = true)
    (eis_deed : PySem.W.nsIn K mainGlobals "is_deed" = some (some (.ref fis_deed)))
    (lis_deed : K.lookup fis_deed = some ⟨ocis_deed, odis_deed, .func (PySem.W.fnOf "is_deed" "is_deed" (defArgs sis_deed) (defBody sis_deed) (defScope sis_deed) .none kVis_deed dcis_deed pmis_deed anis_deed cdvis_deed ctis_deed), slis_deed⟩)
    (cis_deed : PySem.W.codeIn K cdvis_deed "is_deed" = true)
    (kis_deed : PySem.W.keepIn K (.ref fis_deed) = true)
    (eis_step : PySem.W.nsIn K mainGlobals "is_step" = some (some (.ref fis_step)))
    (lis_step : K.lookup fis_step = some ⟨ocis_step, odis_step, .func (PySem.W.fnOf "is_step" "is_step" (defArgs sis_step) (defBody sis_step) (defScope sis_step) .none kVis_step dcis_step pmis_step anis_step cdvis_step ctis_step), slis_step⟩)
    (cis_step : PySem.W.codeIn K cdvis_step "is_step" = true)
    (kis_step : PySem.W.keepIn K (.ref fis_step) = true)
    (eare_marked : PySem.W.nsIn K mainGlobals "are_marked" = some (some (.ref fare_marked)))
    (lare_marked : K.lookup fare_marked = some ⟨ocare_marked, odare_marked, .func (PySem.W.fnOf "are_marked" "are_marked" (defArgs sare_marked) (defBody sare_marked) (defScope sare_marked) .none kVare_marked dcare_marked pmare_marked anare_marked cdvare_marked ctare_marked), slare_marked⟩)
    (care_marked : PySem.W.codeIn K cdvare_marked "are_marked" = true)
    (kare_marked : PySem.W.keepIn K (.ref fare_marked) = true)
    (eis_kind : PySem.W.nsIn K mainGlobals "is_kind" = some (some (.ref fis_kind)))
    (lis_kind : K.lookup fis_kind = some ⟨ocis_kind, odis_kind, .func (PySem.W.fnOf "is_kind" "is_kind" (defArgs sis_kind) (defBody sis_kind) (defScope sis_kind) .none kVis_kind dcis_kind pmis_kind anis_kind cdvis_kind ctis_kind), slis_kind⟩)
    (cis_kind : PySem.W.codeIn K cdvis_kind "is_kind" = true)
    (kis_kind : PySem.W.keepIn K (.ref fis_kind) = true)
    (eis_house : PySem.W.nsIn K mainGlobals "is_house" = some (some (.ref fis_house)))
    (lis_house : K.lookup fis_house = some ⟨ocis_house, odis_house, .func (PySem.W.fnOf "is_house" "is_house" (defArgs sis_house) (defBody sis_house) (defScope sis_house) .none kVis_house dcis_house pmis_house anis_house cdvis_house ctis_house), slis_house⟩)
    (cis_house : PySem.W.codeIn K cdvis_house "is_house" = true)
    (kis_house : PySem.W.keepIn K (.ref fis_house) = true)
    (echeck_house : PySem.W.nsIn K mainGlobals "check_house" = some (some (.ref fcheck_house)))
    (lcheck_house : K.lookup fcheck_house = some ⟨occheck_house, odcheck_house, .func (PySem.W.fnOf "check_house" "check_house" (defArgs scheck_house) (defBody scheck_house) (defScope scheck_house) .none kVcheck_house dccheck_house pmcheck_house ancheck_house cdvcheck_house ctcheck_house), slcheck_house⟩)
    (ccheck_house : PySem.W.codeIn K cdvcheck_house "check_house" = true)
    (kcheck_house : PySem.W.keepIn K (.ref fcheck_house) = true)
    (esteps_of : PySem.W.nsIn K mainGlobals "steps_of" = some (some (.ref fsteps_of)))
    (lsteps_of : K.lookup fsteps_of = some ⟨ocsteps_of, odsteps_of, .func (PySem.W.fnOf "steps_of" "steps_of" (defArgs ssteps_of) (defBody ssteps_of) (defScope ssteps_of) .none kVsteps_of dcsteps_of pmsteps_of ansteps_of cdvsteps_of ctsteps_of), slsteps_of⟩)
    (csteps_of : PySem.W.codeIn K cdvsteps_of "steps_of" = true)
    (ksteps_of : PySem.W.keepIn K (.ref fsteps_of) = true)
    (eis_begin : PySem.W.nsIn K mainGlobals "is_begin" = some (some (.ref fis_begin)))
    (lis_begin : K.lookup fis_begin = some ⟨ocis_begin, odis_begin, .func (PySem.W.fnOf "is_begin" "is_begin" (defArgs sis_begin) (defBody sis_begin) (defScope sis_begin) .none kVis_begin dcis_begin pmis_begin anis_begin cdvis_begin ctis_begin), slis_begin⟩)
    (cis_begin : PySem.W.codeIn K cdvis_begin "is_begin" = true)
    (kis_begin : PySem.W.keepIn K (.ref fis_begin) = true)
    (eis_go : PySem.W.nsIn K mainGlobals "is_go" = some (some (.ref fis_go)))
    (lis_go : K.lookup fis_go = some ⟨ocis_go, odis_go, .func (PySem.W.fnOf "is_go" "is_go" (defArgs sis_go) (defBody sis_go) (defScope sis_go) .none kVis_go dcis_go pmis_go anis_go cdvis_go ctis_go), slis_go⟩)
    (cis_go : PySem.W.codeIn K cdvis_go "is_go" = true)
    (kis_go : PySem.W.keepIn K (.ref fis_go) = true)
    (eworks_as_far : PySem.W.nsIn K mainGlobals "works_as_far" = some (some (.ref fworks_as_far)))
    (lworks_as_far : K.lookup fworks_as_far = some ⟨ocworks_as_far, odworks_as_far, .func (PySem.W.fnOf "works_as_far" "works_as_far" (defArgs sworks_as_far) (defBody sworks_as_far) (defScope sworks_as_far) .none kVworks_as_far dcworks_as_far pmworks_as_far anworks_as_far cdvworks_as_far ctworks_as_far), slworks_as_far⟩)
    (cworks_as_far : PySem.W.codeIn K cdvworks_as_far "works_as_far" = true)
    (kworks_as_far : PySem.W.keepIn K (.ref fworks_as_far) = true)
    (eworks_behind : PySem.W.nsIn K mainGlobals "works_behind" = some (some (.ref fworks_behind)))
    (lworks_behind : K.lookup fworks_behind = some ⟨ocworks_behind, odworks_behind, .func (PySem.W.fnOf "works_behind" "works_behind" (defArgs sworks_behind) (defBody sworks_behind) (defScope sworks_behind) .none kVworks_behind dcworks_behind pmworks_behind anworks_behind cdvworks_behind ctworks_behind), slworks_behind⟩)
    (cworks_behind : PySem.W.codeIn K cdvworks_behind "works_behind" = true)
    (kworks_behind : PySem.W.keepIn K (.ref fworks_behind) = true)
    (echeck_run : PySem.W.nsIn K mainGlobals "check_run" = some (some (.ref fcheck_run)))
    (lcheck_run : K.lookup fcheck_run = some ⟨occheck_run, odcheck_run, .func (PySem.W.fnOf "check_run" "check_run" (defArgs scheck_run) (defBody scheck_run) (defScope scheck_run) .none kVcheck_run dccheck_run pmcheck_run ancheck_run cdvcheck_run ctcheck_run), slcheck_run⟩)
    (ccheck_run : PySem.W.codeIn K cdvcheck_run "check_run" = true)
    (kcheck_run : PySem.W.keepIn K (.ref fcheck_run) = true)
    (edeeds_done : PySem.W.nsIn K mainGlobals "deeds_done" = some (some (.ref fdeeds_done)))
    (ldeeds_done : K.lookup fdeeds_done = some ⟨ocdeeds_done, oddeeds_done, .func (PySem.W.fnOf "deeds_done" "deeds_done" (defArgs sdeeds_done) (defBody sdeeds_done) (defScope sdeeds_done) .none kVdeeds_done dcdeeds_done pmdeeds_done andeeds_done cdvdeeds_done ctdeeds_done), sldeeds_done⟩)
    (cdeeds_done : PySem.W.codeIn K cdvdeeds_done "deeds_done" = true)
    (kdeeds_done : PySem.W.keepIn K (.ref fdeeds_done) = true)
    (ecounters_behind : PySem.W.nsIn K mainGlobals "counters_behind" = some (some (.ref fcounters_behind)))
    (lcounters_behind : K.lookup fcounters_behind = some ⟨occounters_behind, odcounters_behind, .func (PySem.W.fnOf "counters_behind" "counters_behind" (defArgs scounters_behind) (defBody scounters_behind) (defScope scounters_behind) .none kVcounters_behind dccounters_behind pmcounters_behind ancounters_behind cdvcounters_behind ctcounters_behind), slcounters_behind⟩)
    (ccounters_behind : PySem.W.codeIn K cdvcounters_behind "counters_behind" = true)
    (kcounters_behind : PySem.W.keepIn K (.ref fcounters_behind) = true)
    (eflags_behind : PySem.W.nsIn K mainGlobals "flags_behind" = some (some (.ref fflags_behind)))
    (lflags_behind : K.lookup fflags_behind = some ⟨ocflags_behind, odflags_behind, .func (PySem.W.fnOf "flags_behind" "flags_behind" (defArgs sflags_behind) (defBody sflags_behind) (defScope sflags_behind) .none kVflags_behind dcflags_behind pmflags_behind anflags_behind cdvflags_behind ctflags_behind), slflags_behind⟩)
    (cflags_behind : PySem.W.codeIn K cdvflags_behind "flags_behind" = true)
    (kflags_behind : PySem.W.keepIn K (.ref fflags_behind) = true)
    (eslots_behind : PySem.W.nsIn K mainGlobals "slots_behind" = some (some (.ref fslots_behind)))
    (lslots_behind : K.lookup fslots_behind = some ⟨ocslots_behind, odslots_behind, .func (PySem.W.fnOf "slots_behind" "slots_behind" (defArgs sslots_behind) (defBody sslots_behind) (defScope sslots_behind) .none kVslots_behind dcslots_behind pmslots_behind anslots_behind cdvslots_behind ctslots_behind), slslots_behind⟩)
    (cslots_behind : PySem.W.codeIn K cdvslots_behind "slots_behind" = true)
    (kslots_behind : PySem.W.keepIn K (.ref fslots_behind) = true)
    (enames_behind : PySem.W.nsIn K mainGlobals "names_behind" = some (some (.ref fnames_behind)))
    (lnames_behind : K.lookup fnames_behind = some ⟨ocnames_behind, odnames_behind, .func (PySem.W.fnOf "names_behind" "names_behind" (defArgs snames_behind) (defBody snames_behind) (defScope snames_behind) .none kVnames_behind dcnames_behind pmnames_behind annames_behind cdvnames_behind ctnames_behind), slnames_behind⟩)
    (cnames_behind : PySem.W.codeIn K cdvnames_behind "names_behind" = true)
    (knames_behind : PySem.W.keepIn K (.ref fnames_behind) = true)
    (estate_behind : PySem.W.nsIn K mainGlobals "state_behind" = some (some (.ref fstate_behind)))
    (lstate_behind : K.lookup fstate_behind = some ⟨ocstate_behind, odstate_behind, .func (PySem.W.fnOf "state_behind" "state_behind" (defArgs sstate_behind) (defBody sstate_behind) (defScope sstate_behind) .none kVstate_behind dcstate_behind pmstate_behind anstate_behind cdvstate_behind ctstate_behind), slstate_behind⟩)
    (cstate_behind : PySem.W.codeIn K cdvstate_behind "state_behind" = true)
    (kstate_behind : PySem.W.keepIn K (.ref fstate_behind) = true)
    (estate_after : PySem.W.nsIn K mainGlobals "state_after" = some (some (.ref fstate_after)))
    (lstate_after : K.lookup fstate_after = some ⟨ocstate_after, odstate_after, .func (PySem.W.fnOf "state_after" "state_after" (defArgs sstate_after) (defBody sstate_after) (defScope sstate_after) .none kVstate_after dcstate_after pmstate_after anstate_after cdvstate_after ctstate_after), slstate_after⟩)
    (cstate_after : PySem.W.codeIn K cdvstate_after "state_after" = true)
    (kstate_after : PySem.W.keepIn K (.ref fstate_after) = true)
    (e_law_deck : PySem.W.nsIn K mainGlobals "_law_deck" = some (some (.ref f_law_deck)))
    (l_law_deck : K.lookup f_law_deck = some ⟨oc_law_deck, od_law_deck, .func (PySem.W.fnOf "_law_deck" "_law_deck" (defArgs s_law_deck) (defBody s_law_deck) (defScope s_law_deck) .none kV_law_deck dc_law_deck pm_law_deck an_law_deck cdv_law_deck ct_law_deck), sl_law_deck⟩)
    (c_law_deck : PySem.W.codeIn K cdv_law_deck "_law_deck" = true)
    (k_law_deck : PySem.W.keepIn K (.ref f_law_deck) = true)
    (e_law_take : PySem.W.nsIn K mainGlobals "_law_take" = some (some (.ref f_law_take)))
    (l_law_take : K.lookup f_law_take = some ⟨oc_law_take, od_law_take, .func (PySem.W.fnOf "_law_take" "_law_take" (defArgs s_law_take) (defBody s_law_take) (defScope s_law_take) .none kV_law_take dc_law_take pm_law_take an_law_take cdv_law_take ct_law_take), sl_law_take⟩)
    (c_law_take : PySem.W.codeIn K cdv_law_take "_law_take" = true)
    (k_law_take : PySem.W.keepIn K (.ref f_law_take) = true)
    (e_law_deed : PySem.W.nsIn K mainGlobals "_law_deed" = some (some (.ref f_law_deed)))
    (l_law_deed : K.lookup f_law_deed = some ⟨oc_law_deed, od_law_deed, .func (PySem.W.fnOf "_law_deed" "_law_deed" (defArgs s_law_deed) (defBody s_law_deed) (defScope s_law_deed) .none kV_law_deed dc_law_deed pm_law_deed an_law_deed cdv_law_deed ct_law_deed), sl_law_deed⟩)
    (c_law_deed : PySem.W.codeIn K cdv_law_deed "_law_deed" = true)
    (k_law_deed : PySem.W.keepIn K (.ref f_law_deed) = true)
    (e_law_step : PySem.W.nsIn K mainGlobals "_law_step" = some (some (.ref f_law_step)))
    (l_law_step : K.lookup f_law_step = some ⟨oc_law_step, od_law_step, .func (PySem.W.fnOf "_law_step" "_law_step" (defArgs s_law_step) (defBody s_law_step) (defScope s_law_step) .none kV_law_step dc_law_step pm_law_step an_law_step cdv_law_step ct_law_step), sl_law_step⟩)
    (c_law_step : PySem.W.codeIn K cdv_law_step "_law_step" = true)
    (k_law_step : PySem.W.keepIn K (.ref f_law_step) = true)
    (e_law_kind : PySem.W.nsIn K mainGlobals "_law_kind" = some (some (.ref f_law_kind)))
    (l_law_kind : K.lookup f_law_kind = some ⟨oc_law_kind, od_law_kind, .func (PySem.W.fnOf "_law_kind" "_law_kind" (defArgs s_law_kind) (defBody s_law_kind) (defScope s_law_kind) .none kV_law_kind dc_law_kind pm_law_kind an_law_kind cdv_law_kind ct_law_kind), sl_law_kind⟩)
    (c_law_kind : PySem.W.codeIn K cdv_law_kind "_law_kind" = true)
    (k_law_kind : PySem.W.keepIn K (.ref f_law_kind) = true)
    (e_law_house : PySem.W.nsIn K mainGlobals "_law_house" = some (some (.ref f_law_house)))
    (l_law_house : K.lookup f_law_house = some ⟨oc_law_house, od_law_house, .func (PySem.W.fnOf "_law_house" "_law_house" (defArgs s_law_house) (defBody s_law_house) (defScope s_law_house) .none kV_law_house dc_law_house pm_law_house an_law_house cdv_law_house ct_law_house), sl_law_house⟩)
    (c_law_house : PySem.W.codeIn K cdv_law_house "_law_house" = true)
    (k_law_house : PySem.W.keepIn K (.ref f_law_house) = true)
    (e_law_next : PySem.W.nsIn K mainGlobals "_law_next" = some (some (.ref f_law_next)))
    (l_law_next : K.lookup f_law_next = some ⟨oc_law_next, od_law_next, .func (PySem.W.fnOf "_law_next" "_law_next" (defArgs s_law_next) (defBody s_law_next) (defScope s_law_next) .none kV_law_next dc_law_next pm_law_next an_law_next cdv_law_next ct_law_next), sl_law_next⟩)
    (c_law_next : PySem.W.codeIn K cdv_law_next "_law_next" = true)
    (k_law_next : PySem.W.keepIn K (.ref f_law_next) = true)
    (e_law_moved : PySem.W.nsIn K mainGlobals "_law_moved" = some (some (.ref f_law_moved)))
    (l_law_moved : K.lookup f_law_moved = some ⟨oc_law_moved, od_law_moved, .func (PySem.W.fnOf "_law_moved" "_law_moved" (defArgs s_law_moved) (defBody s_law_moved) (defScope s_law_moved) .none kV_law_moved dc_law_moved pm_law_moved an_law_moved cdv_law_moved ct_law_moved), sl_law_moved⟩)
    (c_law_moved : PySem.W.codeIn K cdv_law_moved "_law_moved" = true)
    (k_law_moved : PySem.W.keepIn K (.ref f_law_moved) = true)
    (e_law_run : PySem.W.nsIn K mainGlobals "_law_run" = some (some (.ref f_law_run)))
    (l_law_run : K.lookup f_law_run = some ⟨oc_law_run, od_law_run, .func (PySem.W.fnOf "_law_run" "_law_run" (defArgs s_law_run) (defBody s_law_run) (defScope s_law_run) .none kV_law_run dc_law_run pm_law_run an_law_run cdv_law_run ct_law_run), sl_law_run⟩)
    (c_law_run : PySem.W.codeIn K cdv_law_run "_law_run" = true)
    (k_law_run : PySem.W.keepIn K (.ref f_law_run) = true)
    (e_law_state : PySem.W.nsIn K mainGlobals "_law_state" = some (some (.ref f_law_state)))
    (l_law_state : K.lookup f_law_state = some ⟨oc_law_state, od_law_state, .func (PySem.W.fnOf "_law_state" "_law_state" (defArgs s_law_state) (defBody s_law_state) (defScope s_law_state) .none kV_law_state dc_law_state pm_law_state an_law_state cdv_law_state ct_law_state), sl_law_state⟩)
    (c_law_state : PySem.W.codeIn K cdv_law_state "_law_state" = true)
    (k_law_state : PySem.W.keepIn K (.ref f_law_state) = true)
    (e_law_right : PySem.W.nsIn K mainGlobals "_law_right" = some (some (.ref f_law_right)))
    (l_law_right : K.lookup f_law_right = some ⟨oc_law_right, od_law_right, .func (PySem.W.fnOf "_law_right" "_law_right" (defArgs s_law_right) (defBody s_law_right) (defScope s_law_right) .none kV_law_right dc_law_right pm_law_right an_law_right cdv_law_right ct_law_right), sl_law_right⟩)
    (c_law_right : PySem.W.codeIn K cdv_law_right "_law_right" = true)
    (k_law_right : PySem.W.keepIn K (.ref f_law_right) = true)
    (elaw : PySem.W.nsIn K mainGlobals "law" = some (some (.ref flaw)))
    (llaw : K.lookup flaw = some ⟨oclaw, odlaw, .func (PySem.W.fnOf "law" "law" (defArgs slaw) (defBody slaw) (defScope slaw) .none kVlaw dclaw pmlaw anlaw cdvlaw ctlaw), sllaw⟩)
    (claw : PySem.W.codeIn K cdvlaw "law" = true)
    (klaw : PySem.W.keepIn K (.ref flaw) = true)
    {tMOST_PLACES tMOST_STEPS tMOST_ADDED tMOST_KINDS : Tok}
    (eMOST_PLACES : PySem.W.nsIn K mainGlobals "MOST_PLACES" = some (some (.int 6 tMOST_PLACES)))
    (eMOST_STEPS : PySem.W.nsIn K mainGlobals "MOST_STEPS" = some (some (.int 10 tMOST_STEPS)))
    (eMOST_ADDED : PySem.W.nsIn K mainGlobals "MOST_ADDED" = some (some (.int 2 tMOST_ADDED)))
    (eMOST_KINDS : PySem.W.nsIn K mainGlobals "MOST_KINDS" = some (some (.int 3 tMOST_KINDS)))
    {dT dD : Addr} {odTh : Option Addr} {slTh : Array (Option Value)} {nTh nD : Nat} {u0 u1 u2 u3 : Tok} {esD : Array DictEntry}
    (eTh : PySem.W.nsIn K mainGlobals "MOST_THINGS" = some (some (.ref dT)))
    (lTh : K.lookup dT = some ⟨.type "tuple", odTh, .seq #[.int 2 u0, .int 4 u1, .int 3 u2, .int 2 u3] nTh, slTh⟩)
    (eDd : PySem.W.nsIn K mainGlobals "DEEDS" = some (some (.ref dD)))
    (lDd : K.lookup dD = some ⟨.type "dict", none, .dict esD nD, #[]⟩)
    (litD : PySem.W.KeysLit w.params esD.toList)
    (lowD : (dD == sysModules) = false)
    {b0 : Addr} {odb0 : Option Addr} {slb0 : Array (Option Value)} {nb0 : Nat} {ub0 vb0 : Tok}
    (db0 : PySem.W.nsIn K dD "add" = some (some (.ref b0)))
    (lb0 : K.lookup b0 = some ⟨.type "tuple", odb0, .seq #[.int 0 ub0, .int 3 vb0] nb0, slb0⟩)
    {b1 : Addr} {odb1 : Option Addr} {slb1 : Array (Option Value)} {nb1 : Nat} {ub1 vb1 : Tok}
    (db1 : PySem.W.nsIn K dD "flag" = some (some (.ref b1)))
    (lb1 : K.lookup b1 = some ⟨.type "tuple", odb1, .seq #[.int 1 ub1, .int 3 vb1] nb1, slb1⟩)
    {b2 : Addr} {odb2 : Option Addr} {slb2 : Array (Option Value)} {nb2 : Nat} {ub2 vb2 : Tok}
    (db2 : PySem.W.nsIn K dD "take" = some (some (.ref b2)))
    (lb2 : K.lookup b2 = some ⟨.type "tuple", odb2, .seq #[.int 2 ub2, .int 2 vb2] nb2, slb2⟩)
    {b3 : Addr} {odb3 : Option Addr} {slb3 : Array (Option Value)} {nb3 : Nat} {ub3 vb3 : Tok}
    (db3 : PySem.W.nsIn K dD "drop" = some (some (.ref b3)))
    (lb3 : K.lookup b3 = some ⟨.type "tuple", odb3, .seq #[.int 2 ub3, .int 2 vb3] nb3, slb3⟩)
    {b4 : Addr} {odb4 : Option Addr} {slb4 : Array (Option Value)} {nb4 : Nat} {ub4 vb4 : Tok}
    (db4 : PySem.W.nsIn K dD "enter" = some (some (.ref b4)))
    (lb4 : K.lookup b4 = some ⟨.type "tuple", odb4, .seq #[.int 3 ub4, .int 2 vb4] nb4, slb4⟩)
    {b5 : Addr} {odb5 : Option Addr} {slb5 : Array (Option Value)} {nb5 : Nat} {ub5 vb5 : Tok}
    (db5 : PySem.W.nsIn K dD "leave" = some (some (.ref b5)))
    (lb5 : K.lookup b5 = some ⟨.type "tuple", odb5, .seq #[.int 3 ub5, .int 2 vb5] nb5, slb5⟩)
    (z_int : PySem.W.nsIn K mainGlobals "int" = some none)
    (z_abs : PySem.W.nsIn K mainGlobals "abs" = some none)
    (z_len : PySem.W.nsIn K mainGlobals "len" = some none)
    (z_range : PySem.W.nsIn K mainGlobals "range" = some none)
    (z_tuple : PySem.W.nsIn K mainGlobals "tuple" = some none)
    (z_sum : PySem.W.nsIn K mainGlobals "sum" = some none)
    (z_list : PySem.W.nsIn K mainGlobals "list" = some none)
    (z_all : PySem.W.nsIn K mainGlobals "all" = some none)
    (z_isinstance : PySem.W.nsIn K mainGlobals "isinstance" = some none)
    (z_bool : PySem.W.nsIn K mainGlobals "bool" = some none)
    (z_str : PySem.W.nsIn K mainGlobals "str" = some none)
    (z_repr : PySem.W.nsIn K mainGlobals "repr" = some none)
    (z_enumerate : PySem.W.nsIn K mainGlobals "enumerate" = some none)
    : ∃ fd : FuncData, (∀ (s : Shared) (v : Value), BindsTo s fd ⟨[v], []⟩ [("script", v)]) ∧ ∀ base : Heap, K.In base → base.Ns mainGlobals mg → FnG l.prog w K mg base CX0 10 fa fd ["script"] (spLaw K) := by
  have e := hfa.symm.trans (PySem.W.mg_of X G elaw)
  cases e
  have T : TG mg := {
    n_int := PySem.W.mg_none_of X G z_int
    n_abs := PySem.W.mg_none_of X G z_abs
    n_len := PySem.W.mg_none_of X G z_len
    n_range := PySem.W.mg_none_of X G z_range
    n_tuple := PySem.W.mg_none_of X G z_tuple
    n_sum := PySem.W.mg_none_of X G z_sum
    n_list := PySem.W.mg_none_of X G z_list
    n_all := PySem.W.mg_none_of X G z_all
    n_isinstance := PySem.W.mg_none_of X G z_isinstance
    n_bool := PySem.W.mg_none_of X G z_bool
    n_str := PySem.W.mg_none_of X G z_str
    n_repr := PySem.W.mg_none_of X G z_repr
    n_enumerate := PySem.W.mg_none_of X G z_enumerate }
  have Fis_number := fun_mk (st := sis_number) lis_number cis_number kis_number
  have Bis_number := Fis_number.binds (ps := ["value", "least", "most"]) fun _ _ _ _ _ _ us hl => match us, hl with | [_, _, _], _ => rfl
  have gis_number := PySem.W.mg_of X G eis_number
  have Fhas_word := fun_mk (st := shas_word) lhas_word chas_word khas_word
  have Bhas_word := Fhas_word.binds (ps := ["value"]) fun _ _ _ _ _ _ us hl => match us, hl with | [_], _ => rfl
  have ghas_word := PySem.W.mg_of X G ehas_word
  have Fhas_form := fun_mk (st := shas_form) lhas_form chas_form khas_form
  have Bhas_form := Fhas_form.binds (ps := ["things", "value", "form"]) fun _ _ _ _ _ _ us hl => match us, hl with | [_, _, _], _ => rfl
  have ghas_form := PySem.W.mg_of X G ehas_form
  have Fis_deed := fun_mk (st := sis_deed) lis_deed cis_deed kis_deed
  have Bis_deed := Fis_deed.binds (ps := ["things", "value"]) fun _ _ _ _ _ _ us hl => match us, hl with | [_, _], _ => rfl
  have gis_deed := PySem.W.mg_of X G eis_deed
  have Fis_step := fun_mk (st := sis_step) lis_step cis_step kis_step
  have Bis_step := Fis_step.binds (ps := ["things", "places", "value"]) fun _ _ _ _ _ _ us hl => match us, hl with | [_, _, _], _ => rfl
  have gis_step := PySem.W.mg_of X G eis_step
  have Fare_marked := fun_mk (st := sare_marked) lare_marked care_marked kare_marked
  have Bare_marked := Fare_marked.binds (ps := ["places", "value"]) fun _ _ _ _ _ _ us hl => match us, hl with | [_, _], _ => rfl
  have gare_marked := PySem.W.mg_of X G eare_marked
  have Fis_kind := fun_mk (st := sis_kind) lis_kind cis_kind kis_kind
  have Bis_kind := Fis_kind.binds (ps := ["things", "value"]) fun _ _ _ _ _ _ us hl => match us, hl with | [_, _], _ => rfl
  have gis_kind := PySem.W.mg_of X G eis_kind
  have Fis_house := fun_mk (st := sis_house) lis_house cis_house kis_house
  have Bis_house := Fis_house.binds (ps := ["value"]) fun _ _ _ _ _ _ us hl => match us, hl with | [_], _ => rfl
  have gis_house := PySem.W.mg_of X G eis_house
  have Fcheck_house := fun_mk (st := scheck_house) lcheck_house ccheck_house kcheck_house
  have Bcheck_house := Fcheck_house.binds (ps := ["house"]) fun _ _ _ _ _ _ us hl => match us, hl with | [_], _ => rfl
  have gcheck_house := PySem.W.mg_of X G echeck_house
  have Fsteps_of := fun_mk (st := ssteps_of) lsteps_of csteps_of ksteps_of
  have Bsteps_of := Fsteps_of.binds (ps := ["house", "kind"]) fun _ _ _ _ _ _ us hl => match us, hl with | [_, _], _ => rfl
  have gsteps_of := PySem.W.mg_of X G esteps_of
  have Fis_begin := fun_mk (st := sis_begin) lis_begin cis_begin kis_begin
  have Bis_begin := Fis_begin.binds (ps := ["house", "value"]) fun _ _ _ _ _ _ us hl => match us, hl with | [_, _], _ => rfl
  have gis_begin := PySem.W.mg_of X G eis_begin
  have Fis_go := fun_mk (st := sis_go) lis_go cis_go kis_go
  have Bis_go := Fis_go.binds (ps := ["house", "works", "value"]) fun _ _ _ _ _ _ us hl => match us, hl with | [_, _, _], _ => rfl
  have gis_go := PySem.W.mg_of X G eis_go
  have Fworks_as_far := fun_mk (st := sworks_as_far) lworks_as_far cworks_as_far kworks_as_far
  have Bworks_as_far := Fworks_as_far.binds (ps := ["house", "values"]) fun _ _ _ _ _ _ us hl => match us, hl with | [_, _], _ => rfl
  have gworks_as_far := PySem.W.mg_of X G eworks_as_far
  have Fworks_behind := fun_mk (st := sworks_behind) lworks_behind cworks_behind kworks_behind
  have Bworks_behind := Fworks_behind.binds (ps := ["house", "value"]) fun _ _ _ _ _ _ us hl => match us, hl with | [_, _], _ => rfl
  have gworks_behind := PySem.W.mg_of X G eworks_behind
  have Fcheck_run := fun_mk (st := scheck_run) lcheck_run ccheck_run kcheck_run
  have Bcheck_run := Fcheck_run.binds (ps := ["house", "run"]) fun _ _ _ _ _ _ us hl => match us, hl with | [_, _], _ => rfl
  have gcheck_run := PySem.W.mg_of X G echeck_run
  have Fdeeds_done := fun_mk (st := sdeeds_done) ldeeds_done cdeeds_done kdeeds_done
  have Bdeeds_done := Fdeeds_done.binds (ps := ["house", "run"]) fun _ _ _ _ _ _ us hl => match us, hl with | [_, _], _ => rfl
  have gdeeds_done := PySem.W.mg_of X G edeeds_done
  have Fcounters_behind := fun_mk (st := scounters_behind) lcounters_behind ccounters_behind kcounters_behind
  have Bcounters_behind := Fcounters_behind.binds (ps := ["many", "done"]) fun _ _ _ _ _ _ us hl => match us, hl with | [_, _], _ => rfl
  have gcounters_behind := PySem.W.mg_of X G ecounters_behind
  have Fflags_behind := fun_mk (st := sflags_behind) lflags_behind cflags_behind kflags_behind
  have Bflags_behind := Fflags_behind.binds (ps := ["many", "done"]) fun _ _ _ _ _ _ us hl => match us, hl with | [_, _], _ => rfl
  have gflags_behind := PySem.W.mg_of X G eflags_behind
  have Fslots_behind := fun_mk (st := sslots_behind) lslots_behind cslots_behind kslots_behind
  have Bslots_behind := Fslots_behind.binds (ps := ["many", "done"]) fun _ _ _ _ _ _ us hl => match us, hl with | [_, _], _ => rfl
  have gslots_behind := PySem.W.mg_of X G eslots_behind
  have Fnames_behind := fun_mk (st := snames_behind) lnames_behind cnames_behind knames_behind
  have Bnames_behind := Fnames_behind.binds (ps := ["number", "many", "done"]) fun _ _ _ _ _ _ us hl => match us, hl with | [_, _, _], _ => rfl
  have gnames_behind := PySem.W.mg_of X G enames_behind
  have Fstate_behind := fun_mk (st := sstate_behind) lstate_behind cstate_behind kstate_behind
  have Bstate_behind := Fstate_behind.binds (ps := ["house", "run"]) fun _ _ _ _ _ _ us hl => match us, hl with | [_, _], _ => rfl
  have gstate_behind := PySem.W.mg_of X G estate_behind
  have Fstate_after := fun_mk (st := sstate_after) lstate_after cstate_after kstate_after
  have Bstate_after := Fstate_after.binds (ps := ["house", "run"]) fun _ _ _ _ _ _ us hl => match us, hl with | [_, _], _ => rfl
  have gstate_after := PySem.W.mg_of X G estate_after
  have F_law_deck := fun_mk (st := s_law_deck) l_law_deck c_law_deck k_law_deck
  have B_law_deck := F_law_deck.binds (ps := ["script"]) fun _ _ _ _ _ _ us hl => match us, hl with | [_], _ => rfl
  have g_law_deck := PySem.W.mg_of X G e_law_deck
  have F_law_take := fun_mk (st := s_law_take) l_law_take c_law_take k_law_take
  have B_law_take := F_law_take.binds (ps := ["deck", "wide"]) fun _ _ _ _ _ _ us hl => match us, hl with | [_, _], _ => rfl
  have g_law_take := PySem.W.mg_of X G e_law_take
  have F_law_deed := fun_mk (st := s_law_deed) l_law_deed c_law_deed k_law_deed
  have B_law_deed := F_law_deed.binds (ps := ["deck", "counts"]) fun _ _ _ _ _ _ us hl => match us, hl with | [_, _], _ => rfl
  have g_law_deed := PySem.W.mg_of X G e_law_deed
  have F_law_step := fun_mk (st := s_law_step) l_law_step c_law_step k_law_step
  have B_law_step := F_law_step.binds (ps := ["deck", "counts", "places"]) fun _ _ _ _ _ _ us hl => match us, hl with | [_, _, _], _ => rfl
  have g_law_step := PySem.W.mg_of X G e_law_step
  have F_law_kind := fun_mk (st := s_law_kind) l_law_kind c_law_kind k_law_kind
  have B_law_kind := F_law_kind.binds (ps := ["deck", "counts", "most", "long"]) fun _ _ _ _ _ _ us hl => match us, hl with | [_, _, _, _], _ => rfl
  have g_law_kind := PySem.W.mg_of X G e_law_kind
  have F_law_house := fun_mk (st := s_law_house) l_law_house c_law_house k_law_house
  have B_law_house := F_law_house.binds (ps := ["deck", "wide", "most", "long"]) fun _ _ _ _ _ _ us hl => match us, hl with | [_, _, _, _], _ => rfl
  have g_law_house := PySem.W.mg_of X G e_law_house
  have F_law_next := fun_mk (st := s_law_next) l_law_next c_law_next k_law_next
  have B_law_next := F_law_next.binds (ps := ["home", "works_here"]) fun _ _ _ _ _ _ us hl => match us, hl with | [_, _], _ => rfl
  have g_law_next := PySem.W.mg_of X G e_law_next
  have F_law_moved := fun_mk (st := s_law_moved) l_law_moved c_law_moved k_law_moved
  have B_law_moved := F_law_moved.binds (ps := ["home", "works_here", "event"]) fun _ _ _ _ _ _ us hl => match us, hl with | [_, _, _], _ => rfl
  have g_law_moved := PySem.W.mg_of X G e_law_moved
  have F_law_run := fun_mk (st := s_law_run) l_law_run c_law_run k_law_run
  have B_law_run := F_law_run.binds (ps := ["deck", "home", "long"]) fun _ _ _ _ _ _ us hl => match us, hl with | [_, _, _], _ => rfl
  have g_law_run := PySem.W.mg_of X G e_law_run
  have F_law_state := fun_mk (st := s_law_state) l_law_state c_law_state k_law_state
  have B_law_state := F_law_state.binds (ps := ["home", "events_here"]) fun _ _ _ _ _ _ us hl => match us, hl with | [_, _], _ => rfl
  have g_law_state := PySem.W.mg_of X G e_law_state
  have F_law_right := fun_mk (st := s_law_right) l_law_right c_law_right k_law_right
  have B_law_right := F_law_right.binds (ps := ["home", "events_here"]) fun _ _ _ _ _ _ us hl => match us, hl with | [_, _], _ => rfl
  have g_law_right := PySem.W.mg_of X G e_law_right
  have Flaw := fun_mk (st := slaw) llaw claw klaw
  have Blaw := Flaw.binds (ps := ["script"]) fun _ _ _ _ _ _ us hl => match us, hl with | [_], _ => rfl
  have glaw := PySem.W.mg_of X G elaw
  have g_MOST_PLACES := PySem.W.mg_of X G eMOST_PLACES
  have g_MOST_STEPS := PySem.W.mg_of X G eMOST_STEPS
  have g_MOST_ADDED := PySem.W.mg_of X G eMOST_ADDED
  have g_MOST_KINDS := PySem.W.mg_of X G eMOST_KINDS
  have g_MOST_THINGS := PySem.W.mg_of X G eTh
  have g_DEEDS := PySem.W.mg_of X G eDd
  have D_DEEDS : KDict K w dD esD nD := ⟨lDd, litD, lowD⟩
  have hT : ThingsAt K dT := fun H => .tup (xs := [.int 2, .int 4, .int 3, .int 2]) (.inr ⟨_, _, _, lTh, rfl, rfl, by show 4 ≤ sizeLine; decide, .cons ⟨_, rfl⟩ (.cons ⟨_, rfl⟩ (.cons ⟨_, rfl⟩ (.cons ⟨_, rfl⟩ .nil)))⟩) (.cons (.int _) (.cons (.int _) (.cons (.int _) (.cons (.int _) .nil))))
  have hD : DeedsAt K dD := by
    intro x hx
    simp only [deedForm, List.mem_cons, List.not_mem_nil, or_false] at hx
    rcases hx with rfl | rfl | rfl | rfl | rfl | rfl
    · exact ⟨b0, db0, fun H => .tup (xs := [.int 0, .int 3]) (.inr ⟨_, _, _, lb0, rfl, rfl, by show 2 ≤ sizeLine; decide, .cons ⟨_, rfl⟩ (.cons ⟨_, rfl⟩ .nil)⟩) (.cons (.int _) (.cons (.int _) .nil))⟩
    · exact ⟨b1, db1, fun H => .tup (xs := [.int 1, .int 3]) (.inr ⟨_, _, _, lb1, rfl, rfl, by show 2 ≤ sizeLine; decide, .cons ⟨_, rfl⟩ (.cons ⟨_, rfl⟩ .nil)⟩) (.cons (.int _) (.cons (.int _) .nil))⟩
    · exact ⟨b2, db2, fun H => .tup (xs := [.int 2, .int 2]) (.inr ⟨_, _, _, lb2, rfl, rfl, by show 2 ≤ sizeLine; decide, .cons ⟨_, rfl⟩ (.cons ⟨_, rfl⟩ .nil)⟩) (.cons (.int _) (.cons (.int _) .nil))⟩
    · exact ⟨b3, db3, fun H => .tup (xs := [.int 2, .int 2]) (.inr ⟨_, _, _, lb3, rfl, rfl, by show 2 ≤ sizeLine; decide, .cons ⟨_, rfl⟩ (.cons ⟨_, rfl⟩ .nil)⟩) (.cons (.int _) (.cons (.int _) .nil))⟩
    · exact ⟨b4, db4, fun H => .tup (xs := [.int 3, .int 2]) (.inr ⟨_, _, _, lb4, rfl, rfl, by show 2 ≤ sizeLine; decide, .cons ⟨_, rfl⟩ (.cons ⟨_, rfl⟩ .nil)⟩) (.cons (.int _) (.cons (.int _) .nil))⟩
    · exact ⟨b5, db5, fun H => .tup (xs := [.int 3, .int 2]) (.inr ⟨_, _, _, lb5, rfl, rfl, by show 2 ≤ sizeLine; decide, .cons ⟨_, rfl⟩ (.cons ⟨_, rfl⟩ .nil)⟩) (.cons (.int _) (.cons (.int _) .nil))⟩
  refine ⟨PySem.W.fnOf "law" "law" (defArgs slaw) (defBody slaw) (defScope slaw) .none kVlaw dclaw pmlaw anlaw cdvlaw ctlaw, fun s v => .of_eq rfl, fun base _ _ => ?_⟩
  have Gis_number := ok_is_number (P := l.prog) (w := w) (base := base) (k := 0) Fis_number  T  
  have Ghas_word := ok_has_word (P := l.prog) (w := w) (base := base) (k := 0) Fhas_word  T  
  have Ghas_form := ok_has_form (P := l.prog) (w := w) (base := base) (k := 1) Fhas_form Fis_number Bis_number gis_number T  Gis_number
  have Gis_deed := ok_is_deed (P := l.prog) (w := w) (base := base) (k := 2) Fis_deed Fhas_word Bhas_word ghas_word Fhas_form Bhas_form ghas_form Fis_number Bis_number gis_number T D_DEEDS hD g_DEEDS g_MOST_ADDED (Ghas_word.mono (by decide)) Ghas_form (Gis_number.mono (by decide))
  have Gis_step := ok_is_step (P := l.prog) (w := w) (base := base) (k := 3) Fis_step Fis_number Bis_number gis_number Fis_deed Bis_deed gis_deed T  (Gis_number.mono (by decide)) Gis_deed
  have Gare_marked := ok_are_marked (P := l.prog) (w := w) (base := base) (k := 1) Fare_marked Fis_number Bis_number gis_number T  Gis_number
  have Gis_kind := ok_is_kind (P := l.prog) (w := w) (base := base) (k := 4) Fis_kind Fis_number Bis_number gis_number Fare_marked Bare_marked gare_marked Fis_step Bis_step gis_step T g_MOST_PLACES g_MOST_STEPS (Gis_number.mono (by decide)) (Gare_marked.mono (by decide)) Gis_step
  have Gis_house := ok_is_house (P := l.prog) (w := w) (base := base) (k := 5) Fis_house Fis_number Bis_number gis_number Fis_kind Bis_kind gis_kind T hT g_MOST_THINGS g_MOST_KINDS (Gis_number.mono (by decide)) Gis_kind
  have Gcheck_house := ok_check_house (P := l.prog) (w := w) (base := base) (k := 6) Fcheck_house Fis_house Bis_house gis_house T  Gis_house
  have Gsteps_of := ok_steps_of (P := l.prog) (w := w) (base := base) (k := 0) Fsteps_of  T  
  have Gis_begin := ok_is_begin (P := l.prog) (w := w) (base := base) (k := 1) Fis_begin Fhas_word Bhas_word ghas_word Fis_number Bis_number gis_number T  Ghas_word Gis_number
  have Gis_go := ok_is_go (P := l.prog) (w := w) (base := base) (k := 1) Fis_go Fhas_word Bhas_word ghas_word Fis_number Bis_number gis_number Fsteps_of Bsteps_of gsteps_of T  Ghas_word Gis_number Gsteps_of
  have Gworks_as_far := ok_works_as_far (P := l.prog) (w := w) (base := base) (k := 2) Fworks_as_far Fis_begin Bis_begin gis_begin Fis_go Bis_go gis_go Fsteps_of Bsteps_of gsteps_of T  Gis_begin Gis_go (Gsteps_of.mono (by decide))
  have Gworks_behind := ok_works_behind (P := l.prog) (w := w) (base := base) (k := 3) Fworks_behind Fworks_as_far Bworks_as_far gworks_as_far T  Gworks_as_far
  have Gcheck_run := ok_check_run (P := l.prog) (w := w) (base := base) (k := 4) Fcheck_run Fworks_behind Bworks_behind gworks_behind T  Gworks_behind
  have Gdeeds_done := ok_deeds_done (P := l.prog) (w := w) (base := base) (k := 1) Fdeeds_done Fsteps_of Bsteps_of gsteps_of T  Gsteps_of
  have Gcounters_behind := ok_counters_behind (P := l.prog) (w := w) (base := base) (k := 0) Fcounters_behind  T  
  have Gflags_behind := ok_flags_behind (P := l.prog) (w := w) (base := base) (k := 0) Fflags_behind  T  
  have Gslots_behind := ok_slots_behind (P := l.prog) (w := w) (base := base) (k := 0) Fslots_behind  T  
  have Gnames_behind := ok_names_behind (P := l.prog) (w := w) (base := base) (k := 0) Fnames_behind  T  
  have Gstate_behind := ok_state_behind (P := l.prog) (w := w) (base := base) (k := 4) Fstate_behind Fworks_behind Bworks_behind gworks_behind Fdeeds_done Bdeeds_done gdeeds_done Fcounters_behind Bcounters_behind gcounters_behind Fflags_behind Bflags_behind gflags_behind Fslots_behind Bslots_behind gslots_behind Fnames_behind Bnames_behind gnames_behind T  Gworks_behind (Gdeeds_done.mono (by decide)) (Gcounters_behind.mono (by decide)) (Gflags_behind.mono (by decide)) (Gslots_behind.mono (by decide)) (Gnames_behind.mono (by decide))
  have Gstate_after := ok_state_after (P := l.prog) (w := w) (base := base) (k := 7) Fstate_after Fcheck_house Bcheck_house gcheck_house Fcheck_run Bcheck_run gcheck_run Fstate_behind Bstate_behind gstate_behind T  Gcheck_house (Gcheck_run.mono (by decide)) (Gstate_behind.mono (by decide))
  have G_law_deck := ok_deck (P := l.prog) (w := w) (base := base) (k := 0) F_law_deck T.toTB
  have G_law_take := ok_take (P := l.prog) (w := w) (base := base) (k := 0) F_law_take T.toTB
  have GK_law_take : FnOk l.prog w K mg base CX0 1 f_law_take _ ["deck", "wide"] (spK K preTake) := G_law_take.imp fun _ _ _ _ h => take_imp h
  have G_law_deed := ok__law_deed (P := l.prog) (w := w) (base := base) (k := 1) F_law_deed F_law_take B_law_take g_law_take T  GK_law_take
  have G_law_step := ok__law_step (P := l.prog) (w := w) (base := base) (k := 2) F_law_step F_law_take B_law_take g_law_take F_law_deed B_law_deed g_law_deed T  (GK_law_take.mono (by decide)) G_law_deed
  have G_law_kind := ok__law_kind (P := l.prog) (w := w) (base := base) (k := 3) F_law_kind F_law_take B_law_take g_law_take F_law_step B_law_step g_law_step T  (GK_law_take.mono (by decide)) G_law_step
  have G_law_house := ok__law_house (P := l.prog) (w := w) (base := base) (k := 4) F_law_house F_law_take B_law_take g_law_take F_law_kind B_law_kind g_law_kind T  (GK_law_take.mono (by decide)) G_law_kind
  have G_law_next := ok__law_next (P := l.prog) (w := w) (base := base) (k := 0) F_law_next  T  
  have G_law_moved := ok__law_moved (P := l.prog) (w := w) (base := base) (k := 0) F_law_moved  T  
  have G_law_run := ok__law_run (P := l.prog) (w := w) (base := base) (k := 1) F_law_run F_law_take B_law_take g_law_take F_law_next B_law_next g_law_next F_law_moved B_law_moved g_law_moved T  GK_law_take G_law_next G_law_moved
  have G_law_state := ok__law_state (P := l.prog) (w := w) (base := base) (k := 1) F_law_state F_law_moved B_law_moved g_law_moved T  G_law_moved
  have G_law_right := ok__law_right (P := l.prog) (w := w) (base := base) (k := 8) F_law_right F_law_state B_law_state g_law_state Fstate_after Bstate_after (fun s u w => .of_eq rfl) gstate_after T (G_law_state.mono (by decide)) Gstate_after
  exact ok_law (P := l.prog) (w := w) (base := base) (k := 9) Flaw F_law_deck B_law_deck g_law_deck F_law_take B_law_take g_law_take F_law_house B_law_house g_law_house F_law_run B_law_run g_law_run Fstate_after Bstate_after gstate_after T F_law_right B_law_right g_law_right G_law_right (G_law_deck.mono (by decide)) (GK_law_take.mono (by decide)) (G_law_house.mono (by decide)) (G_law_run.mono (by decide)) (Gstate_after.mono (by decide))
end Kw
open PySem PySem.W PyProof.Rows
set_option maxHeartbeats 0 in
theorem PySem.Challenge.cw_whilebusy_k04_states_of_runs_holds : PySem.Challenge.rw_whilebusy_k04_states_of_runs.Holds := by
  w_on; o_law; k_head; (case hw => w_witness2)
  k_fill
  refine Kw.walk_ofG (l := PySem.Challenge.rw_whilebusy_k04_states_of_runs) (n := 63) (k := 10) (x := "script") (CX := fun _ => L2.CX0) (sp := fun w => Kw.spLaw _) rfl (by decide) rfl ⟨rfl, by decide, by decide⟩ (fun w h Y => PySem.W.kIn_of Y) ?F (fun _ _ a ns hl _ hS => ⟨a, ns, rfl, hS, hl, fun _ => rfl⟩) (fun _ _ _ _ _ h => h)
  case F =>
    intro w mg fa h KX G hmg
    refine' Kw.all_mk KX G hmg ?eis_number ?lis_number ?cis_number ?kis_number ?ehas_word ?lhas_word ?chas_word ?khas_word ?ehas_form ?lhas_form ?chas_form ?khas_form ?eis_deed ?lis_deed ?cis_deed ?kis_deed ?eis_step ?lis_step ?cis_step ?kis_step ?eare_marked ?lare_marked ?care_marked ?kare_marked ?eis_kind ?lis_kind ?cis_kind ?kis_kind ?eis_house ?lis_house ?cis_house ?kis_house ?echeck_house ?lcheck_house ?ccheck_house ?kcheck_house ?esteps_of ?lsteps_of ?csteps_of ?ksteps_of ?eis_begin ?lis_begin ?cis_begin ?kis_begin ?eis_go ?lis_go ?cis_go ?kis_go ?eworks_as_far ?lworks_as_far ?cworks_as_far ?kworks_as_far ?eworks_behind ?lworks_behind ?cworks_behind ?kworks_behind ?echeck_run ?lcheck_run ?ccheck_run ?kcheck_run ?edeeds_done ?ldeeds_done ?cdeeds_done ?kdeeds_done ?ecounters_behind ?lcounters_behind ?ccounters_behind ?kcounters_behind ?eflags_behind ?lflags_behind ?cflags_behind ?kflags_behind ?eslots_behind ?lslots_behind ?cslots_behind ?kslots_behind ?enames_behind ?lnames_behind ?cnames_behind ?knames_behind ?estate_behind ?lstate_behind ?cstate_behind ?kstate_behind ?estate_after ?lstate_after ?cstate_after ?kstate_after ?e_law_deck ?l_law_deck ?c_law_deck ?k_law_deck ?e_law_take ?l_law_take ?c_law_take ?k_law_take ?e_law_deed ?l_law_deed ?c_law_deed ?k_law_deed ?e_law_step ?l_law_step ?c_law_step ?k_law_step ?e_law_kind ?l_law_kind ?c_law_kind ?k_law_kind ?e_law_house ?l_law_house ?c_law_house ?k_law_house ?e_law_next ?l_law_next ?c_law_next ?k_law_next ?e_law_moved ?l_law_moved ?c_law_moved ?k_law_moved ?e_law_run ?l_law_run ?c_law_run ?k_law_run ?e_law_state ?l_law_state ?c_law_state ?k_law_state ?e_law_right ?l_law_right ?c_law_right ?k_law_right ?elaw ?llaw ?claw ?klaw ?eMOST_PLACES ?eMOST_STEPS ?eMOST_ADDED ?eMOST_KINDS ?eTh ?lTh ?eDd ?lDd ?litD ?lowD ?db0 ?lb0 ?db1 ?lb1 ?db2 ?lb2 ?db3 ?lb3 ?db4 ?lb4 ?db5 ?lb5 ?z_int ?z_abs ?z_len ?z_range ?z_tuple ?z_sum ?z_list ?z_all ?z_isinstance ?z_bool ?z_str ?z_repr ?z_enumerate
    (case eis_number => k_is)
    (case lis_number => k_is)
    (case cis_number => k_is)
    (case kis_number => k_is)
    (case ehas_word => k_is)
    (case lhas_word => k_is)
    (case chas_word => k_is)
    (case khas_word => k_is)
    (case ehas_form => k_is)
    (case lhas_form => k_is)
    (case chas_form => k_is)
    (case khas_form => k_is)
    (case eis_deed => k_is)
    (case lis_deed => k_is)
    (case cis_deed => k_is)
    (case kis_deed => k_is)
    (case eis_step => k_is)
    (case lis_step => k_is)
    (case cis_step => k_is)
    (case kis_step => k_is)
    (case eare_marked => k_is)
    (case lare_marked => k_is)
    (case care_marked => k_is)
    (case kare_marked => k_is)
    (case eis_kind => k_is)
    (case lis_kind => k_is)
    (case cis_kind => k_is)
    (case kis_kind => k_is)
    (case eis_house => k_is)
    (case lis_house => k_is)
    (case cis_house => k_is)
    (case kis_house => k_is)
    (case echeck_house => k_is)
    (case lcheck_house => k_is)
    (case ccheck_house => k_is)
    (case kcheck_house => k_is)
    (case esteps_of => k_is)
    (case lsteps_of => k_is)
    (case csteps_of => k_is)
    (case ksteps_of => k_is)
    (case eis_begin => k_is)
    (case lis_begin => k_is)
    (case cis_begin => k_is)
    (case kis_begin => k_is)
    (case eis_go => k_is)
    (case lis_go => k_is)
    (case cis_go => k_is)
    (case kis_go => k_is)
    (case eworks_as_far => k_is)
    (case lworks_as_far => k_is)
    (case cworks_as_far => k_is)
    (case kworks_as_far => k_is)
    (case eworks_behind => k_is)
    (case lworks_behind => k_is)
    (case cworks_behind => k_is)
    (case kworks_behind => k_is)
    (case echeck_run => k_is)
    (case lcheck_run => k_is)
    (case ccheck_run => k_is)
    (case kcheck_run => k_is)
    (case edeeds_done => k_is)
    (case ldeeds_done => k_is)
    (case cdeeds_done => k_is)
    (case kdeeds_done => k_is)
    (case ecounters_behind => k_is)
    (case lcounters_behind => k_is)
    (case ccounters_behind => k_is)
    (case kcounters_behind => k_is)
    (case eflags_behind => k_is)
    (case lflags_behind => k_is)
    (case cflags_behind => k_is)
    (case kflags_behind => k_is)
    (case eslots_behind => k_is)
    (case lslots_behind => k_is)
    (case cslots_behind => k_is)
    (case kslots_behind => k_is)
    (case enames_behind => k_is)
    (case lnames_behind => k_is)
    (case cnames_behind => k_is)
    (case knames_behind => k_is)
    (case estate_behind => k_is)
    (case lstate_behind => k_is)
    (case cstate_behind => k_is)
    (case kstate_behind => k_is)
    (case estate_after => k_is)
    (case lstate_after => k_is)
    (case cstate_after => k_is)
    (case kstate_after => k_is)
    (case e_law_deck => k_is)
    (case l_law_deck => k_is)
    (case c_law_deck => k_is)
    (case k_law_deck => k_is)
    (case e_law_take => k_is)
    (case l_law_take => k_is)
    (case c_law_take => k_is)
    (case k_law_take => k_is)
    (case e_law_deed => k_is)
    (case l_law_deed => k_is)
    (case c_law_deed => k_is)
    (case k_law_deed => k_is)
    (case e_law_step => k_is)
    (case l_law_step => k_is)
    (case c_law_step => k_is)
    (case k_law_step => k_is)
    (case e_law_kind => k_is)
    (case l_law_kind => k_is)
    (case c_law_kind => k_is)
    (case k_law_kind => k_is)
    (case e_law_house => k_is)
    (case l_law_house => k_is)
    (case c_law_house => k_is)
    (case k_law_house => k_is)
    (case e_law_next => k_is)
    (case l_law_next => k_is)
    (case c_law_next => k_is)
    (case k_law_next => k_is)
    (case e_law_moved => k_is)
    (case l_law_moved => k_is)
    (case c_law_moved => k_is)
    (case k_law_moved => k_is)
    (case e_law_run => k_is)
    (case l_law_run => k_is)
    (case c_law_run => k_is)
    (case k_law_run => k_is)
    (case e_law_state => k_is)
    (case l_law_state => k_is)
    (case c_law_state => k_is)
    (case k_law_state => k_is)
    (case e_law_right => k_is)
    (case l_law_right => k_is)
    (case c_law_right => k_is)
    (case k_law_right => k_is)
    (case elaw => k_is)
    (case llaw => k_is)
    (case claw => k_is)
    (case klaw => k_is)
    (case eMOST_PLACES => k_is)
    (case eMOST_STEPS => k_is)
    (case eMOST_ADDED => k_is)
    (case eMOST_KINDS => k_is)
    (case eTh => k_is)
    (case lTh => k_is)
    (case eDd => k_is)
    (case lDd => k_is)
    (case litD => exact ⟨⟨_, _, rfl, rfl⟩, ⟨_, _, rfl, rfl⟩, ⟨_, _, rfl, rfl⟩, ⟨_, _, rfl, rfl⟩, ⟨_, _, rfl, rfl⟩, ⟨_, _, rfl, rfl⟩, True.intro⟩)
    (case lowD => rfl)
    (case db0 => k_is)
    (case lb0 => k_is)
    (case db1 => k_is)
    (case lb1 => k_is)
    (case db2 => k_is)
    (case lb2 => k_is)
    (case db3 => k_is)
    (case lb3 => k_is)
    (case db4 => k_is)
    (case lb4 => k_is)
    (case db5 => k_is)
    (case lb5 => k_is)
    (case z_int => k_is)
    (case z_abs => k_is)
    (case z_len => k_is)
    (case z_range => k_is)
    (case z_tuple => k_is)
    (case z_sum => k_is)
    (case z_list => k_is)
    (case z_all => k_is)
    (case z_isinstance => k_is)
    (case z_bool => k_is)
    (case z_str => k_is)
    (case z_repr => k_is)
    (case z_enumerate => k_is)
