import PyProof.Rows.All
import Wide.All
import OpenK.AllK
import Wide.FinOn
import HandS.ForMost
import HandS.ForExc
import HandS.Wide
import HandS.IsInst
import HandS.Deep
import HandS.Evl
import HandS.ExcValue
import HandS.ExcIs
import HandS.ExcInit
import HandS.ExcField
import HandS.RaiseMore
import KE.KIsAll
import PySem.Challenge.RW_whilebusy_k07_errors_made
set_option Elab.async false
set_option linter.all false
set_option maxRecDepth 100000
namespace Kw
open PySem PySem.Spec PyProof.Rows L2
/-! ### small words -/
theorem same_upd {H : Hp} {p : Addr} {o : HO} (h : H p = none) : Same H (upd H p o) := fun b x e => by
  rw [upd_ne (ne_of_none e h)]
  exact e
theorem cut_all (xs : List V) (h : xs.length ≤ 63) : cutV xs none (some 63) = xs := by
  unfold cutV
  rw [HT.sIx_none, show HT.sIx xs.length xs.length (some 63) = min 63 xs.length from HT.sIx_nat xs.length xs.length 63]
  rw [List.drop_zero, show min 63 xs.length - 0 = xs.length by omega]
  exact List.take_length
section
variable {X : Cx}
def CPowB (i j : Int) : Prop := 0 ≤ j ∧ (Builtin.Int.intBits i : Int) * j ≤ 2 ^ 27
theorem op_powW : OpR X (binaryOp .Pow) (rI CPowB fun i j => .int (i ^ j.toNat)) := opI fun _ _ _ _ _ _ _ hc q => pow_int hc.1 hc.2 q
end
/-! ### the deck of draws: the list of four at p, its cells at q -/
structure Deck (H : Hp) (p q : Addr) : Prop where
  ex : ∃ (ns : List Int) (i c : Nat) (z : Int), H p = some (.lst [.ref q, .int (i : Int), .int z, .int (c : Int)]) ∧ H q = some (.lst (ns.map V.int)) ∧ (∀ n ∈ ns, 0 ≤ n) ∧ ns.length ≤ 63 ∧ 0 ≤ z ∧ z < 2147483647
theorem deck_ne {H : Hp} {p q : Addr} {ns : List Int} {vs : List V} (h1 : H p = some (.lst (.ref q :: vs))) (h2 : H q = some (.lst (ns.map V.int))) : p ≠ q := fun e => by
  subst e
  rw [h1] at h2
  have h3 := Option.some.inj h2
  cases ns with
  | nil => cases h3
  | cons n r => cases h3
/-- what a draw leaves: all but the deck as it was -/
def But (p q : Addr) (H H' : Hp) : Prop := ∀ b, b ≠ p → b ≠ q → H' b = H b
def spTake : Sp := fun vs H Q _ => ∃ (p q : Addr) (w : Int), vs = [.ref p, .int w] ∧ Deck H p q ∧ 0 < w ∧ w < 1073741824 ∧ ∀ r H', 0 ≤ r → r < w → Deck H' p q → But p q H H' → Q (.int r) H'
def spDeck (K : PySem.W.Frag) : Sp := fun vs H Q _ => ∃ (a : Addr) (ns : List Int), vs = [.ref a] ∧ SqL K H a (ns.map V.int) ∧ ns.length ≤ 63 ∧ ∀ p q H', Same H H' → H p = none → H q = none → Deck H' p q → Q (.ref p) H'
end Kw

set_option Elab.async false
set_option linter.all false
set_option maxRecDepth 100000
namespace Kw
open PySem PySem.Spec PyProof.Rows L2
def topS (i : Nat) : Stmt := PySem.Challenge.pw_whilebusy_k07_errors_made.main.body.getD i (.Pass ⟨0, 0, 0, 0⟩)
abbrev s_law_deck : Stmt := topS 21
theorem sc_law_deck : FnScope ["script", "seed", "cell"] ["script"] (defScope s_law_deck) := ⟨rfl, rfl, rfl, by decide +kernel, rfl, by decide +kernel, by decide +kernel⟩
abbrev s_law_take : Stmt := topS 22
theorem sc_law_take : FnScope ["deck", "wide", "left", "mixed"] ["deck", "wide"] (defScope s_law_take) := ⟨rfl, rfl, rfl, by decide +kernel, rfl, by decide +kernel, by decide +kernel⟩
structure TB (mg : Str → Option Value) : Prop where
  n_int : mg "int" = none
  n_abs : mg "abs" = none
  n_len : mg "len" = none
section
variable {P : Program} {w : World} {K : PySem.W.Frag} {mg : Str → Option Value} {base : Heap}
theorem pow1 : CPowB 10 60 := ⟨by decide, by decide +kernel⟩
theorem pow2 : CPowB (10 ^ (60 : Int).toNat) 10 := ⟨by decide, by decide +kernel⟩
theorem pow3 : (0 : Int) < (10 ^ (60 : Int).toNat) ^ (10 : Int).toNat := by decide +kernel
theorem ok_deck {f : Addr} {fd : FuncData} {k : Nat} (F : Fun K "_law_deck" "_law_deck" s_law_deck f fd) (T : TB mg) : FnOk P w K mg base CX0 (k + 1) f fd ["script"] (spDeck K) := by
  refine F.ok sc_law_deck (fun vs H Q E h => ?_) (fun cdv A outer s H vs Q E hr h => ?_)
  · obtain ⟨a, ns, rfl, _⟩ := h
    rfl
  · obtain ⟨a, ns, rfl, hS, hl, hq⟩ := h
    refine ⟨_, (pss_cons (ps_set (i := 1) sc_law_deck.nd rfl (.inl rfl) pe_int)
      (pss_cons (ps_for PassesOwn.never rfl (pi_list (pe_slice sl_list (pv 0) po_none (po_some pe_int))) (pg_name (i := 2) sc_law_deck.nd rfl (.inl rfl)) (pss_one (ps_set (i := 1) sc_law_deck.nd rfl (.inl rfl) (pe_op op_mod (pe_callTy call_int1 (by rfl) T.n_int (by decide +kernel) (pa_cons (pe_op op_add (pe_op op_add (pe_op op_mul (pv 1) pe_int) (pe_op op_mod (pe_callTy call_int1 (by rfl) T.n_int (by decide +kernel) (pa_cons (pv 2) pa_nil)) pe_int)) pe_int) pa_nil)) pe_int))))
      (pss_one (ps_ret (pe_lst (pa_cons (pe_lc (own := [("cell", 2)]) (g := (gName 2)) rfl sc_law_deck.nd (pi_list (pe_slice sl_list (pv 0) po_none (po_some pe_int))) (blkOk_by (own := [("cell", 2)]) (N := ["script", "seed", "cell"]) (sc := defScope s_law_deck) (by decide +kernel)) (fun _ _ _ _ _ => (pg_name (i := 2) sc_law_deck.nd rfl (Or.inl rfl))) (fun _ _ _ _ _ => pts_nil) (fun _ _ _ _ _ => (pe_op op_mod (pe_callTy call_int1 (by rfl) T.n_int (by decide +kernel) (pa_cons (pe_callB call_abs (by rfl) T.n_abs (by decide +kernel) (pa_cons (pv 2) pa_nil)) pa_nil)) (pe_op op_powW (pe_op op_powW pe_int pe_int) pe_int)))) (pa_cons pe_int (pa_cons (pv 1) (pa_cons pe_int pa_nil))))))))), ?_⟩
    have cl : cutV (ns.map V.int) none (some 63) = ns.map V.int := cut_all _ (by rw [List.length_map]; exact hl)
    refine ⟨.ref a, rfl, 63, rfl, a, ns.map V.int, rfl, hS, fun c nc => ?_⟩
    rw [cl]
    have s1 : Same H (upd H c (.lst (ns.map V.int))) := same_upd nc
    refine ⟨c, rfl, ⟨_, SqL.of upd_same⟩, for_list (xs := ns.map V.int) (fun i σ H' => H' = upd H c (.lst (ns.map V.int)) ∧ ∃ (z : Int) (y : Option V), σ = [some (.ref a), some (.int z), y] ∧ 0 ≤ z ∧ z < 2147483647) ⟨rfl, 40009, none, rfl, by decide, by decide⟩
      (fun i σ H' _ h => by rw [h.1]; exact SqL.of upd_same) (fun i x σ H' hx h => ?_) (fun σ H' h => ?_)⟩
    · obtain ⟨rfl, z, y, rfl, z0, z1⟩ := h
      rw [List.getElem?_map] at hx
      obtain ⟨n, _, rfl⟩ := Option.map_eq_some_iff.mp hx
      refine ⟨.int z, rfl, z, 62089911, rfl, rfl, .inl ⟨by omega, by omega⟩, .int n, rfl, .inl ⟨n, rfl, n, 2147483629, rfl, rfl, by show (0 : Int) < 2147483629; decide, _, _, rfl, rfl, _, _, rfl, rfl, .inl ⟨_, rfl, _, 2147483647, rfl, rfl, by show (0 : Int) < 2147483647; decide, ?_⟩⟩⟩
      exact ⟨rfl, _, some (.int n), rfl, Int.emod_nonneg _ (by decide), Int.emod_lt_of_pos _ (by decide)⟩
    · obtain ⟨rfl, z, y, rfl, z0, z1⟩ := h
      refine ⟨.ref a, rfl, 63, rfl, a, ns.map V.int, rfl, s1.seq hS, fun c2 nc2 => ?_⟩
      rw [cl]
      refine ⟨c2, rfl, ⟨_, SqL.of upd_same⟩, fun D hD => lc_list (xs := ns.map V.int) (fun i H' => Same (upd (upd H c (.lst (ns.map V.int))) c2 (.lst (ns.map V.int))) H' ∧ ∃ ms : List Int, H' D = some (.lst (ms.map V.int)) ∧ ms.length = i ∧ ∀ m ∈ ms, 0 ≤ m)
        ⟨same_upd hD, [], upd_same, rfl, by simp⟩ (fun i H' _ h => SqL.of (h.1 _ _ upd_same)) (fun i x H' hx h => ?_) (fun H' h => ?_)⟩
      · obtain ⟨sm, ms, hms, lm, nn⟩ := h
        rw [List.getElem?_map] at hx
        obtain ⟨n, hn, rfl⟩ := Option.map_eq_some_iff.mp hx
        have hi : i < ns.length := (List.getElem?_eq_some_iff.mp hn).1
        refine ⟨rfl, ?_⟩
        refine ⟨.int n, rfl, _, rfl, .inl ⟨_, rfl, 10, 60, rfl, rfl, pow1, _, 10, rfl, rfl, pow2, _, _, rfl, rfl, pow3, _, hms, ?_, ?_⟩⟩
        · rw [List.length_map]
          exact Nat.lt_of_lt_of_le (show ms.length < 64 by omega) (by decide)
        · refine ⟨fun b x e => ?_, ms ++ [(if n < 0 then -n else n) % ((10 ^ (60 : Int).toNat) ^ (10 : Int).toNat)], ?_, ?_, ?_⟩
          · have nb : b ≠ D := ne_of_none e hD
            rw [upd_ne nb]
            exact sm _ _ e
          · rw [upd_same, List.map_append]
            rfl
          · rw [List.length_append, lm]
            rfl
          · intro m hm
            rcases List.mem_append.mp hm with hm | hm
            · exact nn m hm
            · rw [List.mem_singleton.mp hm]
              exact Int.emod_nonneg _ (Int.ne_of_gt pow3)
      · obtain ⟨sm, ms, hms, lm, nn⟩ := h
        rw [List.length_map] at lm
        have s2 : Same (upd H c (.lst (ns.map V.int))) (upd (upd H c (.lst (ns.map V.int))) c2 (.lst (ns.map V.int))) := same_upd nc2
        have sH : Same H H' := (s1.trans s2).trans sm
        refine ⟨.int z, rfl, by show 4 ≤ sizeLine; decide, fun p np => ?_⟩
        have nDp : D ≠ p := ne_of_none hms np
        refine hq p D _ (sH.trans (same_upd np)) (sH.free np) ((s1.trans s2).free hD) ⟨ms, 0, 0, z, upd_same, ?_, nn, by omega, z0, z1⟩
        rw [upd_ne nDp]
        exact hms
theorem at_list {H : Hp} {p : Addr} {xs ys : List V} {G : Hp → Prop} (e : xs = ys) (h : G (upd H p (.lst ys))) : G (upd H p (.lst xs)) := by
  rw [e]
  exact h
theorem ok_take {f : Addr} {fd : FuncData} {k : Nat} (F : Fun K "_law_take" "_law_take" s_law_take f fd) (T : TB mg) : FnOk P w K mg base CX0 (k + 1) f fd ["deck", "wide"] spTake := by
  refine F.ok sc_law_take (fun vs H Q E h => ?_) (fun cdv A outer s H vs Q E hr h => ?_)
  · obtain ⟨p, q, w, rfl, _⟩ := h
    rfl
  · obtain ⟨p, q, w, rfl, ⟨ns, i, c, z, hp, hc, hn, hl, hz0, hz1⟩, hw0, hw1, hq⟩ := h
    refine ⟨_, (pss_cons (ps_while PassesOwn.never (PW.pt (pw_and (pt_cmpR op_lt (pe_ix ix_list (pv 0) pe_int (fun _ _ => rfl)) (pe_callB call_len_seq (by rfl) T.n_len (by decide +kernel) (pa_cons (pe_ix ix_list (pv 0) pe_int (fun _ _ => rfl)) pa_nil)) (nomark _)) (pw_and1 (pt_cmpR op_eq (pe_ix ix_list (pe_ix ix_list (pv 0) pe_int (fun _ _ => rfl)) (pe_ix ix_list (pv 0) pe_int (fun _ _ => rfl)) (fun _ _ => rfl)) pe_int (nomark _))))) (pss_one (ps_asg (pe_op op_add (pe_ix ix_list (pv 0) pe_int (fun _ _ => rfl)) pe_int) (pg_sub (pv 0) pe_int set_list))))
      (pss_cons (ps_if (pt_cmpR op_lt (pe_ix ix_list (pv 0) pe_int (fun _ _ => rfl)) (pe_callB call_len_seq (by rfl) T.n_len (by decide +kernel) (pa_cons (pe_ix ix_list (pv 0) pe_int (fun _ _ => rfl)) pa_nil)) (nomark _)) (pss_cons (ps_set (i := 2) sc_law_take.nd rfl (.inl rfl) (pe_ix ix_list (pe_ix ix_list (pv 0) pe_int (fun _ _ => rfl)) (pe_ix ix_list (pv 0) pe_int (fun _ _ => rfl)) (fun _ _ => rfl)))
      (pss_cons (ps_asg (pe_op op_fdiv (pv 2) (pv 1)) (pg_sub (pe_ix ix_list (pv 0) pe_int (fun _ _ => rfl)) (pe_ix ix_list (pv 0) pe_int (fun _ _ => rfl)) set_list))
      (pss_one (ps_ret (pe_op op_mod (pe_callTy call_int1 (by rfl) T.n_int (by decide +kernel) (pa_cons (pv 2) pa_nil)) (pv 1)))))) pss_nil)
      (pss_cons (ps_asg (pe_op op_add (pe_ix ix_list (pv 0) pe_int (fun _ _ => rfl)) pe_int) (pg_sub (pv 0) pe_int set_list))
      (pss_cons (ps_set (i := 3) sc_law_take.nd rfl (.inl rfl) (pe_op op_add (pe_op op_add (pe_op op_add (pe_op op_powW (pe_ix ix_list (pv 0) pe_int (fun _ _ => rfl)) pe_int) (pe_op op_mul pe_int (pe_ix ix_list (pv 0) pe_int (fun _ _ => rfl)))) (pe_op op_mul pe_int (pe_ix ix_list (pv 0) pe_int (fun _ _ => rfl)))) pe_int))
      (pss_cons (ps_asg (pe_op op_mod (pe_callTy call_int1 (by rfl) T.n_int (by decide +kernel) (pa_cons (pv 3) pa_nil)) pe_int) (pg_sub (pv 0) pe_int set_list))
      (pss_one (ps_ret (pe_op op_mod (pe_op op_fdiv (pe_callTy call_int1 (by rfl) T.n_int (by decide +kernel) (pa_cons (pe_op op_add (pe_op op_mul (pe_ix ix_list (pv 0) pe_int (fun _ _ => rfl)) (pe_ix ix_list (pv 0) pe_int (fun _ _ => rfl))) (pe_op op_fdiv (pe_ix ix_list (pv 0) pe_int (fun _ _ => rfl)) pe_int)) pa_nil)) pe_int) (pv 1))))))))), ?_⟩
    have npq : p ≠ q := deck_ne hp hc
    refine ⟨fun m σ H' => ∃ i : Nat, m = ns.length - i ∧ σ = [some (.ref p), some (.int w), none, none] ∧ H' = upd H p (.lst [.ref q, .int (i : Int), .int z, .int (c : Int)]), ⟨_, i, rfl, rfl, ?_⟩, ?_⟩
    · funext b
      by_cases hb : b = p
      · rw [hb, upd_same, hp]
      · rw [upd_ne hb]
    rintro m σ H' ⟨i, rfl, rfl, rfl⟩
    have eqq : ∀ o : HO, (upd H p o) q = some (.lst (ns.map V.int)) := fun o => by
      rw [upd_ne npq.symm]
      exact hc
    have lm : ((ns.map V.int).length : Int) = (ns.length : Int) := by rw [List.length_map]
    -- deck[1] < len(deck[0])
    refine ⟨.ref p, rfl, p, _, 1, .int i, rfl, rfl, SqL.of upd_same, rfl, .ref p, rfl, p, _, 0, .ref q, rfl, rfl, SqL.of upd_same, rfl, q, ns.map V.int, rfl, .inl (SqL.of (eqq _)), (i : Int), _, rfl, rfl, _, rfl, ?_⟩
    rw [lm]
    by_cases hi : (i : Int) < (ns.length : Int)
    · rw [decide_eq_true hi]
      refine iteT ?_
      have hi' : i < ns.length := by omega
      have gi : (ns.map V.int)[i]? = some (.int ns[i]) := by
        rw [List.getElem?_map, List.getElem?_eq_getElem hi']
        rfl
      -- deck[0][deck[1]] == 0
      refine ⟨.ref p, rfl, p, _, 0, .ref q, rfl, rfl, SqL.of upd_same, rfl, .ref p, rfl, p, _, 1, .int i, rfl, rfl, SqL.of upd_same, rfl, q, ns.map V.int, (i : Int), .int ns[i], rfl, rfl, SqL.of (eqq _), atI_nat gi, rfl, _, rfl, ?_⟩
      by_cases h0 : ns[i] = 0
      · rw [decide_eq_true (show V.int ns[i] = V.int 0 by rw [h0])]
        refine iteT ⟨fun σ' H' => σ' = [some (.ref p), some (.int w), none, none] ∧ H' = upd H p (.lst [.ref q, .int ((i + 1 : Nat) : Int), .int z, .int (c : Int)]), ?_, ?_⟩
        · rintro σ' H' ⟨rfl, rfl⟩
          exact ⟨ns.length - (i + 1), by omega, i + 1, rfl, rfl, rfl⟩
        · refine ⟨.ref p, rfl, p, _, 1, .int i, rfl, rfl, SqL.of upd_same, rfl, (i : Int), 1, rfl, rfl, .ref p, rfl, p, _, 1, 1, rfl, rfl, upd_same, rfl, rfl, ?_⟩
          rw [upd_upd]
          rfl
      · rw [decide_eq_false (show ¬ V.int ns[i] = V.int 0 from fun e => h0 (V.int.inj e))]
        refine iteF ?_
        -- if deck[1] < len(deck[0])
        refine ⟨.ref p, rfl, p, _, 1, .int i, rfl, rfl, SqL.of upd_same, rfl, .ref p, rfl, p, _, 0, .ref q, rfl, rfl, SqL.of upd_same, rfl, q, ns.map V.int, rfl, .inl (SqL.of (eqq _)), (i : Int), _, rfl, rfl, _, rfl, ?_⟩
        rw [lm, decide_eq_true hi]
        refine iteT ?_
        refine ⟨.ref p, rfl, p, _, 0, .ref q, rfl, rfl, SqL.of upd_same, rfl, .ref p, rfl, p, _, 1, .int i, rfl, rfl, SqL.of upd_same, rfl, q, ns.map V.int, (i : Int), .int ns[i], rfl, rfl, SqL.of (eqq _), atI_nat gi, ?_⟩
        refine ⟨.int ns[i], rfl, .int w, rfl, ns[i], w, rfl, rfl, ⟨hw0, hw1⟩, .ref p, rfl, p, _, 0, .ref q, rfl, rfl, SqL.of upd_same, rfl, .ref p, rfl, p, _, 1, .int i, rfl, rfl, SqL.of upd_same, rfl, q, ns.map V.int, (i : Int), i, rfl, rfl, eqq _, Evl.ixN_nat (by rw [List.length_map]; exact hi'), ?_⟩
        refine ⟨.int ns[i], rfl, .inl ⟨ns[i], rfl, .int w, rfl, ns[i], w, rfl, rfl, hw0, ?_⟩⟩
        refine hq _ _ (Int.emod_nonneg _ (by omega)) (Int.emod_lt_of_pos _ hw0) ⟨ns.set i (ns[i] / w), i, c, z, ?_, ?_, ?_, ?_, hz0, hz1⟩ ?_
        · rw [upd_ne npq, upd_same]
        · rw [upd_same, List.map_set]
        · intro n hn'
          rcases List.mem_or_eq_of_mem_set hn' with h | h
          · exact hn n h
          · rw [h]
            exact Int.ediv_nonneg (hn _ (List.getElem_mem hi')) (by omega)
        · rw [List.length_set]
          exact hl
        · intro b b1 b2
          rw [upd_ne b2, upd_ne b1]
    · rw [decide_eq_false hi]
      refine iteF ?_
      refine ⟨.ref p, rfl, p, _, 1, .int i, rfl, rfl, SqL.of upd_same, rfl, .ref p, rfl, p, _, 0, .ref q, rfl, rfl, SqL.of upd_same, rfl, q, ns.map V.int, rfl, .inl (SqL.of (eqq _)), (i : Int), _, rfl, rfl, _, rfl, ?_⟩
      rw [lm, decide_eq_false hi]
      refine iteF ?_
      -- deck[3] = deck[3] + 1
      refine ⟨.ref p, rfl, p, _, 3, .int c, rfl, rfl, SqL.of upd_same, rfl, (c : Int), 1, rfl, rfl, .ref p, rfl, p, _, 3, 3, rfl, rfl, upd_same, rfl, ?_⟩
      rw [upd_upd]
      have bz : Builtin.Int.intBits z ≤ 64 := intBits_le_64 (by omega) (by omega)
      refine ⟨.ref p, rfl, p, _, 2, .int z, rfl, rfl, SqL.of upd_same, rfl, z, 3, rfl, rfl, ⟨by decide, by omega⟩, .ref p, rfl, p, _, 2, .int z, rfl, rfl, SqL.of upd_same, rfl, 69997, z, rfl, rfl, .inl ⟨by decide, by decide⟩, _, _, rfl, rfl,
        .ref p, rfl, p, _, 3, .int (c + 1), rfl, rfl, SqL.of upd_same, rfl, 1009, (c : Int) + 1, rfl, rfl, .inl ⟨by decide, by decide⟩, _, _, rfl, rfl, _, _, rfl, rfl, ?_⟩
      refine ⟨.int _, rfl, .inl ⟨_, rfl, _, 2147483647, rfl, rfl, by show (0 : Int) < 2147483647; decide, .ref p, rfl, p, _, 2, 2, rfl, rfl, upd_same, rfl, ?_⟩⟩
      rw [upd_upd]
      obtain ⟨z', hz'⟩ : ∃ z' : Int, z' = (z ^ (3 : Int).toNat + 69997 * z + 1009 * ((c : Int) + 1) + 5) % 2147483647 := ⟨_, rfl⟩
      have z0' : 0 ≤ z' := by rw [hz']; exact Int.emod_nonneg _ (by decide)
      have z1' : z' < 2147483647 := by rw [hz']; exact Int.emod_lt_of_pos _ (by decide)
      refine at_list (H := H) (p := p) (ys := [.ref q, .int (i : Int), .int z', .int ((c : Int) + 1)]) (by rw [hz']; rfl) ?_
      refine ⟨.ref p, rfl, p, _, 2, .int z', rfl, rfl, SqL.of upd_same, rfl, .ref p, rfl, p, _, 2, .int z', rfl, rfl, SqL.of upd_same, rfl, z', z', rfl, rfl, .inl ⟨by omega, by omega⟩, .ref p, rfl, p, _, 2, .int z', rfl, rfl, SqL.of upd_same, rfl, z', 7919, rfl, rfl, ⟨by decide, by decide⟩, _, _, rfl, rfl, .inl ⟨_, rfl, _, 31, rfl, rfl, ⟨by decide, by decide⟩, .int w, rfl, _, w, rfl, rfl, hw0, ?_⟩⟩
      refine hq _ _ (Int.emod_nonneg _ (by omega)) (Int.emod_lt_of_pos _ hw0) ⟨ns, i, c + 1, z', ?_, ?_, hn, hl, z0', z1'⟩ ?_
      · rw [upd_same]
        rfl
      · rw [upd_ne npq.symm]
        exact hc
      · intro b b1 b2
        rw [upd_ne b1]
end
end Kw

set_option Elab.async false
set_option linter.all false
set_option maxRecDepth 100000
namespace PySem.W
open PySem PySem.Spec PySem.Calls PyProof.Rows
section
variable {prog : Program} {w : World} {A : Around} {E : Value → Shared → Prop} {K : Frag} {x D : Addr} {ox : Obj} {od : Option Obj}
/-- the class of an exception object, with or without a dict of its own -/
theorem kw_class {s : Shared} {Q : Option Value → Shared → Prop} (a1 : findIn K (.ref D) "__getattribute__" = some (some (.builtin "BaseException.__getattribute__")))
    (a2 : findIn K (.ref D) "__getattr__" = some none) (a3 : subIn K (.ref D) (.type "BaseException") = some true)
    (a4 : findObj K D od "__class__" = some (.bind (.builtin "getset_descriptor.__get__") (.builtin "object.__class__"))) (a5 : mroIn K D (.type "object") = some true)
    (X : K.In s.heap) (I : InstAt s.heap x ox D od) (fin : Q (some (.ref D)) { s with toks := s.toks + 1 }) : wpAny (model prog w) A (getAttr? (.ref x) "__class__") Q E s := by
  rcases s with ⟨hp, gn, dr, tk, os⟩
  have T0 := I.type (M := model prog w)
  have T1 := looks_findIn (M := model prog w) X a1
  have T2 := looks_findIn (M := model prog w) X a2
  have T3 := looks_find (M := model prog w) X I a4
  have sb : Looks (model prog w) hp (isInstance (.ref x) (.type "BaseException")) true := T0.andThen (looks_subIn X a3)
  have z1 : (onTheHeap (Value.ref D) && Value.builtin "BaseException.__getattribute__" == Value.builtin "object.__getattribute__") = false := by
    rw [show (Value.builtin "BaseException.__getattribute__" == Value.builtin "object.__getattribute__") = false by decide +kernel]
    rfl
  unfold getAttr? getAttrBy? getAttrBy
  apply wpAny_bind
  apply wpAny_mkText
  refine wpAny_bind (wpAny_attempt (wpAny_holding (wpAny_bind (T0.at (wpAny_bind (T1.at ?_))))))
  dsimp only
  rw [z1, if_neg (by decide)]
  unfold getAttrByItsOwn hookBefore
  apply wpAny_bind
  rw [if_pos (by rfl)]
  apply T2.at
  apply wpAny_bind
  refine wpAny_attempt (wpAny_holding ?_)
  unfold callGetattribute
  rw [show (false && onTheHeap (Value.builtin "BaseException.__getattribute__")) = false from rfl, if_neg (by decide)]
  unfold boundAndCalled
  rw [PySem.F.excAttr_ValueError.ga.bind (.ref x)]
  apply wpAny_bind
  apply wpAny_pure
  show wpAny _ _ (call (.builtin "BaseException.__getattribute__") [.ref x, .str "__class__" tk]) _ _ _
  apply wpAny_call
  refine codeAny_call_builtin PySem.F.excAttr_ValueError.ga.plain PySem.F.entry_bexc_ga (@check_slot (model prog w) _ _ ⟨hp, gn, dr, tk + 1, os⟩ "BaseException.__getattribute__" "BaseException" "__getattribute__" (.ref x) [.str "__class__" tk] [] _ (by decide +kernel) (by decide +kernel) sb (PySem.F.args_bexc_ga (.ref x) (.str "__class__" tk)) ?_)
  unfold Builtin.«object.__getattribute__»
  apply wpAny_bind
  refine wpAny_of_eq (a := ((Value.ref x : Value), [Value.str "__class__" tk])) (by first | rfl | (simp only [slotArgs]; rfl)) ?_
  refine wpAny_bind (wpAny_pure (wpAny_bind (T0.at (wpAny_bind (T3.at ?_)))))
  show wpAny _ _ (holding [Value.builtin "object.__class__"] (call (.builtin "getset_descriptor.__get__") [.builtin "object.__class__", .ref x, .ref D]) >>= ret) _ _ _
  refine wpAny_bind (wpAny_holding (wpAny_call (class_get (s := ⟨hp, gn, dr, tk + 1, os⟩) (ox := ox) (od := od) X I a5 (wpAny_pure ?_))))
  show wpAny _ _ (handedOut (.ref D)) _ _ _
  rw [handedOut_of (v := .ref D) rfl]
  first
    | exact wpAny_pure (wpAny_pure fin)
    | exact wpAny_pure fin
    | exact wpAny_pure (wpAny_bind (wpAny_pure (wpAny_pure fin)))
theorem kw_kitx (a1 : findIn K (.ref D) "__getattribute__" = some (some (.builtin "BaseException.__getattribute__"))) (a2 : findIn K (.ref D) "__getattr__" = some none) (a3 : subIn K (.ref D) (.type "BaseException") = some true)
    (a6 : hasDictIn K D = true) (a4 : findObj K D od "__class__" = some (.bind (.builtin "getset_descriptor.__get__") (.builtin "object.__class__"))) (a5 : mroIn K D (.type "object") = some true) :
    KitX K (.ref x) (.ref D) (fun h => InstAt h x ox D od) := by
  have cl : ∃ c' d' cd' sl', K.lookup D = some (⟨c', d', .cls cd', sl'⟩ : Obj) := by
    obtain ⟨cd, hc, _⟩ := any_some a6
    unfold clsIn at hc
    split at hc
    · rename_i c' d' cd' sl' ho
      exact ⟨c', d', cd', sl', ho⟩
    · cases hc
  obtain ⟨c', d', cd', sl', ho⟩ := cl
  exact {
    ty := fun _ _ _ I => I.type
    it := fun M h X _ A' E' Q' s' k q => by
      unfold isType loadHead
      exact wpAny_bind (wpAny_loadPart (k _ _ (X _ _ ho)) (wpAny_pure q))
    ne := fun h tp dd its n sl X htp => by
      refine Bool.eq_false_iff.mpr fun q => ?_
      have e : D = tp := Value.ref.inj (beq_iff_eq.mp q)
      subst e
      have z := (X _ _ ho).symm.trans htp
      cases z
    ca := fun X I k => kw_class a1 a2 a3 a4 a5 X I k }
end
end PySem.W
namespace Kw
open PySem PySem.Spec PyProof.Rows L2
/-! ### isinstance of an exception object that is held as a value -/
/-- an exception object at a whose class is at D -/
def ErrAt (H : Hp) (a D : Addr) : Prop := H a = some (ExO (.ref D) a) ∨ ∃ d fs, H a = some (exo a D (some d)) ∧ H d = some (exd d fs)
def rIsX (K : PySem.W.Frag) : List V → Hp → VK → Prop := fun xs H Q => ∃ (a D : Addr) (c : V) (u : Value) (b : Bool), xs = [.ref a, c] ∧ ErrAt H a D ∧ ExcC K D ∧ ClsV c u ∧ PySem.W.kitOne K (.ref D) u = some b ∧ Q (.bl b) H
theorem ns_get {h : Heap} {d : Addr} {m : Str → Option Value} (n : h.Ns1 d m) : ∃ o, h.get? d = some o := by
  obtain ⟨o, es, ep, e, _⟩ := n
  exact ⟨o, e⟩
section
variable {X : Cx}
theorem call_isX : CallR X (.builtin "isinstance") (rIsX X.K) := by
  intro pins s σ H xs us Q I r h
  obtain ⟨a, D, c, cv, b, rfl, hE, C, hc, e, q⟩ := h
  obtain ⟨u1, u2, rfl, r1, r2⟩ := vals2 r
  cases (show u1 = Value.ref a from r1)
  have e2 := hc.eq r2
  subst e2
  have cd : (PySem.W.clsIn X.K D).isSome = true := by
    obtain ⟨cd, hc, _⟩ := PySem.W.any_some C.hd
    rw [hc] <;> rfl
  have fin : ∀ tk, EP X pins σ Q (.bool b) { s with toks := tk } := fun tk => ⟨.bl b, H, I.tok tk, rfl, q⟩
  rcases hE with h0 | ⟨d, fs, h1, h2⟩
  · have z : ObjOk X.prog X.w H s.heap a (ExO (.ref D) a) := I.hok a _ h0
    obtain ⟨⟨oe, vs, ho, hz, hd, _⟩, _⟩ := (show ObjOk X.prog X.w H s.heap a (.ext _) from z)
    have J : PySem.W.InstAt s.heap a oe D none := by
      obtain ⟨oc, odd, oda, osl⟩ := oe
      obtain ⟨z1, z2⟩ := hz
      dsimp only at z1 z2 hd
      subst z1 z2 hd
      exact ⟨ho, rfl, rfl, trivial⟩
    exact PySem.W.kia_one (PySem.W.kw_kitx C.hg C.hk C.hs C.hd (PySem.W.findObj_dataN cd C.ha C.hn C.ht) C.hm) I.kIn J e (fun z => nomatch z) fin
  · obtain ⟨t1, ho⟩ := exo_at I.hok h1
    obtain ⟨mA, hns, _⟩ := exd_at I.hok h2
    obtain ⟨od, hod⟩ := ns_get hns
    have J : PySem.W.InstAt s.heap a _ D (some od) := ⟨ho, rfl, rfl, hod⟩
    exact PySem.W.kia_one (PySem.W.kw_kitx C.hg C.hk C.hs C.hd (PySem.W.findObj_data cd C.ha C.hn C.ht) C.hm) I.kIn J e (fun z => nomatch z) fin
/-- e.n of such an object -/
def tXfV (K : PySem.W.Frag) (n : Str) (te : TE) : TE := fun σ H Q => te σ H fun x H1 => ∃ (a D d : Addr) (fs : List (Str × V)) (v : V), x = .ref a ∧ H1 a = some (exo a D (some d)) ∧ H1 d = some (exd d fs) ∧ XfC K D ∧ PySem.W.findIn K (.ref D) n = some none ∧ fs.lookup n = some v ∧ Q v H1
theorem pe_xfV {e : Expr} {te : TE} {pos : Pos} {n : Str} (he : PE X e te) (hb : attributeBase e n X.env (eval e X.env) = eval e X.env := by rfl) : PE X (.Attribute e n pos) (tXfV X.K n te) := by
  constructor
  intro pins s σ H Q I h
  refine attr_of hb (thn (he.run pins s σ H _ I h) fun u s1 hh => ?_)
  obtain ⟨x, H1, J, rx, a, D, d, fs, v, rfl, ha, hd, T, hno, hl, q⟩ := hh
  obtain rfl : u = Value.ref a := rx
  obtain ⟨t1, ho⟩ := exo_at J.hok ha
  obtain ⟨mA, hns, hr⟩ := exd_at J.hok hd
  obtain ⟨od, hod, hlk⟩ := lookIn_ns hns
  obtain ⟨u, hu, ru⟩ := RelO.some_of (v := v) (o := mA n) (by rw [← hl]; exact hr n)
  have IA : PySem.W.InstAt s1.heap a _ D (some od) := ⟨ho, rfl, rfl, hod⟩
  exact HandSPX.exc_get J.kIn IA T.ga T.gg T.exC (PySem.W.findObj_own T.hdC hno rfl (by rw [hlk, hu])) (handed_of ru) ⟨v, H1, J.tok _, ru, q⟩
/-! ### Base.__init__(self, ..), Base an own exception class without an __init__ of its own -/
theorem pe_sinit {x : Str} {C : Addr} {e : Expr} {es : List Expr} {ta : TA} {p1 p2 pos : Pos} {pl : Sem Bool} (hg : Gl X x) (hm : X.mg x = some (.ref C)) (hdb : (x == ("__debug__" : Str)) = false)
    (c1 : PySem.W.readsIn X.K C (.type "type") = true) (c2 : PySem.W.findCls X.K (.ref C) (.type "type") "__init__" = some (.val (.builtin "ValueError.__init__")))
    (c3 : PySem.W.specialIn X.K (.ref C) "__getattribute__" = some (some (.builtin "type.__getattribute__"))) (ha : PA X (e :: es) ta)
    (hc : eval (.Call (.Attribute (.Name x p1) "__init__" p2) (e :: es) [] pos) X.env = (do
      let ov ← eval (.Name x p1) X.env
      standAt p2.atName
      let (f, first) ← holding [ov] (getMethod ov "__init__" pl)
      callWith pos f first (backTo pos (starEach (e :: es) X.env)) (backToKw pos (keywordEach [] X.env))) := by rfl)
    (he : starEach (e :: es) X.env = (false, eval e X.env) :: starEach es X.env := by rfl) (hpl : (backTo pos (starEach es X.env)).any (·.1) = false := by rfl) :
    PE X (.Call (.Attribute (.Name x p1) "__init__" p2) (e :: es) [] pos) (tVeI X.K ta) := by
  constructor
  intro pins s σ H Q I h
  refine PySem.W.methodCall_KW (ld_glob I hg hm ?_ hdb) hc
  refine PySem.W.method_cls I.kIn c3 (PySem.W.cls_value I.kIn c1 c2 (by decide +kernel) ?_)
  show wpAny _ _ (callWith pos (Value.builtin "ValueError.__init__") [] (backTo pos (starEach (e :: es) X.env)) []) _ _ _
  refine callWith_method1 (thn (ha.run pos pins _ σ H _ (I.tok _) h) fun us s1 hh => ?_) he hpl
  obtain ⟨vs, H1, J, r1, a, D, ws, ev, hl, T, ea, q⟩ := hh
  subst ev
  cases r1 with
  | @cons _ u0 _ ur ra rw' =>
    obtain rfl : u0 = Value.ref a := ra
    have hlen : ur.length ≤ sizeLine := Nat.le_trans (by rw [← Paired.length rw']; exact hl) (by decide)
    exact oinit_ok T J ea hlen fun s' J' => ⟨.non, H1, J', rfl, q⟩
/-! ### C(e, ..) and C(k = e) with an own __init__, the object held as a value -/
def tMkV (C : Addr) (sp : Sp) (ta : TA) : TE := fun σ H Q => ta σ H fun vs H1 => vs.length ≤ 1000 ∧ ∀ a, H1 a = none → sp (.ref a :: vs) (upd H1 a (exo a C none)) (fun v H2 => v = .non ∧ Q (.ref a) H2) (fun _ _ _ => False)
end
end Kw

set_option Elab.async false
set_option linter.all false
set_option maxRecDepth 100000
namespace PySem
namespace KwX
open PySem.Builtin PySem.HandSPX
section
variable {M : Model} {prog : Program} {w : World} {A : Around} {E : Value → Shared → Prop} {R : Result → Shared → Prop} {h : Heap} {g : Array GenState} {d : Drawn} {t : Nat} {os : OsState}
variable {nm q kn : Str} {kv : Value} {C N : Addr} {bs bm bmB : List Value} {hdct : Bool} {sn : List Str} {sub : List Value} {ab : Bool} {col : Option Bool} {dd : Option Addr} {k0 k1 k2 k3 k5 : Option Value} {B newId initId : String}
/-- a class's call by one keyword: the look ahead of it -/
theorem kw_check_call {Q : Unit → Shared → Prop} (hC : h.get? C = some (excClassObj nm q C N bs bm hdct sn sub ab col dd k0 k1 k2 k3 k5 newId)) (fin : Q () ⟨h, g, d, t, os⟩) :
    wpAny M A (checkBuiltinCall "type.__call__" ⟨[.ref C], [(kn, kv)]⟩) Q E ⟨h, g, d, t, os⟩ := by
  have a1 := tc_sub
  have a2 : (⟨h, g, d, t, os⟩ : Shared).TypeIs (.ref C) "type" := ⟨_, hC, rfl⟩
  simp only [checkBuiltinCall, tc_kind, tc_split]
  repeat (any_goals (first | assumption | with_reducible refine wpAny_loadPart_at hC ?_ | with_reducible refine wpAny_onRaise ?_ | with_reducible refine wpAny_map ?_ | wp_step))
theorem kw_check_new (F : ExcBaseFacts B newId initId bmB) (hT : ∀ X : String, bm.contains (.type X) = bmB.contains (.type X)) {Q : Unit → Shared → Prop}
    (hC : h.get? C = some (excClassObj nm q C N bs bm hdct sn sub ab col dd k0 k1 k2 k3 k5 newId)) (fin : Q () ⟨h, g, d, t, os⟩) : wpAny M A (checkBuiltinCall newId ⟨[.ref C], [(kn, kv)]⟩) Q E ⟨h, g, d, t, os⟩ := by
  have c1 : (Value.ref C :: bm).contains (.type B) = true := by
    rw [List.contains_cons, hT, F.hasB, Bool.or_true]
  have c2 := F.noStar
  simp only [checkBuiltinCall, F.newKind, F.newSplit, F.newRow]
  repeat (first
    | refine wpAny_loadPart_at hC ?_
    | (refine wpAny_isSubtype_exc hC ?_; rw [c1])
    | refine wpAny_staticBase_exc hC ?_
    | refine wpAny_madeBy_exc hC ?_
    | simp only [bne_self_eq_false, Bool.false_eq_true, if_false]
    | wp_step)
  exact fin
theorem kw_new (F : ExcBaseFacts B newId initId bmB) (hT : ∀ X : String, bm.contains (.type X) = bmB.contains (.type X)) (hC : h.get? C = some (excClassObj nm q C N bs bm hdct sn sub ab col dd k0 k1 k2 k3 k5 newId))
    (fin : R (.ok (.ret (.ref (h.objs.size + 1)))) ⟨(h.push (W.kdv_tup [])).push (excO C h.objs.size), g, d, t, os⟩) : codeAny (model prog w) A (.builtin newId ⟨[.ref C], [(kn, kv)]⟩) R ⟨h, g, d, t, os⟩ := by
  have c0 := F.ends
  have c1 : (Value.ref C :: bm).contains (.type B) = true := by
    rw [List.contains_cons, hT, F.hasB, Bool.or_true]
  have c2 : (Value.ref C :: bm).contains (.type "AttributeError") = false := by
    rw [List.contains_cons, hT, F.noAttr]
    rfl
  have c3 : (Value.ref C :: bm).contains (.type "NameError") = false := by
    rw [List.contains_cons, hT, F.noName]
    rfl
  refine codeAny_builtinAt F.entry ?_
  unfold Builtin.«BaseException.__new__»
  apply wpAt_bind
  show wpAt _ _ _ (stack >>= _) _ _ _
  refine wpAt_bind (wpAt_stack fun p below => wpAt_of_wpAny ?_)
  wp_walk
  apply wpAt_of_wpAny
  rw [F.owner]
  repeat (first
    | with_reducible refine wpAny_madeHere_exc F.canon hC ?_
    | with_reducible refine wpAny_loadPart_at hC ?_
    | (with_reducible refine wpAny_isSubtype_exc hC ?_; first | rw [c1] | rw [c2] | rw [c3])
    | wp_step)
  show R _ _
  rw [Heap.size_push]
  exact fin
theorem kw_type_call (F : ExcBaseFacts B newId initId bmB) (hT : ∀ X : String, bm.contains (.type X) = bmB.contains (.type X)) {fI : Addr} {Q : Fin → Shared → Prop}
    (hC : h.get? C = some (excClassObj nm q C N bs bm hdct sn sub ab col dd k0 k1 k2 k3 k5 newId))
    (hi : W.Looks (model prog w) h (typeLookup (.ref C) "__init__") (some (.ref fI))) (hb : ∀ self, W.Looks (model prog w) h (bindSpecial (.ref fI) self) (.ref fI, [self]))
    (run : codeAny (model prog w) A (.call (.ref fI) ⟨[.ref (h.objs.size + 1)], [(kn, kv)]⟩)
      (fun r s' => match r with | .ok (.ret v) => v = .none ∧ Q (.done (.ret (.ref (h.objs.size + 1)))) s' | .ok _ => False | .error e => E e s') ⟨(h.push (W.kdv_tup [])).push (excO C h.objs.size), g, d, t, os⟩) :
    wpAny (model prog w) A (Builtin.«type.__call__» ⟨[.ref C], [(kn, kv)]⟩) Q E ⟨h, g, d, t, os⟩ := by
  repeat (first | with_reducible refine wpAny_loadPart_at hC ?_ | with_reducible refine wpAny_madeBy_exc hC ?_ | wp_step)
  refine codeAny_call_builtin_code (Code.quiet_builtin _ F.quiet) (kw_check_new F hT hC ?_)
  refine kw_new F hT hC ?_
  show wpAny _ _ _ _ _ _
  have st : ∀ b o, h.get? b = some o → ((h.push (W.kdv_tup [])).push (excO C h.objs.size)).get? b = some o := fun b o e => Heap.get?_push_of_some _ (Heap.get?_push_of_some _ e)
  have C1 := st _ _ hC
  have e1 : ((h.push (W.kdv_tup [])).push (excO C h.objs.size)).get? (h.objs.size + 1) = some (excO C h.objs.size) := by heap_get
  have cc : (Value.ref C :: bm).contains (.ref C) = true := by simp
  have i1 := hi.keeps st
  have b1 := (hb (.ref (h.objs.size + 1))).keeps st
  unfold isInstance
  repeat (first | with_reducible refine wpAny_loadPart_at e1 ?_ | (with_reducible refine wpAny_isSubtype_exc C1 ?_; rw [cc]) | wp_step)
  show wpAny _ _ (typeLookup (.ref C) _) _ _ _
  refine i1.at (wpAny_holding (wpAny_bind (b1.at (wpAny_bind (wpAny_call (codeAny_mono run fun r s' z => ?_))))))
  rcases r with e | (v | _ | _ | _) <;> first | exact z | exact z.elim | skip
  obtain ⟨rfl, z⟩ := z
  first
    | exact wpAny_pure (wpAny_pure z)
    | (wp_walk; exact z)
theorem kw_call (F : ExcBaseFacts B newId initId bmB) (hT : ∀ X : String, bm.contains (.type X) = bmB.contains (.type X)) {fI : Addr}
    (hC : h.get? C = some (excClassObj nm q C N bs bm hdct sn sub ab col dd k0 k1 k2 k3 k5 newId))
    (hi : W.Looks (model prog w) h (typeLookup (.ref C) "__init__") (some (.ref fI))) (hb : ∀ self, W.Looks (model prog w) h (bindSpecial (.ref fI) self) (.ref fI, [self]))
    (run : codeAny (model prog w) (A.under (.builtin "type.__call__" ⟨[.ref C], [(kn, kv)]⟩)) (.call (.ref fI) ⟨[.ref (h.objs.size + 1)], [(kn, kv)]⟩) (W.InitBack (h.objs.size + 1) R) ⟨(h.push (W.kdv_tup [])).push (excO C h.objs.size), g, d, t, os⟩) :
    codeAny (model prog w) A (.call (.ref C) ⟨[], [(kn, kv)]⟩) R ⟨h, g, d, t, os⟩ := by
  have a1 := tc_lookup
  have a2 := tc_bind (.ref C)
  have a3 : (⟨h, g, d, t, os⟩ : Shared).TypeIs (.ref C) "type" := ⟨_, hC, rfl⟩
  apply codeAny_of_tree
  show wpAny _ _ (callAny (.ref C) _) _ _ _
  repeat (any_goals (first | assumption | with_reducible refine wpAny_loadPart_at hC ?_ | wp_step))
  refine ⟨rfl, codeAny_call_builtin_at (Code.quiet_builtin _ (by decide +kernel)) entry_typeCall (kw_check_call hC (kw_type_call F hT hC hi hb ?_))⟩
  refine codeAny_mono run fun r s' z => ?_
  rcases r with e | (v | _ | _ | _) <;> exact z
end
end KwX
end PySem

set_option Elab.async false
set_option linter.all false
set_option maxRecDepth 100000
namespace Kw
open PySem PySem.Spec PyProof.Rows L2
section
variable {X : Cx} {CX : CXT} {x : Str} {C fI : Addr} {k : Nat} {fd : FuncData} {sp : Sp} {p pos : Pos}
/-- C(e), C's own __init__ keeping sp: the object stays a value -/
theorem pe_mkV {ps : List Str} {e : Expr} {es : List Expr} {ta : TA} (T : OexC X.K C) (iC : PySem.W.findIn X.K (.ref C) "__init__" = some (some (.ref fI))) (tI : PySem.W.typeIn X.K (.ref fI) = some (.type "function"))
    (F1 : FnOk X.prog X.w X.K X.mg X.base CX k fI fd ps sp) (hr : Room (k + 1) X.A) (hb : Binds X.K fd ps []) (hx : Passes CX X (fun _ _ _ => False)) (hg : Gl X x) (hm : X.mg x = some (.ref C)) (ha : PA X (e :: es) ta)
    (hdb : (x == ("__debug__" : Str)) = false := by decide) (he : starEach (e :: es) X.env = (false, eval e X.env) :: starEach es X.env := by rfl) (hpl : (backTo pos (starEach es X.env)).any (·.1) = false := by rfl) :
    PE X (.Call (.Name x p) (e :: es) [] pos) (tMkV C sp ta) := by
  constructor
  intro pins s σ H Q I h
  obtain ⟨nm, q, N, bs, bm, sn, sub, ab, col, dd, k0, k1, k2, k3, k5, hC, hbm⟩ := T.cls
  refine wpAny_Call_Name_kw (ld_glob I hg hm ?_ hdb)
  refine PySem.W.callWith_K (h₀ := X.base) I.ok.mod.kin T.kC (thn (ha.run pos pins s σ H _ I h) fun us s1 hh => ?_) he hpl
  obtain ⟨vs, H1, I1, r1, hz, q1⟩ := hh
  refine ⟨I1.kIn, ?_⟩
  show wpAny _ _ (call (.ref C) us) _ _ _
  rcases s1 with ⟨hp, gn, dr, tk, os⟩
  have sz : hp.objs.size ≤ hp.objs.size + 1 := Nat.le_succ _
  have nw : H1 (hp.objs.size + 1) = none := I1.hok.fresh sz
  have hq := q1 (hp.objs.size + 1) nw
  have gt : ((hp.push (PySem.W.kdv_tup us)).push (PySem.HandSPX.excO C hp.objs.size)).get? (hp.objs.size + 1) = some (PySem.HandSPX.excO C hp.objs.size) := by heap_get
  have I2 := I1.laid (t' := tk) (a := hp.objs.size + 1) (o := exo (hp.objs.size + 1) C none) (h' := (hp.push (PySem.W.kdv_tup us)).push (PySem.HandSPX.excO C hp.objs.size)) (fun b o e => Heap.get?_push_of_some _ (Heap.get?_push_of_some _ e)) sz (exo_ok gt)
  have r2 : Vals (V.ref (hp.objs.size + 1) :: vs) (Value.ref (hp.objs.size + 1) :: us) := .cons rfl r1
  have ln : (Value.ref (hp.objs.size + 1) :: us).length = ps.length := by rw [← r2.length]; exact F1.len _ _ _ _ hq
  have lu : us.length ≤ sizeLine := Nat.le_trans (by rw [← Paired.length r1]; exact hz) (by decide)
  have bd := hb ⟨_, gn, dr, tk, os⟩ (Value.ref (hp.objs.size + 1) :: us) I2.kIn (by rw [List.append_nil]; exact ln)
  rw [List.append_nil] at bd
  refine wpAny_call (PySem.HandSPX.call_own F.excBase_ValueError (fun Y => PySem.HandSPX.refsVE_contains Y bm hbm) (I1.kIn _ _ hC) (PySem.W.looks_findIn I1.kIn iC) (fun self => PySem.W.bind_fn I1.kIn self tI) lu
    (codeAny_mono (F1.run _ X.stack _ _ ⟨Value.ref (hp.objs.size + 1) :: us, []⟩ _ _ _ (fun _ _ _ => False) (hr.make C us []) (I2.env0.make C us []) bd r2 hq) fun r s' z => ?_))
  rcases r with er | (u | _ | _ | _)
  · exact hx pins σ _ _ er s' I2 z
  · exact False.elim z
  · exact False.elim z
  · exact False.elim z
  · obtain ⟨v, H2, J, rv, ev, q2⟩ := I2.after z
    subst ev
    exact ⟨rv, .ref (hp.objs.size + 1), H2, J, rfl, q2⟩
/-- C(k = e): how the __init__ binds its one keyword -/
def BindK (fd : FuncData) (kn : Str) (ps : List Str) : Prop := ∀ (s : Shared) (u w : Value), BindsTo s fd ⟨[u], [(kn, w)]⟩ (ps.zip [u, w])
theorem pe_mkVK {ps : List Str} {kn : Str} {kws : List Keyword} {tk : TA} (T : OexC X.K C) (iC : PySem.W.findIn X.K (.ref C) "__init__" = some (some (.ref fI))) (tI : PySem.W.typeIn X.K (.ref fI) = some (.type "function"))
    (F1 : FnOk X.prog X.w X.K X.mg X.base CX k fI fd ps sp) (hr : Room (k + 1) X.A) (hb : BindK fd kn ps) (hx : Passes CX X (fun _ _ _ => False)) (hg : Gl X x) (hm : X.mg x = some (.ref C)) (hkw : PK X kws tk)
    (hks : (backToKw pos (keywordEach kws X.env)).filterMap (·.1) = [kn] := by rfl) (hall : (backToKw pos (keywordEach kws X.env)).all (·.1.isSome) = true := by rfl) (hdb : (x == ("__debug__" : Str)) = false := by decide)
    (hpl : ((backTo pos (starEach [] X.env)).any (·.1) || (backToKw pos (keywordEach kws X.env)).any (·.1.isNone)) = false := by rfl) :
    PE X (.Call (.Name x p) [] kws pos) (fun σ H Q => tk σ H fun vs H1 => ∃ v, vs = [v] ∧ ∀ a, H1 a = none → sp [.ref a, v] (upd H1 a (exo a C none)) (fun v H2 => v = .non ∧ Q (.ref a) H2) (fun _ _ _ => False)) := by
  constructor
  intro pins s σ H Q I h
  obtain ⟨nm, q, N, bs, bm, sn, sub, ab, col, dd, k0, k1, k2, k3, k5, hC, hbm⟩ := T.cls
  refine wpAny_Call_Name_kw (ld_glob I hg hm ?_ hdb)
  refine PySem.W.callWith_KW0 (h₀ := X.base) I.ok.mod.kin T.kC hall (thn (hkw.run pos pins s σ H _ I h) fun us s1 hh => ?_) hpl
  obtain ⟨vs, H1, I1, r1, v, rfl, q1⟩ := hh
  refine ⟨I1.kIn, ?_⟩
  rw [hks]
  obtain ⟨u, rfl, rv1⟩ := vals1 r1
  show wpAny _ _ (call (.ref C) [] [(kn, u)]) _ _ _
  rcases s1 with ⟨hp, gn, dr, tk, os⟩
  have sz : hp.objs.size ≤ hp.objs.size + 1 := Nat.le_succ _
  have nw : H1 (hp.objs.size + 1) = none := I1.hok.fresh sz
  have hq := q1 (hp.objs.size + 1) nw
  have gt : ((hp.push (PySem.W.kdv_tup [])).push (PySem.HandSPX.excO C hp.objs.size)).get? (hp.objs.size + 1) = some (PySem.HandSPX.excO C hp.objs.size) := by heap_get
  have I2 := I1.laid (t' := tk) (a := hp.objs.size + 1) (o := exo (hp.objs.size + 1) C none) (h' := (hp.push (PySem.W.kdv_tup [])).push (PySem.HandSPX.excO C hp.objs.size)) (fun b o e => Heap.get?_push_of_some _ (Heap.get?_push_of_some _ e)) sz (exo_ok gt)
  have r2 : Vals [V.ref (hp.objs.size + 1), v] [Value.ref (hp.objs.size + 1), u] := .cons rfl (.cons rv1 .nil)
  refine wpAny_call (PySem.KwX.kw_call F.excBase_ValueError (fun Y => PySem.HandSPX.refsVE_contains Y bm hbm) (I1.kIn _ _ hC) (PySem.W.looks_findIn I1.kIn iC) (fun self => PySem.W.bind_fn I1.kIn self tI)
    (codeAny_mono (F1.run _ X.stack _ _ ⟨[Value.ref (hp.objs.size + 1)], [(kn, u)]⟩ _ _ _ (fun _ _ _ => False) (hr.make C [] [(kn, u)]) (I2.env0.make C [] [(kn, u)]) (hb _ _ _) r2 hq) fun r s' z => ?_))
  rcases r with er | (w | _ | _ | _)
  · exact hx pins σ _ _ er s' I2 z
  · exact False.elim z
  · exact False.elim z
  · exact False.elim z
  · obtain ⟨w, H2, J, rv, ev, q2⟩ := I2.after z
    subst ev
    exact ⟨rv, .ref (hp.objs.size + 1), H2, J, rfl, q2⟩
end
end Kw

set_option Elab.async false
set_option linter.all false
set_option maxRecDepth 100000
namespace Kw
open PySem PySem.Spec PyProof.Rows L2
/-! ### defs that run where no repr is under way -/
structure FnG (P : Program) (w : World) (K : PySem.W.Frag) (mg : Str → Option Value) (base : Heap) (CX : CXT) (k : Nat) (f : Addr) (fd : FuncData) (ps : List Str) (sp : Sp) : Prop where
  len : ∀ vs H Q E, sp vs H Q E → vs.length = ps.length
  run : ∀ (A : Around) (outer : List Env) (s : Shared) (H : Hp) (args : Args) (us : List Value) (vs : List V) (Q : VK) (E : XK), Room k A → A.guards = some [] → Env0 P w K mg base A outer s H → BindsTo s fd args (ps.zip us) → Vals vs us →
    sp vs H Q E → codeAny (model P w) A (.call (.ref f) args) (CR CX outer P w H s Q E) s
theorem FnG.of {P : Program} {w : World} {K : PySem.W.Frag} {mg : Str → Option Value} {base : Heap} {CX : CXT} {k : Nat} {f : Addr} {fd : FuncData} {ps : List Str} {sp : Sp} (F : FnOk P w K mg base CX k f fd ps sp) : FnG P w K mg base CX k f fd ps sp :=
  ⟨F.len, fun A outer s H args us vs Q E hr _ e0 hb r hs => F.run A outer s H args us vs Q E hr e0 hb r hs⟩
section
variable {P : Program} {w : World} {K : PySem.W.Frag} {mg : Str → Option Value} {base : Heap}
theorem funG {x qual : Str} {st : Stmt} {f : Addr} {fd : FuncData} {N ps : List Str} {k : Nat} {sp : Sp} (F : Fun K x qual st f fd) (S : FnScope N ps (defScope st)) (len : ∀ vs H Q E, sp vs H Q E → vs.length = ps.length)
    (body : ∀ (cdv : Value) (A : Around) (outer : List Env) (s : Shared) (H : Hp) (vs : List V) (Q : VK) (E : XK), Room k (A.deeper (envOfC qual (defScope st) s.heap.objs.size f cdv)) → A.guards = some [] → sp vs H Q E →
      ∃ t, PSs (cxOf CX0 P w K mg base N qual (defScope st) f cdv A outer s H E).nox (defBody st) t ∧ t { nx := fun _ H' => Q .non H', rt := Q } (start N vs) H) : FnG P w K mg base CX0 (k + 1) f fd ps sp := by
  obtain ⟨oc, od, kV, doc, pm, an, cdv, ct, osl, rfl, lk, hcd⟩ := F.ex
  constructor
  · exact len
  intro A outer s H args us vs Q E hr hgd e0 hb r hsp
  have ln := len _ _ _ _ hsp
  have inK : K.In s.heap := e0.mod.kin.keeps (fun b o e => (e0.bs b o e).1)
  have noL : s.heap.NoLimit := e0.mod.nolimit.keeps (fun b o e => (e0.bs b o e).1)
  have kd : ∀ y ∈ ps.zip us, (defScope st).names.lookup y.1 = some .local ∨ ((defScope st).names.lookup y.1 = some .cell ∧ ((cellsFrom (s.heap.objs.size + 1) (defScope st).names []).lookup y.1).isSome = true) := by
    rintro ⟨n, v⟩ hy
    exact (S.par n (List.of_mem_zip hy).1).imp id fun q => ⟨q, PySem.W.cellsFrom_some _ _ _ (.inl q)⟩
  refine codeAny_call_function hr.depth (inK _ _ lk) rfl S.co S.gen rfl (PySem.W.codeRec_of inK hcd) (hb _ _ _ _ (wpAny_newFunctionEnv_cells S.kind kd fun env he s1 x => ?_))
  subst he
  refine ⟨noL.keeps x.toInCall.keep, codeAny_func ?_⟩
  obtain ⟨t, ht, hq⟩ := body cdv A outer s H vs Q E (hr.deeper _) hgd hsp
  have I := inv_start (CX := CX0) (P := P) (w := w) (f := f) (qual := qual) (cd := cdv) (E := E) S hr.hd e0 ln r x
  refine wpAny_mono (ht.nox.run [] s1 (start N vs) H _ I hq) (fun fl s' z => ?_) fun e s' z => z
  have out : ∀ {σ' : L2.St} {H' : Hp} {v : V} {u : Value}, Inv (cxOf CX0 P w K mg base N qual (defScope st) f cdv A outer s H E) [] σ' H' s' → RelV v u → Q v H' → CE outer P w H s Q u s' := fun {σ' H' v u} J rv q => ⟨v, H', J.os, J.bare, J.base, J.hok, rv, q⟩
  cases fl with
  | next =>
    obtain ⟨σ', H', J, q⟩ := z
    exact out (v := V.non) (u := Value.none) J rfl q
  | ret u =>
    obtain ⟨v, σ', H', J, rv, q⟩ := z
    exact out J rv q
  | brk =>
    obtain ⟨_, _, _, q⟩ := z
    exact q.elim
  | cont =>
    obtain ⟨_, _, _, q⟩ := z
    exact q.elim
end
section
variable {X : Cx} {CX : CXT} {k : Nat} {f : Addr} {fd : FuncData} {ps : List Str} {sp : Sp} {x : Str} {p pos : Pos} {e : Expr} {es : List Expr} {t : TA} {E : XK}
theorem pe_callG (F : FnG X.prog X.w X.K X.mg X.base CX k f fd ps sp) (hr : Room k X.A) (hgd : X.A.guards = some []) (hg : Gl X x) (hm : X.mg x = some (.ref f)) (hk : PySem.W.keepIn X.K (.ref f) = true) (hb : Binds X.K fd ps []) (hx : Passes CX X E)
    (ha : PA X (e :: es) t) (hdb : (x == ("__debug__" : Str)) = false := by decide) (he : starEach (e :: es) X.env = (false, eval e X.env) :: starEach es X.env := by rfl) (hpl : (backTo pos (starEach es X.env)).any (·.1) = false := by rfl) :
    PE X (.Call (.Name x p) (e :: es) [] pos) (tCall sp [] E t) := by
  constructor
  intro pins s σ H Q I h
  refine wpAny_Call_Name_kw (ld_glob I hg hm ?_ hdb)
  refine PySem.W.callWith_K (h₀ := X.base) I.ok.mod.kin hk (thn (ha.run pos pins s σ H _ I h) fun us s1 hh => ?_) he hpl
  obtain ⟨vs, H1, I1, r, q⟩ := hh
  refine ⟨I1.kIn, ?_⟩
  rw [List.append_nil] at q
  have ln : us.length = ps.length := by rw [← r.length]; exact F.len _ _ _ _ q
  have bd := hb s1 us I1.kIn (by rw [List.append_nil]; exact ln)
  rw [List.append_nil] at bd
  refine wpAny_call (codeAny_mono (F.run X.A X.stack s1 H1 ⟨us, []⟩ us vs Q E hr hgd I1.env0 bd r q) fun r s' z => ?_)
  rcases r with er | (_ | _ | _ | u)
  · exact hx pins σ H1 s1 er s' I1 z
  · exact z.elim
  · exact z.elim
  · exact z.elim
  · exact I1.after z
/-- repr of data -/
def rRepr (K : PySem.W.Frag) : List V → Hp → VK → Prop := fun xs H Q => ∃ (a : Addr) (d : PyData), xs = [.ref a] ∧ Dp K H (.ref a) d ∧ d.showable = true ∧ d.hasDict = false ∧ d.shown.length ≤ sizeLine ∧ d.depth ≤ 60 ∧ Q (.str d.shown) H
theorem call_reprD (hu : X.A.units + 64 < cLine) (hgd : X.A.guards = some []) : CallR X (.builtin "repr") (rRepr X.K) := by
  intro pins s σ H xs us Q I r h
  obtain ⟨a, d, rfl, hD, h1, h2, h3, h4, q⟩ := h
  obtain ⟨u, rfl, r1⟩ := vals1 r
  cases (show u = Value.ref a from r1)
  obtain ⟨as, rd⟩ := Dp.reads I d (.ref a) (.ref a) hD rfl
  refine repr_of_reads' rd h1 (fun z => ?_) hgd (by omega) (fun _ _ e => e) (fun h' u tk st => ?_) h3
  · rw [h2] at z
    cases z
  · exact ⟨.str d.shown, H, I.kept (t' := tk) st, ⟨_, rfl⟩, q⟩
end
/-! ### the law's end over such a def -/
theorem law_callG {P : Program} {w : World} {K : PySem.W.Frag} {mg mb : Str → Option Value} {CX : CXT} {k : Nat} {fa a : Addr} {fd : FuncData} {x : Str} {sp : Sp} {s1 : Shared} {vs : List Value} {ns : List Int}
    (KX : K.In s1.heap) (g1 : s1.heap.Ns mainGlobals mg) (g2 : s1.heap.Ns builtinsNs mb) (g3 : ∀ x : Str, x ≠ "__name__" → mb x = bootBuiltins x) (g4 : s1.heap.NoLimit) (g5 : s1.gens = #[])
    (ha : s1.heap.get? a = some { cls := .type "list", data := .seq vs.toArray }) (hi : IntsAre vs ns) (hl : ns.length ≤ sizeLine) (hr : Room k callerA)
    (F : ∀ base : Heap, K.In base → base.Ns mainGlobals mg → FnG P w K mg base CX k fa fd [x] sp) (hbind : ∀ (s : Shared) (u : Value), BindsTo s fd ⟨[u], []⟩ [(x, u)])
    (hsp : ∀ H : Hp, Only H → SqL K H a (ns.map V.int) → sp [.ref a] H (fun v _ => v = .bl true) fun _ _ _ => False) (hCX : ∀ H e s', CX [] H s1 (fun _ _ _ => False) e s' → False) :
    codeAny (model P w) callerA (.call (.ref fa) ⟨[.ref a], []⟩) (fun r s' => r = .ok (.ret (.bool true)) ∧ OldK s1.heap s'.heap ∧ s'.os = s1.os ∧ AllBare s'.gens) s1 := by
  have rv := vals_ints hi
  have core : ∀ H : Hp, Only H → SqL K H a (ns.map V.int) → HOk P w H s1.heap → (∀ b, H b ≠ none → b = a ∧ K.lookup a = none) →
      codeAny (model P w) callerA (.call (.ref fa) ⟨[.ref a], []⟩) (fun r s' => r = .ok (.ret (.bool true)) ∧ OldK s1.heap s'.heap ∧ s'.os = s1.os ∧ AllBare s'.gens) s1 := by
    intro H hO hS hok hA
    have un : ∀ {b : Addr} {m : Str → Option Value}, s1.heap.Ns b m → (hidT s1.heap H).Ns b m := by
      rintro b m ⟨o, es, ep, e, d, r⟩
      refine ⟨o, es, ep, hidT_get e ?_, d, r⟩
      cases q : H b with
      | none => rfl
      | some u =>
        obtain ⟨rfl, _⟩ := hA b (by rw [q]; simp)
        rw [ha] at e
        cases e
        exact absurd (show Data.seq vs.toArray _ = Data.dict es ep from d) (fun z => by cases z)
    have kin : K.In (hidT s1.heap H) := by
      intro b o e
      refine hidT_get (KX b o e) ?_
      cases q : H b with
      | none => rfl
      | some u =>
        obtain ⟨rfl, z⟩ := hA b (by rw [q]; simp)
        rw [z] at e
        cases e
    have lim : (hidT s1.heap H).NoLimit := by
      obtain ⟨mc, l1, l2⟩ := g4
      exact ⟨mc, un l1, l2⟩
    have e0 : Env0 P w K mg (hidT s1.heap H) callerA [] s1 H := ⟨rfl, ⟨kin, un g1, ⟨mb, un g2, g3⟩, lim⟩, fun b o e => of_hidT e, Nat.le_of_eq (hidT_size _ _), trivial, fun b hb => absurd (show b ∈ ([] : List Addr) from hb) (by simp), hok, .of_eq g5⟩
    refine codeAny_mono ((F _ kin (un g1)).run callerA [] s1 H ⟨[.ref a], []⟩ [.ref a] [.ref a] _ _ hr rfl e0 (hbind s1 (.ref a)) (.cons rfl .nil) (hsp H hO hS)) fun r s' h => ?_
    rcases r with er | (_ | _ | _ | u)
    · exact (hCX H er s' h).elim
    · exact h.elim
    · exact h.elim
    · exact h.elim
    · obtain ⟨v, H', os, bare, un, hok', r', q⟩ := h
      have q' : v = .bl true := q
      subst q'
      obtain rfl : u = Value.bool true := r'
      refine ⟨rfl, OldK.of_keep fun b o e => ?_, os, bare⟩
      rcases hO b with z | ⟨ob, xs, z⟩
      · exact un.keep b o e z (by intro y; exact absurd (show b ∈ ([] : List Addr) from y) (by simp)) (by simp)
      · obtain ⟨y1, _⟩ := hok b _ z
        obtain ⟨y2, _⟩ := hok' b _ (un.frzs b ob _ z)
        rw [e] at y1
        cases y1
        exact y2
  have ln : vs.length = ns.length := hi.length
  cases hk : K.lookup a with
  | some o =>
    have e := KX a o hk
    rw [ha] at e
    cases e
    exact core (fun _ => none) (fun _ => .inl rfl) (.inr ⟨_, vs.toArray, _, hk, rfl, rfl, rfl, by rw [List.size_toArray, ln]; exact hl, by simpa using rv⟩) (fun b u z => absurd (show (none : Option HO) = some u from z) (by simp)) (fun b z => absurd rfl z)
  | none =>
    refine core (fun b => if b = a then some (.frz { cls := .type "list", data := .seq vs.toArray } (.lst (ns.map V.int))) else none) (fun b => ?_) (.inl (.inr ⟨{ cls := .type "list", data := .seq vs.toArray }, if_pos rfl⟩)) (fun b u z => ?_) (fun b z => ?_)
    · by_cases hb : b = a
      · exact .inr ⟨_, _, if_pos hb⟩
      · exact .inl (if_neg hb)
    · by_cases hb : b = a
      · cases (if_pos hb).symm.trans z
        subst hb
        exact ⟨ha, by rw [List.length_map]; exact hl, vs, _, rv, ha⟩
      · cases (if_neg hb).symm.trans z
    · by_cases hb : b = a
      · exact ⟨hb, hk⟩
      · exact absurd (if_neg hb) z
theorem walk_ofG {l : PySem.W.OpenLaw} {n k : Nat} {q : Program} {loose : List Str} {XP : (Str → Option Value) → Heap → Prop} {YP : World → Heap → Prop} {d : DefRec} {K : Params → PySem.W.Frag} {CX : World → CXT} {sp : World → Sp} {x : Str}
    (hn : l.most = some n) (hn2 : n ≤ sizeLine) (hdf : d.params.defaults = []) (hr : Room k callerA) (hY : ∀ (w : World) (h : Heap), YP w h → (K w.params).In h)
    (F : ∀ (w : World) (mg : Str → Option Value) (fa : Addr) (h : Heap), (K w.params).In h → h.Ns mainGlobals mg → mg d.name = some (.ref fa) →
      ∃ fd : FuncData, (∀ (s : Shared) (u : Value), BindsTo s fd ⟨[u], []⟩ [(x, u)]) ∧ ∀ base : Heap, (K w.params).In base → base.Ns mainGlobals mg → FnG l.prog w (K w.params) mg base (CX w) k fa fd [x] (sp w))
    (hsp : ∀ (w : World) (H : Hp) (a : Addr) (ns : List Int), ns.length ≤ n → Only H → SqL (K w.params) H a (ns.map V.int) → sp w [.ref a] H (fun v _ => v = .bl true) fun _ _ _ => False)
    (hCX : ∀ (w : World) (H : Hp) (s : Shared) (e : Value) (s' : Shared), CX w [] H s (fun _ _ _ => False) e s' → False) : PySem.W.WalkO q loose XP YP l.row.toRowW d [] (fun f vs => PySem.call f vs) := by
  refine Att.attach_call hn hdf fun w s₀ s₁ mg mb fa o pm cd doc a vs ns G Y ho hd hcd hmg hobj hints hlen hg => ?_
  have KX := hY w _ Y
  obtain ⟨fd, hb, hF⟩ := F w mg fa _ KX G.T.g hmg
  refine law_callG KX G.T.g G.T.b G.T.builtins G.T.nolimit hg hobj hints (Nat.le_trans hlen hn2) hr hF hb (fun H hO hS => hsp w H a ns hlen hO hS) fun H e s' => ?_
  exact hCX w H s₁ e s'
end Kw

set_option Elab.async false
set_option linter.all false
set_option maxRecDepth 100000
namespace Kw
open PySem PySem.Spec PyProof.Rows L2
section
variable {H : Hp} {p a b c e : Addr} {o o1 o2 o3 o4 o5 : HO} {G : Hp → Prop}
theorem step1 (n : H p = none) (k : ∀ H', Same H H' → H' p = some o → G H') : G (upd H p o) := k _ (same_upd n) upd_same
theorem step2 (n1 : H a = none) (n2 : (upd H a o1) b = none) (k : ∀ H', Same H H' → H' b = some o2 → G H') : G (upd (upd H a o1) b o2) := k _ ((same_upd n1).trans (same_upd n2)) upd_same
theorem step4 (n1 : H a = none) (n2 : (upd H a o1) b = none) (n3 : (upd (upd H a o1) b o2) c = none) (n4 : (upd (upd (upd H a o1) b o2) c o3) p = none)
    (k : ∀ H', Same H H' → H' a = some o1 → H' b = some o2 → H' c = some o3 → H' p = some o4 → G H') : G (upd (upd (upd (upd H a o1) b o2) c o3) p o4) := by
  have s1 := same_upd (o := o1) n1
  have s2 := same_upd (o := o2) n2
  have s3 := same_upd (o := o3) n3
  have s4 := same_upd (o := o4) n4
  exact k _ (((s1.trans s2).trans s3).trans s4) (s4 _ _ (s3 _ _ (s2 _ _ upd_same))) (s4 _ _ (s3 _ _ upd_same)) (s4 _ _ upd_same) upd_same
theorem step5 (n1 : H a = none) (n2 : (upd H a o1) b = none) (n3 : (upd (upd H a o1) b o2) c = none) (n4 : (upd (upd (upd H a o1) b o2) c o3) e = none) (n5 : (upd (upd (upd (upd H a o1) b o2) c o3) e o4) p = none)
    (k : ∀ H', Same H H' → H' a = some o1 → H' b = some o2 → H' c = some o3 → H' e = some o4 → H' p = some o5 → G H') : G (upd (upd (upd (upd (upd H a o1) b o2) c o3) e o4) p o5) := by
  have s1 := same_upd (o := o1) n1
  have s2 := same_upd (o := o2) n2
  have s3 := same_upd (o := o3) n3
  have s4 := same_upd (o := o4) n4
  have s5 := same_upd (o := o5) n5
  exact k _ ((((s1.trans s2).trans s3).trans s4).trans s5) (s5 _ _ (s4 _ _ (s3 _ _ (s2 _ _ upd_same)))) (s5 _ _ (s4 _ _ (s3 _ _ upd_same))) (s5 _ _ (s4 _ _ upd_same)) (s5 _ _ upd_same) upd_same
theorem keep4 (n1 : H a = none) (n2 : (upd H a o1) b = none) (n3 : (upd (upd H a o1) b o2) c = none) (n4 : (upd (upd (upd H a o1) b o2) c o3) p = none) : Same H (upd (upd (upd (upd H a o1) b o2) c o3) p o4) :=
  (((same_upd n1).trans (same_upd n2)).trans (same_upd n3)).trans (same_upd n4)
theorem keep5 (n1 : H a = none) (n2 : (upd H a o1) b = none) (n3 : (upd (upd H a o1) b o2) c = none) (n4 : (upd (upd (upd H a o1) b o2) c o3) e = none) (n5 : (upd (upd (upd (upd H a o1) b o2) c o3) e o4) p = none) : Same H (upd (upd (upd (upd (upd H a o1) b o2) c o3) e o4) p o5) :=
  ((((same_upd n1).trans (same_upd n2)).trans (same_upd n3)).trans (same_upd n4)).trans (same_upd n5)
theorem step6 {g : Addr} {o6 : HO} (n1 : H a = none) (n2 : (upd H a o1) b = none) (n3 : (upd (upd H a o1) b o2) c = none) (n4 : (upd (upd (upd H a o1) b o2) c o3) e = none) (n5 : (upd (upd (upd (upd H a o1) b o2) c o3) e o4) p = none)
    (n6 : (upd (upd (upd (upd (upd H a o1) b o2) c o3) e o4) p o5) g = none) (k : ∀ H', Same H H' → H' a = some o1 → H' b = some o2 → H' c = some o3 → H' e = some o4 → H' p = some o5 → H' g = some o6 → G H') :
    G (upd (upd (upd (upd (upd (upd H a o1) b o2) c o3) e o4) p o5) g o6) := by
  have s1 := same_upd (o := o1) n1
  have s2 := same_upd (o := o2) n2
  have s3 := same_upd (o := o3) n3
  have s4 := same_upd (o := o4) n4
  have s5 := same_upd (o := o5) n5
  have s6 := same_upd (o := o6) n6
  exact k _ (((((s1.trans s2).trans s3).trans s4).trans s5).trans s6) (s6 _ _ (s5 _ _ (s4 _ _ (s3 _ _ (s2 _ _ upd_same))))) (s6 _ _ (s5 _ _ (s4 _ _ (s3 _ _ upd_same)))) (s6 _ _ (s5 _ _ (s4 _ _ upd_same))) (s6 _ _ (s5 _ _ upd_same)) (s6 _ _ upd_same) upd_same
end
theorem ErrAt.mono {H H' : Hp} {a D : Addr} (h : ErrAt H a D) (s : Same H H') : ErrAt H' a D := by
  rcases h with h | ⟨d, fs, h1, h2⟩
  · exact .inl (s _ _ h)
  · exact .inr ⟨d, fs, s _ _ h1, s _ _ h2⟩
abbrev s_init : Stmt := inClass (topS 19) 0
abbrev s_kinds : Stmt := topS 23
abbrev s_law : Stmt := topS 24
theorem sc_init : FnScope ["self", "place"] ["self", "place"] (defScope s_init) := ⟨rfl, rfl, rfl, by decide +kernel, rfl, by decide +kernel, by decide +kernel⟩
theorem sc_kinds : FnScope ["e", "found"] ["e"] (defScope s_kinds) := ⟨rfl, rfl, rfl, by decide +kernel, rfl, by decide +kernel, by decide +kernel⟩
theorem sc_law : FnScope ["script", "deck", "turn", "text_here", "made", "k", "spot", "one", "two", "plain", "at"] ["script"] (defScope s_law) := ⟨rfl, rfl, rfl, by decide +kernel, rfl, by decide +kernel, by decide +kernel⟩
abbrev veB : List Value := [.type "ValueError", .type "Exception", .type "BaseException", .type "object"]
structure T7 (K : PySem.W.Frag) (mg : Str → Option Value) (c : Nat → Addr) : Prop extends TB mg where
  n_isinstance : mg "isinstance" = none
  n_range : mg "range" = none
  n_ValueError : mg "ValueError" = none
  n_repr : mg "repr" = none
  n_str : mg "str" = none
  g0 : mg "InvalidHouse" = some (.ref (c 0))
  g1 : mg "InvalidCondition" = some (.ref (c 1))
  g2 : mg "InvalidConditions" = some (.ref (c 2))
  g3 : mg "InvalidRun" = some (.ref (c 3))
  g4 : mg "InvalidKind" = some (.ref (c 4))
  g5 : mg "InvalidPlace" = some (.ref (c 5))
  g6 : mg "InvalidCounter" = some (.ref (c 6))
  g7 : mg "InvalidMends" = some (.ref (c 7))
  g8 : mg "InvalidWork" = some (.ref (c 8))
  g9 : mg "InvalidStep" = some (.ref (c 9))
  g10 : mg "InvalidEvents" = some (.ref (c 10))
  g11 : mg "InvalidNumber" = some (.ref (c 11))
  g12 : mg "Crowded" = some (.ref (c 12))
  g13 : mg "OtherHouse" = some (.ref (c 13))
  g14 : mg "Full" = some (.ref (c 14))
  g15 : mg "NothingToUndo" = some (.ref (c 15))
  g16 : mg "InvalidCommand" = some (.ref (c 16))
  g17 : mg "InvalidText" = some (.ref (c 17))
  g18 : mg "SignError" = some (.ref (c 18))
  x0 : PySem.W.excIn K (c 0) veB "ValueError.__new__" = true
  k0 : PySem.W.keepIn K (.ref (c 0)) = true
  x1 : PySem.W.excIn K (c 1) veB "ValueError.__new__" = true
  k1 : PySem.W.keepIn K (.ref (c 1)) = true
  x2 : PySem.W.excIn K (c 2) veB "ValueError.__new__" = true
  k2 : PySem.W.keepIn K (.ref (c 2)) = true
  x3 : PySem.W.excIn K (c 3) veB "ValueError.__new__" = true
  k3 : PySem.W.keepIn K (.ref (c 3)) = true
  x4 : PySem.W.excIn K (c 4) veB "ValueError.__new__" = true
  k4 : PySem.W.keepIn K (.ref (c 4)) = true
  x5 : PySem.W.excIn K (c 5) veB "ValueError.__new__" = true
  k5 : PySem.W.keepIn K (.ref (c 5)) = true
  x6 : PySem.W.excIn K (c 6) veB "ValueError.__new__" = true
  k6 : PySem.W.keepIn K (.ref (c 6)) = true
  x7 : PySem.W.excIn K (c 7) veB "ValueError.__new__" = true
  k7 : PySem.W.keepIn K (.ref (c 7)) = true
  x8 : PySem.W.excIn K (c 8) veB "ValueError.__new__" = true
  k8 : PySem.W.keepIn K (.ref (c 8)) = true
  x9 : PySem.W.excIn K (c 9) veB "ValueError.__new__" = true
  k9 : PySem.W.keepIn K (.ref (c 9)) = true
  x10 : PySem.W.excIn K (c 10) veB "ValueError.__new__" = true
  k10 : PySem.W.keepIn K (.ref (c 10)) = true
  x11 : PySem.W.excIn K (c 11) veB "ValueError.__new__" = true
  k11 : PySem.W.keepIn K (.ref (c 11)) = true
  x12 : PySem.W.excIn K (c 12) veB "ValueError.__new__" = true
  k12 : PySem.W.keepIn K (.ref (c 12)) = true
  x13 : PySem.W.excIn K (c 13) veB "ValueError.__new__" = true
  k13 : PySem.W.keepIn K (.ref (c 13)) = true
  x14 : PySem.W.excIn K (c 14) veB "ValueError.__new__" = true
  k14 : PySem.W.keepIn K (.ref (c 14)) = true
  x15 : PySem.W.excIn K (c 15) veB "ValueError.__new__" = true
  k15 : PySem.W.keepIn K (.ref (c 15)) = true
  x16 : PySem.W.excIn K (c 16) veB "ValueError.__new__" = true
  k16 : PySem.W.keepIn K (.ref (c 16)) = true
  x18 : PySem.W.excIn K (c 18) veB "ValueError.__new__" = true
  k18 : PySem.W.keepIn K (.ref (c 18)) = true
  exc : ∀ j, j < 19 → ExcC K (c j)
  kit : ∀ j i, j < 19 → i < 18 → PySem.W.kitOne K (.ref (c j)) (.ref (c i)) = some (decide (j = i))
  kitS : ∀ j, j < 19 → PySem.W.kitOne K (.ref (c j)) (.ref (c 18)) = some true
  kitV : ∀ j, j < 19 → PySem.W.kitOne K (.ref (c j)) (.type "ValueError") = some true
  oex : OexC K (c 17)
  xf : XfC K (c 17)
  noP : PySem.W.findIn K (.ref (c 17)) "place" = some none
  rS : PySem.W.readsIn K (c 18) (.type "type") = true
  fS : PySem.W.findCls K (.ref (c 18)) (.type "type") "__init__" = some (.val (.builtin "ValueError.__init__"))
  gS : PySem.W.specialIn K (.ref (c 18)) "__getattribute__" = some (some (.builtin "type.__getattribute__"))
section
variable {P : Program} {w : World} {K : PySem.W.Frag} {mg : Str → Option Value} {base : Heap} {c : Nat → Addr}
/-! ### InvalidText.__init__ -/
def spInit (K : PySem.W.Frag) : Sp := fun vs H Q _ => ∃ (a C : Addr) (i : Int), vs = [.ref a, .int i] ∧ OexC K C ∧ PySem.W.findIn K (.ref C) "place" = some none ∧ H a = some (exo a C none) ∧ i.natAbs.log2 < 1920 ∧
  ∀ d, H d = none → d ≠ a → Q .non (upd (upd H d (exd d [("place", .int i)])) a (exo a C (some d)))
theorem ok_init {f : Addr} {fd : FuncData} {k : Nat} (F : Fun K "__init__" "InvalidText.__init__" s_init f fd) (T : T7 K mg c) : FnOk P w K mg base CX0 (k + 1) f fd ["self", "place"] (spInit K) := by
  refine F.ok sc_init (fun vs H Q E h => ?_) (fun cdv A outer s H vs Q E hr h => ?_)
  · obtain ⟨a, C, i, rfl, _⟩ := h
    rfl
  · obtain ⟨a, C, i, rfl, hO, hp, ha, hi, hq⟩ := h
    refine ⟨_, pss_cons (ps_expr (pe_sinit (by rfl) T.g18 (by decide) T.rS T.fS T.gS (pa_cons (pv 0) (pa_cons (pe_callTy call_str_int (by rfl) T.n_str (by decide +kernel) (pa_cons (pv 1) pa_nil)) pa_nil)))) (pss_one (ps_ost (pv 0) (pv 1))), ?_⟩
    refine ⟨.ref a, rfl, .int i, rfl, i, rfl, hi, a, C, _, rfl, by show 1 ≤ 1000; decide, hO, ha, ?_⟩
    exact ⟨.int i, rfl, .ref a, rfl, a, C, rfl, hO, hp, .inl ⟨ha, fun d nd ne => hq d nd ne⟩⟩
/-! ### _law_kinds -/
def kindsOf (j : Nat) : List V := (List.range 18).map fun i => .bl (decide (j = i))
def spKinds (c : Nat → Addr) : Sp := fun vs H Q _ => ∃ (a : Addr) (j : Nat), vs = [.ref a] ∧ ErrAt H a (c j) ∧ j < 19 ∧ ∀ L H', Same H H' → H L = none → H' L = some (.lst (kindsOf j)) → Q (.ref L) H'
theorem ok_kinds {f : Addr} {fd : FuncData} {k : Nat} (F : Fun K "_law_kinds" "_law_kinds" s_kinds f fd) (T : T7 K mg c) : FnOk P w K mg base CX0 (k + 1) f fd ["e"] (spKinds c) := by
  refine F.ok sc_kinds (fun vs H Q E h => ?_) (fun cdv A outer s H vs Q E hr h => ?_)
  · obtain ⟨a, j, rfl, _⟩ := h
    rfl
  · obtain ⟨a, j, rfl, hE0, hj, hq⟩ := h
    refine ⟨_, (pss_cons (ps_set (i := 1) sc_kinds.nd rfl (.inl rfl) (pe_lst (pa_cons (pe_callB call_isX (by rfl) T.n_isinstance (by decide +kernel) (pa_cons (pv 0) (pa_cons (pe_glob (v := .ref (c 0)) rfl T.g0 rfl) pa_nil))) (pa_cons (pe_callB call_isX (by rfl) T.n_isinstance (by decide +kernel) (pa_cons (pv 0) (pa_cons (pe_glob (v := .ref (c 1)) rfl T.g1 rfl) pa_nil))) (pa_cons (pe_callB call_isX (by rfl) T.n_isinstance (by decide +kernel) (pa_cons (pv 0) (pa_cons (pe_glob (v := .ref (c 2)) rfl T.g2 rfl) pa_nil))) pa_nil)))))
      (pss_cons (ps_set (i := 1) sc_kinds.nd rfl (.inl rfl) (pe_op op_cat (pv 1) (pe_lst (pa_cons (pe_callB call_isX (by rfl) T.n_isinstance (by decide +kernel) (pa_cons (pv 0) (pa_cons (pe_glob (v := .ref (c 3)) rfl T.g3 rfl) pa_nil))) (pa_cons (pe_callB call_isX (by rfl) T.n_isinstance (by decide +kernel) (pa_cons (pv 0) (pa_cons (pe_glob (v := .ref (c 4)) rfl T.g4 rfl) pa_nil))) (pa_cons (pe_callB call_isX (by rfl) T.n_isinstance (by decide +kernel) (pa_cons (pv 0) (pa_cons (pe_glob (v := .ref (c 5)) rfl T.g5 rfl) pa_nil))) pa_nil))))))
      (pss_cons (ps_set (i := 1) sc_kinds.nd rfl (.inl rfl) (pe_op op_cat (pv 1) (pe_lst (pa_cons (pe_callB call_isX (by rfl) T.n_isinstance (by decide +kernel) (pa_cons (pv 0) (pa_cons (pe_glob (v := .ref (c 6)) rfl T.g6 rfl) pa_nil))) (pa_cons (pe_callB call_isX (by rfl) T.n_isinstance (by decide +kernel) (pa_cons (pv 0) (pa_cons (pe_glob (v := .ref (c 7)) rfl T.g7 rfl) pa_nil))) (pa_cons (pe_callB call_isX (by rfl) T.n_isinstance (by decide +kernel) (pa_cons (pv 0) (pa_cons (pe_glob (v := .ref (c 8)) rfl T.g8 rfl) pa_nil))) pa_nil))))))
      (pss_cons (ps_set (i := 1) sc_kinds.nd rfl (.inl rfl) (pe_op op_cat (pv 1) (pe_lst (pa_cons (pe_callB call_isX (by rfl) T.n_isinstance (by decide +kernel) (pa_cons (pv 0) (pa_cons (pe_glob (v := .ref (c 9)) rfl T.g9 rfl) pa_nil))) (pa_cons (pe_callB call_isX (by rfl) T.n_isinstance (by decide +kernel) (pa_cons (pv 0) (pa_cons (pe_glob (v := .ref (c 10)) rfl T.g10 rfl) pa_nil))) (pa_cons (pe_callB call_isX (by rfl) T.n_isinstance (by decide +kernel) (pa_cons (pv 0) (pa_cons (pe_glob (v := .ref (c 11)) rfl T.g11 rfl) pa_nil))) pa_nil))))))
      (pss_cons (ps_set (i := 1) sc_kinds.nd rfl (.inl rfl) (pe_op op_cat (pv 1) (pe_lst (pa_cons (pe_callB call_isX (by rfl) T.n_isinstance (by decide +kernel) (pa_cons (pv 0) (pa_cons (pe_glob (v := .ref (c 12)) rfl T.g12 rfl) pa_nil))) (pa_cons (pe_callB call_isX (by rfl) T.n_isinstance (by decide +kernel) (pa_cons (pv 0) (pa_cons (pe_glob (v := .ref (c 13)) rfl T.g13 rfl) pa_nil))) (pa_cons (pe_callB call_isX (by rfl) T.n_isinstance (by decide +kernel) (pa_cons (pv 0) (pa_cons (pe_glob (v := .ref (c 14)) rfl T.g14 rfl) pa_nil))) pa_nil))))))
      (pss_one (ps_ret (pe_op op_cat (pv 1) (pe_lst (pa_cons (pe_callB call_isX (by rfl) T.n_isinstance (by decide +kernel) (pa_cons (pv 0) (pa_cons (pe_glob (v := .ref (c 15)) rfl T.g15 rfl) pa_nil))) (pa_cons (pe_callB call_isX (by rfl) T.n_isinstance (by decide +kernel) (pa_cons (pv 0) (pa_cons (pe_glob (v := .ref (c 16)) rfl T.g16 rfl) pa_nil))) (pa_cons (pe_callB call_isX (by rfl) T.n_isinstance (by decide +kernel) (pa_cons (pv 0) (pa_cons (pe_glob (v := .ref (c 17)) rfl T.g17 rfl) pa_nil))) pa_nil)))))))))))), ?_⟩
    refine ⟨.ref a, rfl, a, c j, .ref (c 0), .ref (c 0), decide (j = 0), rfl, hE0, T.exc j hj, .own _, T.kit j 0 hj (by decide), .ref a, rfl, a, c j, .ref (c 1), .ref (c 1), decide (j = 1), rfl, hE0, T.exc j hj, .own _, T.kit j 1 hj (by decide), .ref a, rfl, a, c j, .ref (c 2), .ref (c 2), decide (j = 2), rfl, hE0, T.exc j hj, .own _, T.kit j 2 hj (by decide), by show 3 ≤ sizeLine; decide, fun L0 n0 => ?_⟩
    refine step1 n0 fun H0 s0 e0 => ?_
    have hE1 := hE0.mono s0
    refine ⟨.ref L0, rfl, .ref a, rfl, a, c j, .ref (c 3), .ref (c 3), decide (j = 3), rfl, hE1, T.exc j hj, .own _, T.kit j 3 hj (by decide), .ref a, rfl, a, c j, .ref (c 4), .ref (c 4), decide (j = 4), rfl, hE1, T.exc j hj, .own _, T.kit j 4 hj (by decide), .ref a, rfl, a, c j, .ref (c 5), .ref (c 5), decide (j = 5), rfl, hE1, T.exc j hj, .own _, T.kit j 5 hj (by decide), by show 3 ≤ sizeLine; decide, fun M1 m1 => ?_⟩
    refine ⟨L0, M1, _, _, rfl, rfl, (by rw [upd_ne (ne_of_none e0 m1)]; exact e0), upd_same, (Nat.le_of_lt (small1000 (by show 6 ≤ 1000; decide))), fun L1 n1 => ?_⟩
    refine step2 m1 n1 fun H1 s1 e1 => ?_
    have hE2 := hE1.mono s1
    refine ⟨.ref L1, rfl, .ref a, rfl, a, c j, .ref (c 6), .ref (c 6), decide (j = 6), rfl, hE2, T.exc j hj, .own _, T.kit j 6 hj (by decide), .ref a, rfl, a, c j, .ref (c 7), .ref (c 7), decide (j = 7), rfl, hE2, T.exc j hj, .own _, T.kit j 7 hj (by decide), .ref a, rfl, a, c j, .ref (c 8), .ref (c 8), decide (j = 8), rfl, hE2, T.exc j hj, .own _, T.kit j 8 hj (by decide), by show 3 ≤ sizeLine; decide, fun M2 m2 => ?_⟩
    refine ⟨L1, M2, _, _, rfl, rfl, (by rw [upd_ne (ne_of_none e1 m2)]; exact e1), upd_same, (Nat.le_of_lt (small1000 (by show 9 ≤ 1000; decide))), fun L2 n2 => ?_⟩
    refine step2 m2 n2 fun H2 s2 e2 => ?_
    have hE3 := hE2.mono s2
    refine ⟨.ref L2, rfl, .ref a, rfl, a, c j, .ref (c 9), .ref (c 9), decide (j = 9), rfl, hE3, T.exc j hj, .own _, T.kit j 9 hj (by decide), .ref a, rfl, a, c j, .ref (c 10), .ref (c 10), decide (j = 10), rfl, hE3, T.exc j hj, .own _, T.kit j 10 hj (by decide), .ref a, rfl, a, c j, .ref (c 11), .ref (c 11), decide (j = 11), rfl, hE3, T.exc j hj, .own _, T.kit j 11 hj (by decide), by show 3 ≤ sizeLine; decide, fun M3 m3 => ?_⟩
    refine ⟨L2, M3, _, _, rfl, rfl, (by rw [upd_ne (ne_of_none e2 m3)]; exact e2), upd_same, (Nat.le_of_lt (small1000 (by show 12 ≤ 1000; decide))), fun L3 n3 => ?_⟩
    refine step2 m3 n3 fun H3 s3 e3 => ?_
    have hE4 := hE3.mono s3
    refine ⟨.ref L3, rfl, .ref a, rfl, a, c j, .ref (c 12), .ref (c 12), decide (j = 12), rfl, hE4, T.exc j hj, .own _, T.kit j 12 hj (by decide), .ref a, rfl, a, c j, .ref (c 13), .ref (c 13), decide (j = 13), rfl, hE4, T.exc j hj, .own _, T.kit j 13 hj (by decide), .ref a, rfl, a, c j, .ref (c 14), .ref (c 14), decide (j = 14), rfl, hE4, T.exc j hj, .own _, T.kit j 14 hj (by decide), by show 3 ≤ sizeLine; decide, fun M4 m4 => ?_⟩
    refine ⟨L3, M4, _, _, rfl, rfl, (by rw [upd_ne (ne_of_none e3 m4)]; exact e3), upd_same, (Nat.le_of_lt (small1000 (by show 15 ≤ 1000; decide))), fun L4 n4 => ?_⟩
    refine step2 m4 n4 fun H4 s4 e4 => ?_
    have hE5 := hE4.mono s4
    refine ⟨.ref L4, rfl, .ref a, rfl, a, c j, .ref (c 15), .ref (c 15), decide (j = 15), rfl, hE5, T.exc j hj, .own _, T.kit j 15 hj (by decide), .ref a, rfl, a, c j, .ref (c 16), .ref (c 16), decide (j = 16), rfl, hE5, T.exc j hj, .own _, T.kit j 16 hj (by decide), .ref a, rfl, a, c j, .ref (c 17), .ref (c 17), decide (j = 17), rfl, hE5, T.exc j hj, .own _, T.kit j 17 hj (by decide), by show 3 ≤ sizeLine; decide, fun M5 m5 => ?_⟩
    refine ⟨L4, M5, _, _, rfl, rfl, (by rw [upd_ne (ne_of_none e4 m5)]; exact e4), upd_same, (Nat.le_of_lt (small1000 (by show 18 ≤ 1000; decide))), fun L5 n5 => ?_⟩
    refine step2 m5 n5 fun H5 s5 e5 => ?_
    refine hq L5 H5 (((((s0.trans s1).trans s2).trans s3).trans s4).trans s5) ?_ e5
    exact (((((s0.trans s1).trans s2).trans s3).trans s4).trans (same_upd m5)).free n5
end
end Kw

set_option Elab.async false
set_option linter.all false
set_option maxRecDepth 100000
namespace Kw
open PySem PySem.Spec PyProof.Rows L2
theorem Deck.mono {H H' : Hp} {p q : Addr} (h : Deck H p q) (s : Same H H') : Deck H' p q := by
  obtain ⟨ns, i, c, z, h1, h2, r⟩ := h
  exact ⟨ns, i, c, z, s _ _ h1, s _ _ h2, r⟩
theorem Deck.fst {H : Hp} {p q : Addr} (h : Deck H p q) : ∃ xs, H p = some (.lst xs) := by
  obtain ⟨ns, i, c, z, h1, h2, r⟩ := h
  exact ⟨_, h1⟩
theorem Deck.snd {H : Hp} {p q : Addr} (h : Deck H p q) : ∃ xs, H q = some (.lst xs) := by
  obtain ⟨ns, i, c, z, h1, h2, r⟩ := h
  exact ⟨_, h2⟩
section
variable {X : Cx}
theorem op_mulS : OpR X (binaryOp .Mult) (fun x y H Q => ∃ (z : Str) (n : Int), x = .str z ∧ y = .int n ∧ MulOk z n ∧ Q (.str (Txt.mul z n)) H) := by
  intro pins s σ H x y v u Q I rx ry h
  obtain ⟨z, n, rfl, rfl, ok, q⟩ := h
  obtain ⟨t1, rfl⟩ := rx
  obtain ⟨t2, rfl⟩ := ry
  exact SB.mul ok fun t' k => ⟨.str (Txt.mul z n), H, I.tok _, ⟨_, rfl⟩, q⟩
end
theorem mul9 : MulOk "9" 30 := ⟨by decide +kernel, by decide +kernel, by decide +kernel⟩
theorem pow30 : CPowB 10 30 := ⟨by decide, by decide +kernel⟩
section
variable {H : Hp} {a b c e : Addr} {o1 o2 o3 o4 o5 o6 : HO} {G : Hp → Prop}
theorem stepM {u : HO} (h : H a = some u) (k : ∀ H', H' a = some o1 → (∀ b, b ≠ a → H' b = H b) → G H') : G (upd H a o1) := k _ upd_same fun b hb => upd_ne hb
theorem stepE2 (n1 : H a = none) (n2 : (upd H a o1) b = none) (n3 : b ≠ a) (n4 : (upd (upd (upd H a o1) b o2) a o3) c = none) (n5 : (upd (upd (upd (upd H a o1) b o2) a o3) c o4) e = none) (n6 : e ≠ c)
    (k : ∀ H', Same H H' → H' a = some o3 → H' b = some o2 → H' c = some o6 → H' e = some o5 → G H') : G (upd (upd (upd (upd (upd (upd H a o1) b o2) a o3) c o4) e o5) c o6) := by
  have nb : H b = none := by rw [upd_ne n3] at n2; exact n2
  have key : ∀ {H0 : Hp} {x y : Addr} {u1 u2 u3 : HO}, H0 x = none → H0 y = none → y ≠ x → Same H0 (upd (upd (upd H0 x u1) y u2) x u3) := fun hx hy hxy z o ez => by
    rw [upd_ne (ne_of_none ez hx), upd_ne (ne_of_none ez hy), upd_ne (ne_of_none ez hx)]
    exact ez
  have ne : (upd (upd (upd H a o1) b o2) a o3) e = none := by rw [upd_ne n6] at n5; exact n5
  have s1 : Same H (upd (upd (upd H a o1) b o2) a o3) := key n1 nb n3
  have s2 := key (u1 := o4) (u2 := o5) (u3 := o6) n4 ne n6
  refine k _ (s1.trans s2) (s2 _ _ upd_same) (s2 _ _ ?_) upd_same ?_
  · rw [upd_ne n3]
    exact upd_same
  · rw [upd_ne n6]
    exact upd_same
end
/-! ### data of truth values -/
theorem dp_bools {K : PySem.W.Frag} {H : Hp} : ∀ bs : List Bool, DpAll K H (bs.map V.bl) (bs.map PyData.bool)
  | [] => .nil
  | b :: r => .cons (.bl b) (dp_bools r)
theorem lay_bools : ∀ bs : List Bool, PyData.canLayAll0 (bs.map PyData.bool) = true ∧ PyData.depthAll (bs.map PyData.bool) ≤ 1
  | [] => ⟨by simp [PyData.canLayAll0], by simp [PyData.depthAll]⟩
  | b :: r => by
    obtain ⟨h1, h2⟩ := lay_bools r
    refine ⟨by simp [PyData.canLayAll0, PyData.canLay0, h1], ?_⟩
    simp only [List.map_cons, PyData.depthAll, PyData.depth]
    omega
theorem shaped_bools (bs : List Bool) : SeqAt.shaped (.list (bs.map PyData.bool)) = true := by
  obtain ⟨h1, h2⟩ := lay_bools bs
  show (PyData.canLay0 _ && decide (PyData.depth _ ≤ 64)) = true
  rw [Bool.and_eq_true]
  refine ⟨by simp only [PyData.canLay0]; exact h1, decide_eq_true ?_⟩
  simp only [PyData.depth]
  omega
theorem eqv_bools (bs : List Bool) : PyData.eqv (.list (bs.map PyData.bool)) (.list (bs.map PyData.bool)) = true := SeqAt.eqv_refl _ (SeqAt.canLay_of_shaped (shaped_bools bs))
theorem kinds_map (j : Nat) : kindsOf j = ((List.range 18).map fun i => decide (j = i)).map V.bl := by
  unfold kindsOf
  rw [List.map_map]
  rfl
theorem shown2 (v : Int) (h : v.natAbs.log2 < 1920) : (PyData.list [.int v, .int v]).shown.length ≤ sizeLine := by
  have e := int_text_len_1921 h
  simp only [PyData.shown, PyData.shownAll, listText, textFrom]
  simp only [Str.length_append]
  have e2 : sizeLine = 16777216 := rfl
  have e3 : (Str.ofString (toString v)).length ≤ 1921 := e
  have c1 : (Str.ofString (if 0 > 0 then ", " else "")).length = 0 := rfl
  have c2 : (Str.ofString (if 0 + 1 > 0 then ", " else "")).length = 2 := rfl
  have e4 : (Str.ofString "[").length = 1 := rfl
  have e5 : (Str.ofString "]").length = 1 := rfl
  have e6 : (Str.ofString ", ").length = 2 := rfl
  have e7 : (Str.ofString "").length = 0 := rfl
  omega
theorem log30 {v : Int} (h0 : 0 ≤ v) (h1 : v ≤ 10 ^ 30) : v.natAbs.log2 < 1920 := by
  have e : v.natAbs < 2 ^ 100 := by
    have : (10 : Int) ^ 30 < 2 ^ 100 := by decide
    have e2 : ((v.natAbs : Nat) : Int) < ((2 ^ 100 : Nat) : Int) := by
      rw [Int.natAbs_of_nonneg h0]
      have e3 : ((2 ^ 100 : Nat) : Int) = 2 ^ 100 := by decide
      omega
    omega
  by_cases hz : v.natAbs = 0
  · rw [hz]
    decide
  · have := (Nat.log2_lt hz (k := 100)).mpr e
    omega
theorem deck_fresh {H Hx : Hp} {p q L : Addr} (d : Deck H p q) (s : Same H Hx) (n : Hx L = none) : p ≠ L ∧ q ≠ L := by
  obtain ⟨xs, e1⟩ := d.fst
  obtain ⟨ys, e2⟩ := d.snd
  exact ⟨ne_of_none (s _ _ e1) n, ne_of_none (s _ _ e2) n⟩
section
variable {P : Program} {w : World} {K : PySem.W.Frag} {mg : Str → Option Value} {base : Heap} {c : Nat → Addr}
def spLaw (K : PySem.W.Frag) : Sp := fun vs H Q _ => ∃ (a : Addr) (ns : List Int), vs = [.ref a] ∧ SqL K H a (ns.map V.int) ∧ ns.length ≤ 63 ∧ ∀ H', Q (.bl true) H'
/-- the list [e(at) for at in range(18)], read against a list of the same truth values -/
def boolsAre (H : Hp) (D : Addr) (f : Nat → Bool) (m : Nat) (H' : Hp) : Prop := Same H H' ∧ H' D = some (.lst (((List.range m).map f).map V.bl))
theorem bools_next {H H' : Hp} {D : Addr} {f : Nat → Bool} {m : Nat} (hD : H D = none) (h : boolsAre H D f m H') : boolsAre H D f (m + 1) (upd H' D (.lst (((List.range m).map f).map V.bl ++ [V.bl (f m)]))) := by
  refine ⟨fun b o e => ?_, ?_⟩
  · rw [upd_ne (ne_of_none e hD)]
    exact h.1 b o e
  · rw [upd_same, List.range_succ, List.map_append, List.map_append]
    rfl
theorem bools_small {f : Nat → Bool} {m : Nat} (h : m < 18) : (((List.range m).map f).map V.bl).length < sizeLine := by
  rw [List.length_map, List.length_map, List.length_range]
  exact small1000 (by omega)
theorem dec_at (k m : Nat) : decide (V.int (0 + (k : Int)) = V.int (0 + (m : Int))) = decide (k = m) := by
  by_cases h : k = m
  · subst h
    rw [decide_eq_true rfl, decide_eq_true rfl]
  · rw [decide_eq_false h, decide_eq_false fun e => h (by have := V.int.inj e; omega)]
theorem dec_17 (m : Nat) : decide (V.int (0 + (m : Int)) = V.int 17) = decide (17 = m) := by
  by_cases h : 17 = m
  · subst h
    rfl
  · rw [decide_eq_false h, decide_eq_false fun e => h (by have := V.int.inj e; omega)]
theorem show2 {v : Int} (h : v.natAbs.log2 < 1920) : (PyData.list [.int v, .int v]).showable = true := by
  simp only [PyData.showable, PyData.showableAll, decide_eq_true h, Bool.and_true]
theorem ok_law {f fD fT fK fI : Addr} {fd fdD fdT fdK fdI : FuncData} (F : Fun K "law" "law" s_law f fd) (FD : Fun K "_law_deck" "_law_deck" s_law_deck fD fdD) (FT : Fun K "_law_take" "_law_take" s_law_take fT fdT)
    (FK : Fun K "_law_kinds" "_law_kinds" s_kinds fK fdK) (FI : Fun K "__init__" "InvalidText.__init__" s_init fI fdI) (BD : Binds K fdD ["script"] []) (BT : Binds K fdT ["deck", "wide"] []) (BK2 : Binds K fdK ["e"] [])
    (BI : Binds K fdI ["self", "place"] []) (BK : BindK fdI "place" ["self", "place"]) (gD : mg "_law_deck" = some (.ref fD)) (gT : mg "_law_take" = some (.ref fT)) (gK : mg "_law_kinds" = some (.ref fK)) (T : T7 K mg c)
    (iC : PySem.W.findIn K (.ref (c 17)) "__init__" = some (some (.ref fI))) (tI : PySem.W.typeIn K (.ref fI) = some (.type "function")) : FnG P w K mg base CX0 3 f fd ["script"] (spLaw K) := by
  have GD : FnOk P w K mg base CX0 1 fD fdD ["script"] (spDeck K) := ok_deck FD T.toTB
  have GT : FnOk P w K mg base CX0 1 fT fdT ["deck", "wide"] spTake := ok_take FT T.toTB
  have GK : FnOk P w K mg base CX0 1 fK fdK ["e"] (spKinds c) := ok_kinds FK T
  have GI : FnOk P w K mg base CX0 1 fI fdI ["self", "place"] (spInit K) := ok_init FI T
  refine funG F sc_law (fun vs H Q E h => ?_) (fun cdv A outer s H vs Q E hr hgd h => ?_)
  · obtain ⟨a, ns, rfl, _⟩ := h
    rfl
  · obtain ⟨a, ns, rfl, hS, hl, hq⟩ := h
    refine ⟨_, (pss_cons (ps_set (i := 1) sc_law.nd rfl (.inl rfl) (pe_call GD (hr.mono (by decide)) (by rfl) gD FD.kp BD .nil pass0 (pa_cons (pv 0) pa_nil)))
      (pss_cons (ps_for PassesOwn.never rfl (pi_range1 (by rfl) T.n_range (pa_cons pe_int pa_nil)) (pg_name (i := 2) sc_law.nd rfl (.inl rfl)) (pss_cons (ps_set (i := 3) sc_law.nd rfl (.inl rfl) (pe_ix ix_list (pe_lst (pa_cons pe_str (pa_cons pe_str (pa_cons pe_str (pa_cons (pe_op op_mulS pe_str pe_int) pa_nil))))) (pe_call GT (hr.mono (by decide)) (by rfl) gT FT.kp BT .nil pass0 (pa_cons (pv 1) (pa_cons pe_int pa_nil))) (fun _ _ => rfl)))
      (pss_cons (ps_set (i := 4) sc_law.nd rfl (.inl rfl) (pe_lst (pa_cons (pe_exc1 PySem.F.excBase_ValueError T.x0 T.g0 T.k0 (by rfl) (pv 3)) (pa_cons (pe_exc1 PySem.F.excBase_ValueError T.x1 T.g1 T.k1 (by rfl) (pv 3)) (pa_cons (pe_exc1 PySem.F.excBase_ValueError T.x2 T.g2 T.k2 (by rfl) (pv 3)) pa_nil)))))
      (pss_cons (ps_set (i := 4) sc_law.nd rfl (.inl rfl) (pe_op op_cat (pv 4) (pe_lst (pa_cons (pe_exc1 PySem.F.excBase_ValueError T.x3 T.g3 T.k3 (by rfl) (pv 3)) (pa_cons (pe_exc1 PySem.F.excBase_ValueError T.x4 T.g4 T.k4 (by rfl) (pv 3)) (pa_cons (pe_exc1 PySem.F.excBase_ValueError T.x5 T.g5 T.k5 (by rfl) (pv 3)) pa_nil))))))
      (pss_cons (ps_set (i := 4) sc_law.nd rfl (.inl rfl) (pe_op op_cat (pv 4) (pe_lst (pa_cons (pe_exc1 PySem.F.excBase_ValueError T.x6 T.g6 T.k6 (by rfl) (pv 3)) (pa_cons (pe_exc1 PySem.F.excBase_ValueError T.x7 T.g7 T.k7 (by rfl) (pv 3)) (pa_cons (pe_exc1 PySem.F.excBase_ValueError T.x8 T.g8 T.k8 (by rfl) (pv 3)) pa_nil))))))
      (pss_cons (ps_set (i := 4) sc_law.nd rfl (.inl rfl) (pe_op op_cat (pv 4) (pe_lst (pa_cons (pe_exc1 PySem.F.excBase_ValueError T.x9 T.g9 T.k9 (by rfl) (pv 3)) (pa_cons (pe_exc1 PySem.F.excBase_ValueError T.x10 T.g10 T.k10 (by rfl) (pv 3)) (pa_cons (pe_exc1 PySem.F.excBase_ValueError T.x11 T.g11 T.k11 (by rfl) (pv 3)) pa_nil))))))
      (pss_cons (ps_set (i := 4) sc_law.nd rfl (.inl rfl) (pe_op op_cat (pv 4) (pe_lst (pa_cons (pe_exc1 PySem.F.excBase_ValueError T.x12 T.g12 T.k12 (by rfl) (pv 3)) (pa_cons (pe_exc1 PySem.F.excBase_ValueError T.x13 T.g13 T.k13 (by rfl) (pv 3)) (pa_cons (pe_exc1 PySem.F.excBase_ValueError T.x14 T.g14 T.k14 (by rfl) (pv 3)) (pa_cons (pe_exc1 PySem.F.excBase_ValueError T.x15 T.g15 T.k15 (by rfl) (pv 3)) pa_nil)))))))
      (pss_cons (ps_expr (pe_bm PySem.F.plainAttrs_list PySem.F.slot_list_append PySem.F.type_list_append mt_append (pv 4) (pa_cons (pe_exc1 PySem.F.excBase_ValueError T.x16 T.g16 T.k16 (by rfl) (pv 3)) pa_nil)))
      (pss_cons (ps_for PassesOwn.never rfl (pi_range1 (by rfl) T.n_range (pa_cons pe_int pa_nil)) (pg_name (i := 5) sc_law.nd rfl (.inr rfl)) (pss_cons (ps_if (PW.pt (pw_or (pt_not (pt_val (pe_callB call_isX (by rfl) T.n_isinstance (by decide +kernel) (pa_cons (pe_ix ix_list (pv 4) (pv 5) (fun _ _ => rfl)) (pa_cons (pe_glob (v := .ref (c 18)) rfl T.g18 rfl) pa_nil))))) (pw_or1 (pt_not (pt_val (pe_callB call_isX (by rfl) T.n_isinstance (by decide +kernel) (pa_cons (pe_ix ix_list (pv 4) (pv 5) (fun _ _ => rfl)) (pa_cons (pe_bltn (v := .ty "ValueError") (by rfl) T.n_ValueError (by decide +kernel) rfl) pa_nil)))))))) (pss_one (ps_ret pe_bl)) pss_nil)
      (pss_one (ps_if (pt_cmpR (op_neD hr.units) (pe_call GK (hr.mono (by decide)) (by rfl) gK FK.kp BK2 .nil pass0 (pa_cons (pe_ix ix_list (pv 4) (pv 5) (fun _ _ => rfl)) pa_nil)) (pe_lc (own := [("at", 10)]) (g := (gName 10)) rfl sc_law.nd (pi_range1 (by rfl) T.n_range (pa_cons pe_int pa_nil)) (blkOk_by (own := [("at", 10)]) (N := ["script", "deck", "turn", "text_here", "made", "k", "spot", "one", "two", "plain", "at"]) (sc := defScope s_law) (by decide +kernel)) (fun _ _ _ _ _ => (pg_name (i := 10) sc_law.nd rfl (Or.inl rfl))) (fun _ _ _ _ _ => pts_nil) (fun _ _ _ _ _ => (pe_cmpR op_eq (pv 5) (pv 10) (nomark _)))) (nomark _)) (pss_one (ps_ret pe_bl)) pss_nil))))
      (pss_one (ps_for PassesOwn.never rfl (pi_tup (pe_tup (pa_cons pe_int (pa_cons pe_int (pa_cons (pe_call GT (hr.mono (by decide)) (by rfl) gT FT.kp BT .nil pass0 (pa_cons (pv 1) (pa_cons pe_int pa_nil))) (pa_cons (pe_op op_powW pe_int pe_int) pa_nil)))))) (pg_name (i := 6) sc_law.nd rfl (.inl rfl)) (pss_cons (ps_par (i := 7) (j := 8) (by rfl) sc_law.nd rfl rfl (by decide) rfl rfl (pa_cons (pe_mkV T.oex iC tI GI hr BI pass0 (by rfl) T.g17 (pa_cons (pv 6) pa_nil)) (pa_cons (pe_mkVK T.oex iC tI GI hr BK pass0 (by rfl) T.g17 (pk_cons (pv 6) pk_nil)) pa_nil)) (by rfl))
      (pss_cons (ps_if (PW.pt (pw_or (pt_cmpR (op_neD hr.units) (pe_call GK (hr.mono (by decide)) (by rfl) gK FK.kp BK2 .nil pass0 (pa_cons (pv 7) pa_nil)) (pe_lc (own := [("at", 10)]) (g := (gName 10)) rfl sc_law.nd (pi_range1 (by rfl) T.n_range (pa_cons pe_int pa_nil)) (blkOk_by (own := [("at", 10)]) (N := ["script", "deck", "turn", "text_here", "made", "k", "spot", "one", "two", "plain", "at"]) (sc := defScope s_law) (by decide +kernel)) (fun _ _ _ _ _ => (pg_name (i := 10) sc_law.nd rfl (Or.inl rfl))) (fun _ _ _ _ _ => pts_nil) (fun _ _ _ _ _ => (pe_cmpR op_eq (pv 10) pe_int (nomark _)))) (nomark _)) (pw_or1 (pt_not (pt_val (pe_callB call_isX (by rfl) T.n_isinstance (by decide +kernel) (pa_cons (pv 7) (pa_cons (pe_glob (v := .ref (c 18)) rfl T.g18 rfl) pa_nil)))))))) (pss_one (ps_ret pe_bl)) pss_nil)
      (pss_one (ps_if (PW.pt (pw_or (pt_cmpR op_ne (pe_callB (call_reprD hr.units hgd) (by rfl) T.n_repr (by decide +kernel) (pa_cons (pe_lst (pa_cons (pe_xfV (pv 7)) (pa_cons (pe_xfV (pv 8)) pa_nil))) pa_nil)) (pe_callB (call_reprD hr.units hgd) (by rfl) T.n_repr (by decide +kernel) (pa_cons (pe_lst (pa_cons (pv 6) (pa_cons (pv 6) pa_nil))) pa_nil)) (nomark _)) (pw_or1 (pt_not (pt_val (pe_callB call_isX (by rfl) T.n_isinstance (by decide +kernel) (pa_cons (pv 8) (pa_cons (pe_bltn (v := .ty "ValueError") (by rfl) T.n_ValueError (by decide +kernel) rfl) pa_nil)))))))) (pss_one (ps_ret pe_bl)) pss_nil)))))))))))))))
      (pss_cons (ps_set (i := 9) sc_law.nd rfl (.inl rfl) (pe_exc1 PySem.F.excBase_ValueError T.x18 T.g18 T.k18 (by rfl) pe_str))
      (pss_one (ps_ret (pe_and (pe_callB call_isX (by rfl) T.n_isinstance (by decide +kernel) (pa_cons (pv 9) (pa_cons (pe_bltn (v := .ty "ValueError") (by rfl) T.n_ValueError (by decide +kernel) rfl) pa_nil))) (pe_one (pe_cmpR (op_eqD hr.units) (pe_call GK (hr.mono (by decide)) (by rfl) gK FK.kp BK2 .nil pass0 (pa_cons (pv 9) pa_nil)) (pe_op op_rep (pe_lst (pa_cons pe_bl pa_nil)) pe_int) (nomark _))))))))), ?_⟩
    refine ⟨.ref a, rfl, a, ns, rfl, hS, hl, fun p q Ha sa np nq hDa => ?_⟩
    refine ⟨3, rfl, by decide, by decide, for_range (lo := 0) (n := 3) (fun i σ H' => ∃ y2 y3 y4 y5 y6 y7 y8 : Option V, σ = [some (.ref a), some (.ref p), y2, y3, y4, y5, y6, y7, y8, none, none] ∧ Deck H' p q) ⟨none, none, none, none, none, none, none, rfl, hDa⟩
      (fun i σ H' hi h => ?_) (fun σ H' h => ?_)⟩
    · obtain ⟨y2, y3, y4, y5, y6, y7, y8, rfl, hD⟩ := h
      -- text_here = [..][_law_take(deck, 4)]
      refine ⟨_, _, rfl, rfl, mul9, by show 4 ≤ sizeLine; decide, fun l nl => ?_⟩
      have nlp : l ≠ p := fun e => by
        obtain ⟨xs, e1⟩ := hD.fst
        rw [← e, nl] at e1
        cases e1
      have nlq : l ≠ q := fun e => by
        obtain ⟨xs, e1⟩ := hD.snd
        rw [← e, nl] at e1
        cases e1
      refine ⟨.ref p, rfl, p, q, 4, rfl, hD.mono (same_upd nl), by decide, by decide, fun r Hb r0 r1 hDb but => ?_⟩
      obtain ⟨z, hz⟩ : ∃ z : Str, atI [V.str "", .str "a", .str "no such thing", .str (Txt.mul "9" 30)] r = some (.str z) := by
        rcases (show r = 0 ∨ r = 1 ∨ r = 2 ∨ r = 3 by omega) with rfl | rfl | rfl | rfl
        · exact ⟨_, rfl⟩
        · exact ⟨_, rfl⟩
        · exact ⟨_, rfl⟩
        · exact ⟨_, rfl⟩
      refine ⟨l, _, r, .str z, rfl, rfl, SqL.of ((but l nlp nlq).trans upd_same), hz, ?_⟩
      -- the seventeen errors
      refine ⟨.str z, rfl, fun a0 na0 => ⟨.str z, rfl, fun a1 na1 => ⟨.str z, rfl, fun a2 na2 => ⟨by show 3 ≤ sizeLine; decide, fun L0 nL0 => ?_⟩⟩⟩⟩
      refine step4 na0 na1 na2 nL0 fun H1 sm1 x0 x1 x2 eL0 => ?_
      refine ⟨.ref L0, rfl, ⟨.str z, rfl, fun a3 na3 => ⟨.str z, rfl, fun a4 na4 => ⟨.str z, rfl, fun a5 na5 => ⟨by show 3 ≤ sizeLine; decide, fun M1 nM1 => ?_⟩⟩⟩⟩⟩
      refine ⟨L0, M1, _, _, rfl, rfl, keep4 na3 na4 na5 nM1 _ _ eL0, upd_same, (Nat.le_of_lt (small1000 (by show 6 ≤ 1000; decide))), fun L1 nL1 => ?_⟩
      refine step5 na3 na4 na5 nM1 nL1 fun H2 sm2 x3 x4 x5 eM1 eL1 => ?_
      replace x0 := sm2 _ _ x0
      replace x1 := sm2 _ _ x1
      replace x2 := sm2 _ _ x2
      refine ⟨.ref L1, rfl, ⟨.str z, rfl, fun a6 na6 => ⟨.str z, rfl, fun a7 na7 => ⟨.str z, rfl, fun a8 na8 => ⟨by show 3 ≤ sizeLine; decide, fun M2 nM2 => ?_⟩⟩⟩⟩⟩
      refine ⟨L1, M2, _, _, rfl, rfl, keep4 na6 na7 na8 nM2 _ _ eL1, upd_same, (Nat.le_of_lt (small1000 (by show 9 ≤ 1000; decide))), fun L2 nL2 => ?_⟩
      refine step5 na6 na7 na8 nM2 nL2 fun H3 sm3 x6 x7 x8 eM2 eL2 => ?_
      replace x0 := sm3 _ _ x0
      replace x1 := sm3 _ _ x1
      replace x2 := sm3 _ _ x2
      replace x3 := sm3 _ _ x3
      replace x4 := sm3 _ _ x4
      replace x5 := sm3 _ _ x5
      refine ⟨.ref L2, rfl, ⟨.str z, rfl, fun a9 na9 => ⟨.str z, rfl, fun a10 na10 => ⟨.str z, rfl, fun a11 na11 => ⟨by show 3 ≤ sizeLine; decide, fun M3 nM3 => ?_⟩⟩⟩⟩⟩
      refine ⟨L2, M3, _, _, rfl, rfl, keep4 na9 na10 na11 nM3 _ _ eL2, upd_same, (Nat.le_of_lt (small1000 (by show 12 ≤ 1000; decide))), fun L3 nL3 => ?_⟩
      refine step5 na9 na10 na11 nM3 nL3 fun H4 sm4 x9 x10 x11 eM3 eL3 => ?_
      replace x0 := sm4 _ _ x0
      replace x1 := sm4 _ _ x1
      replace x2 := sm4 _ _ x2
      replace x3 := sm4 _ _ x3
      replace x4 := sm4 _ _ x4
      replace x5 := sm4 _ _ x5
      replace x6 := sm4 _ _ x6
      replace x7 := sm4 _ _ x7
      replace x8 := sm4 _ _ x8
      refine ⟨.ref L3, rfl, ⟨.str z, rfl, fun a12 na12 => ⟨.str z, rfl, fun a13 na13 => ⟨.str z, rfl, fun a14 na14 => ⟨.str z, rfl, fun a15 na15 => ⟨by show 4 ≤ sizeLine; decide, fun M4 nM4 => ?_⟩⟩⟩⟩⟩⟩
      refine ⟨L3, M4, _, _, rfl, rfl, keep5 na12 na13 na14 na15 nM4 _ _ eL3, upd_same, (Nat.le_of_lt (small1000 (by show 16 ≤ 1000; decide))), fun L4 nL4 => ?_⟩
      obtain ⟨npL, nqL⟩ := deck_fresh (hDb.mono (((sm1.trans sm2).trans sm3).trans sm4)) (keep5 na12 na13 na14 na15 nM4) nL4
      refine step6 na12 na13 na14 na15 nM4 nL4 fun H5 sm5 x12 x13 x14 x15 eM4 eL4 => ?_
      replace x0 := sm5 _ _ x0
      replace x1 := sm5 _ _ x1
      replace x2 := sm5 _ _ x2
      replace x3 := sm5 _ _ x3
      replace x4 := sm5 _ _ x4
      replace x5 := sm5 _ _ x5
      replace x6 := sm5 _ _ x6
      replace x7 := sm5 _ _ x7
      replace x8 := sm5 _ _ x8
      replace x9 := sm5 _ _ x9
      replace x10 := sm5 _ _ x10
      replace x11 := sm5 _ _ x11
      have hD5 : Deck H5 p q := hDb.mono ((((sm1.trans sm2).trans sm3).trans sm4).trans sm5)
      -- made.append(InvalidCommand(text_here))
      refine ⟨.ref L4, rfl, .inl ⟨rfl, _, .inl (.inl eL4)⟩, .str z, rfl, fun a16 na16 => ?_⟩
      have s16 : Same H5 (upd H5 a16 (ExO (.ref (c 16)) a16)) := same_upd na16
      refine ⟨L4, _, _, rfl, rfl, s16 _ _ eL4, small1000 (by show 16 ≤ 1000; decide), ?_⟩
      refine stepM (u := .lst ([V.ref a0, .ref a1, .ref a2] ++ [V.ref a3, .ref a4, .ref a5] ++ [V.ref a6, .ref a7, .ref a8] ++ [V.ref a9, .ref a10, .ref a11] ++ [V.ref a12, .ref a13, .ref a14, .ref a15])) (s16 _ _ eL4) fun Hm eLm mu => ?_
      have hDm : Deck Hm p q := by
        obtain ⟨ns, i, c, z, h1, h2, r⟩ := hD5
        exact ⟨ns, i, c, z, (mu p npL).trans (s16 _ _ h1), (mu q nqL).trans (s16 _ _ h2), r⟩
      have x16 : (upd H5 a16 (ExO (.ref (c 16)) a16)) a16 = some (ExO (.ref (c 16)) a16) := upd_same
      have ext_ne : ∀ {b : Addr} {o : HO} {φ : Heap → Prop} , H5 b = some (HO.ext φ) → b ≠ L4 := fun e z => by
        rw [z, eL4] at e
        cases e
      have mv : ∀ {j : Nat} {b : Addr}, H5 b = some (ExO (.ref (c j)) b) → ErrAt Hm b (c j) := fun {j b} e => .inl ((mu b (fun z => by rw [z, eL4] at e; cases e)).trans (s16 _ _ e))
      have m16 : ErrAt Hm a16 (c 16) := .inl ((mu a16 (fun z => by rw [z] at na16; rw [eL4] at na16; cases na16)).trans x16)
      have all : ∀ i : Nat, i < 17 → ∃ b : Addr, ([V.ref a0, .ref a1, .ref a2] ++ [V.ref a3, .ref a4, .ref a5] ++ [V.ref a6, .ref a7, .ref a8] ++ [V.ref a9, .ref a10, .ref a11] ++ [V.ref a12, .ref a13, .ref a14, .ref a15] ++ [V.ref a16])[i]? = some (.ref b) ∧ ErrAt Hm b (c i) := fun i hi =>
        match i, hi with
        | 0, _ => ⟨a0, rfl, mv x0⟩
        | 1, _ => ⟨a1, rfl, mv x1⟩
        | 2, _ => ⟨a2, rfl, mv x2⟩
        | 3, _ => ⟨a3, rfl, mv x3⟩
        | 4, _ => ⟨a4, rfl, mv x4⟩
        | 5, _ => ⟨a5, rfl, mv x5⟩
        | 6, _ => ⟨a6, rfl, mv x6⟩
        | 7, _ => ⟨a7, rfl, mv x7⟩
        | 8, _ => ⟨a8, rfl, mv x8⟩
        | 9, _ => ⟨a9, rfl, mv x9⟩
        | 10, _ => ⟨a10, rfl, mv x10⟩
        | 11, _ => ⟨a11, rfl, mv x11⟩
        | 12, _ => ⟨a12, rfl, mv x12⟩
        | 13, _ => ⟨a13, rfl, mv x13⟩
        | 14, _ => ⟨a14, rfl, mv x14⟩
        | 15, _ => ⟨a15, rfl, mv x15⟩
        | 16, _ => ⟨a16, rfl, m16⟩
        | n + 17, h => absurd h (by omega)
      -- for k in range(17)
      refine ⟨17, rfl, by decide, by decide, for_range (lo := 0) (n := 17) (fun j σ H' => ∃ y5 y6 y7 y8 : Option V, σ = [some (.ref a), some (.ref p), some (.int (0 + (i : Int))), some (.str z), some (.ref L4), y5, y6, y7, y8, none, none] ∧ Same Hm H') ⟨y5, y6, y7, y8, rfl, Same.refl _⟩
        (fun k σ H' hk h => ?_) (fun σ H' h => ?_)⟩
      · obtain ⟨y5, y6, y7, y8, rfl, sk⟩ := h
        obtain ⟨b, hb, hE⟩ := all k hk
        have eL : H' L4 = some (.lst _) := sk _ _ eLm
        have hE' : ErrAt H' b (c k) := hE.mono sk
        have ha : atI ([V.ref a0, .ref a1, .ref a2] ++ [V.ref a3, .ref a4, .ref a5] ++ [V.ref a6, .ref a7, .ref a8] ++ [V.ref a9, .ref a10, .ref a11] ++ [V.ref a12, .ref a13, .ref a14, .ref a15] ++ [V.ref a16]) (0 + (k : Int)) = some (.ref b) := by
          rw [Int.zero_add]
          exact atI_nat hb
        refine ⟨.ref L4, rfl, .int (0 + (k : Int)), rfl, L4, _, _, .ref b, rfl, rfl, SqL.of eL, ha, b, c k, .ref (c 18), .ref (c 18), true, rfl, hE', T.exc k (by omega), .own _, T.kitS k (by omega), true, rfl, ?_⟩
        refine iteF ?_
        refine ⟨.ref L4, rfl, .int (0 + (k : Int)), rfl, L4, _, _, .ref b, rfl, rfl, SqL.of eL, ha, b, c k, .ty "ValueError", .type "ValueError", true, rfl, hE', T.exc k (by omega), .ty _, T.kitV k (by omega), true, rfl, ?_⟩
        refine iteF ?_
        -- if _law_kinds(made[k]) != [k == at for at in range(18)]
        refine ⟨.ref L4, rfl, .int (0 + (k : Int)), rfl, L4, _, _, .ref b, rfl, rfl, SqL.of eL, ha, b, k, rfl, hE', by omega, fun Lk Hk sk2 nk ek => ?_⟩
        refine ⟨18, rfl, by decide, by decide, fun D nD => lc_range (lo := 0) (n := 18) (fun m H'' => boolsAre Hk D (fun t => decide (k = t)) m H'') ⟨same_upd nD, upd_same⟩ (fun m H'' hm h => ?_) (fun H'' h => ?_)⟩
        · refine ⟨rfl, .int (0 + (k : Int)), rfl, .int (0 + (m : Int)), rfl, rfl, _, h.2, bools_small hm, ?_⟩
          rw [show decide (V.int (0 + (k : Int)) = V.int (0 + (m : Int))) = decide (k = m) from dec_at k m]
          exact bools_next nD h
        · rw [kinds_map] at ek
          refine ⟨_, _, .lst (SqL.of (h.1 _ _ ek)) (dp_bools _), .lst (SqL.of h.2) (dp_bools _), shaped_bools _, shaped_bools _, _, rfl, ?_⟩
          rw [eqv_bools]
          refine iteF ?_
          exact ⟨_, y6, y7, y8, rfl, sk.trans (sk2.trans h.1)⟩
      · obtain ⟨y5, y6, y7, y8, rfl, sk⟩ := h
        have hD2 : Deck H' p q := hDm.mono sk
        -- for spot in (0, 1, _law_take(deck, 4000), 10 ** 30)
        refine ⟨.ref p, rfl, p, q, 4000, rfl, hD2, by decide, by decide, fun r2 Hs r20 r21 hDs but2 => ?_⟩
        refine ⟨10, 30, rfl, rfl, pow30, by show 4 ≤ sizeLine; decide, fun t nt => ?_⟩
        have sT : Same Hs (upd Hs t (.tup [.int 0, .int 1, .int r2, .int (10 ^ (30 : Int).toNat)])) := same_upd nt
        refine ⟨t, rfl, ⟨_, SqT.of upd_same⟩, for_tup (xs := [.int 0, .int 1, .int r2, .int (10 ^ (30 : Int).toNat)]) (fun j σ H' => ∃ y5 y6 y7 y8 : Option V, σ = [some (.ref a), some (.ref p), some (.int (0 + (i : Int))), some (.str z), some (.ref L4), y5, y6, y7, y8, none, none] ∧ Same (upd Hs t (.tup [.int 0, .int 1, .int r2, .int (10 ^ (30 : Int).toNat)])) H')
          ⟨y5, y6, y7, y8, rfl, Same.refl _⟩ (fun j σ H' _ h => ?_) (fun j x σ H' hx h => ?_) (fun σ H' h => ?_)⟩
        · obtain ⟨_, _, _, _, _, s3⟩ := h
          exact SqT.of (s3 _ _ upd_same)
        · obtain ⟨y5, y6, y7, y8, rfl, s3⟩ := h
          obtain ⟨v, rfl, v0, v1⟩ : ∃ v : Int, x = .int v ∧ 0 ≤ v ∧ v ≤ 10 ^ 30 := by
            match j, hx with
            | 0, hx => exact ⟨0, (Option.some.inj hx).symm, by decide, by decide⟩
            | 1, hx => exact ⟨1, (Option.some.inj hx).symm, by decide, by decide⟩
            | 2, hx => exact ⟨r2, (Option.some.inj hx).symm, r20, by omega⟩
            | 3, hx => exact ⟨10 ^ (30 : Int).toNat, (Option.some.inj hx).symm, by decide, by decide⟩
            | n + 4, hx => exact absurd hx (by simp)
          have lg := log30 v0 v1
          -- one, two = (InvalidText(spot), InvalidText(place=spot))
          refine ⟨.int v, rfl, by show 1 ≤ 1000; decide, fun b1 nb1 => ⟨b1, c 17, v, rfl, T.oex, T.noP, upd_same, lg, fun d1 nd1 ne1 => ⟨rfl, .int v, rfl, .int v, rfl, fun b2 nb2 => ⟨b2, c 17, v, rfl, T.oex, T.noP, upd_same, lg, fun d2 nd2 ne2 => ⟨rfl, .ref b1, .ref b2, rfl, ?_⟩⟩⟩⟩⟩
          refine stepE2 nb1 nd1 ne1 nb2 nd2 ne2 fun H6 s6 f1 f2 f3 f4 => ?_
          have E1 : ErrAt H6 b1 (c 17) := .inr ⟨d1, _, f1, f2⟩
          have E2 : ErrAt H6 b2 (c 17) := .inr ⟨d2, _, f3, f4⟩
          -- if _law_kinds(one) != [at == 17 for at in range(18)] or not isinstance(one, SignError)
          refine ⟨.ref b1, rfl, b1, 17, rfl, E1, by decide, fun Lk Hk sk2 nk ek => ?_⟩
          refine ⟨18, rfl, by decide, by decide, fun D nD => lc_range (lo := 0) (n := 18) (fun m H'' => boolsAre Hk D (fun t => decide (17 = t)) m H'') ⟨same_upd nD, upd_same⟩ (fun m H'' hm h => ?_) (fun H'' h => ?_)⟩
          · refine ⟨rfl, .int (0 + (m : Int)), rfl, rfl, _, h.2, bools_small hm, ?_⟩
            rw [show decide (V.int (0 + (m : Int)) = V.int 17) = decide (17 = m) from dec_17 m]
            exact bools_next nD h
          rw [kinds_map] at ek
          refine ⟨_, _, .lst (SqL.of (h.1 _ _ ek)) (dp_bools _), .lst (SqL.of h.2) (dp_bools _), shaped_bools _, shaped_bools _, _, rfl, ?_⟩
          rw [eqv_bools]
          refine iteF ?_
          have s7 : Same H6 H'' := sk2.trans h.1
          refine ⟨.ref b1, rfl, b1, c 17, .ref (c 18), .ref (c 18), true, rfl, E1.mono s7, T.exc 17 (by decide), .own _, T.kitS 17 (by decide), true, rfl, ?_⟩
          refine iteF ?_
          -- if repr([one.place, two.place]) != repr([spot, spot]) or not isinstance(two, ValueError)
          refine ⟨.ref b1, rfl, b1, c 17, d1, _, .int v, rfl, s7 _ _ f1, s7 _ _ f2, T.xf, T.noP, rfl, .ref b2, rfl, b2, c 17, d2, _, .int v, rfl, s7 _ _ f3, s7 _ _ f4, T.xf, T.noP, rfl, by show 2 ≤ sizeLine; decide, fun l1 nl1 => ?_⟩
          refine ⟨l1, .list [.int v, .int v], rfl, .lst (SqL.of upd_same) (.cons (.int v) (.cons (.int v) .nil)), show2 lg, rfl, shown2 v lg, by simp [PyData.depth, PyData.depthAll], ?_⟩
          refine ⟨.int v, rfl, .int v, rfl, by show 2 ≤ sizeLine; decide, fun l2 nl2 => ?_⟩
          refine ⟨l2, .list [.int v, .int v], rfl, .lst (SqL.of upd_same) (.cons (.int v) (.cons (.int v) .nil)), show2 lg, rfl, shown2 v lg, by simp [PyData.depth, PyData.depthAll], ?_⟩
          refine ⟨rfl, _, rfl, ?_⟩
          rw [decide_eq_true rfl]
          refine iteF ?_
          have s8 := s7.trans ((same_upd (o := .lst [.int v, .int v]) nl1).trans (same_upd (o := .lst [.int v, .int v]) nl2))
          refine ⟨.ref b2, rfl, b2, c 17, .ty "ValueError", .type "ValueError", true, rfl, E2.mono s8, T.exc 17 (by decide), .ty _, T.kitV 17 (by decide), true, rfl, ?_⟩
          refine iteF ?_
          exact ⟨y5, _, _, _, rfl, (s3.trans s6).trans s8⟩
        · obtain ⟨y5, y6, y7, y8, rfl, s3⟩ := h
          exact ⟨_, _, _, _, _, _, _, rfl, hDs.mono (sT.trans s3)⟩
    · obtain ⟨y2, y3, y4, y5, y6, y7, y8, rfl, hD⟩ := h
      -- plain = SignError('a')
      refine fun b nb => ?_
      refine step1 nb fun H5 s5 eb => ?_
      have E1 : ErrAt H5 b (c 18) := .inl eb
      refine ⟨.ref b, rfl, b, c 18, .ty "ValueError", .type "ValueError", true, rfl, E1, T.exc 18 (by decide), .ty _, T.kitV 18 (by decide), true, rfl, ?_⟩
      refine iteT ?_
      refine ⟨.ref b, rfl, b, 18, rfl, E1, by decide, fun Lk Hk sk2 nk ek => ?_⟩
      refine ⟨by show 1 ≤ sizeLine; decide, fun m nm => ⟨m, 18, [.bl false], rfl, rfl, upd_same, by decide, by decide, Nat.le_of_lt (small1000 (by show 18 ≤ 1000; decide)), fun l nl => ?_⟩⟩
      have ek2 := ((same_upd (o := .lst [.bl false]) nm).trans (same_upd (o := .lst (List.replicate (18 : Int).toNat [V.bl false]).flatten) nl)) _ _ ek
      rw [kinds_map] at ek2
      refine ⟨_, .list (((List.range 18).map fun t => decide (18 = t)).map PyData.bool), .lst (SqL.of ek2) (dp_bools _), .lst (SqL.of upd_same) (dp_bools ((List.range 18).map fun t => decide (18 = t))), shaped_bools _, shaped_bools _, ?_⟩
      rw [eqv_bools]
      exact hq _
end
end Kw

set_option Elab.async false
set_option linter.all false
set_option maxRecDepth 100000
namespace Kw
open PySem PySem.Spec PyProof.Rows L2
section
variable {K : PySem.W.Frag}
theorem kit_self {D C : Addr} (e : D = C) : PySem.W.kitOne K (.ref D) (.ref C) = some true := by
  unfold PySem.W.kitOne
  rw [if_pos (by rw [e]; exact beq_self_eq_true _)]
theorem cls_ok {C : Addr} {cd : ClassData} (h1 : PySem.W.clsIn K C = some cd) (h2 : PySem.W.typeIn K (.ref C) = some (.type "type")) : ((PySem.W.clsIn K C).isSome && PySem.W.typeIn K (.ref C) == some (.type "type")) = true := by
  rw [h1, h2]
  rfl
theorem sub_mro {D : Addr} {cd : ClassData} {b : Value} {r : Value} {m : List Value} (h1 : PySem.W.clsIn K D = some cd) (h2 : cd.mro = r :: m) : PySem.W.subIn K (.ref D) b = some ((r :: m).contains b) := by
  show (PySem.W.clsIn K D).bind _ = _
  rw [h1, Option.bind_some, h2, if_neg (by simp)]
theorem kit_ref {D C : Addr} {cd cd' : ClassData} {r : Value} {m : List Value} (ne : D ≠ C) (h1 : PySem.W.clsIn K D = some cd) (h2 : cd.mro = r :: m) (h3 : PySem.W.clsIn K C = some cd') (h4 : PySem.W.typeIn K (.ref C) = some (.type "type")) :
    PySem.W.kitOne K (.ref D) (.ref C) = some ((r :: m).contains (.ref C)) := by
  unfold PySem.W.kitOne
  rw [if_neg (by intro z; exact ne (Value.ref.inj (beq_iff_eq.mp z)))]
  show (if _ then PySem.W.subIn K (.ref D) (.ref C) else none) = _
  rw [if_pos (cls_ok h3 h4), sub_mro h1 h2]
theorem kit_ve {D : Addr} {cd : ClassData} {r : Value} {m : List Value} (h1 : PySem.W.clsIn K D = some cd) (h2 : cd.mro = r :: m) : PySem.W.kitOne K (.ref D) (.type "ValueError") = some ((r :: m).contains (.type "ValueError")) := by
  unfold PySem.W.kitOne
  rw [if_neg (by intro z; exact Value.noConfusion (beq_iff_eq.mp z))]
  show (if PySem.W.kitMeta "ValueError" = true then PySem.W.subIn K (.ref D) (.type "ValueError") else none) = _
  rw [if_pos (by decide +kernel), sub_mro h1 h2]
/-- what the written part says of one of the classes -/
structure Cl (K : PySem.W.Frag) (D S : Addr) (cd : ClassData) : Prop where
  cl : PySem.W.clsIn K D = some cd
  mro : cd.mro = .ref D :: .ref S :: veB ∨ (cd.mro = .ref D :: veB ∧ D = S)
  hd : cd.hasDict = true
  ty : PySem.W.typeIn K (.ref D) = some (.type "type")
  ga : PySem.W.findIn K (.ref D) "__getattribute__" = some (some (.builtin "BaseException.__getattribute__"))
  gg : PySem.W.findIn K (.ref D) "__getattr__" = some none
  gc : PySem.W.findIn K (.ref D) "__class__" = some (some (.builtin "object.__class__"))
theorem Cl.hdI {D S : Addr} {cd : ClassData} (C : Cl K D S cd) : PySem.W.hasDictIn K D = true := by
  unfold PySem.W.hasDictIn
  rw [C.cl]
  exact C.hd
theorem Cl.sub {D S : Addr} {cd : ClassData} (C : Cl K D S cd) (T : String) (h : veB.contains (.type T) = true) : PySem.W.subIn K (.ref D) (.type T) = some true := by
  rcases C.mro with m | ⟨m, _⟩
  · rw [sub_mro C.cl m, List.contains_cons, List.contains_cons, h, Bool.or_true, Bool.or_true]
  · rw [sub_mro C.cl m, List.contains_cons, h, Bool.or_true]
theorem Cl.exc {D S : Addr} {cd : ClassData} (C : Cl K D S cd) (hn : PySem.W.specialIn K (.builtin "object.__class__") "__get__" = some (some (.builtin "getset_descriptor.__get__"))) (ht : PySem.W.takesIn K (.builtin "object.__class__") = some true) : ExcC K D :=
  ⟨C.ga, C.gg, C.sub "BaseException" (by decide +kernel), C.hdI, C.gc, hn, ht, C.sub "object" (by decide +kernel)⟩
theorem ve_noref (a : Addr) : veB.contains (.ref a) = false := by
  rw [List.contains_eq_any_beq]
  simp [veB]
theorem Cl.off {D S C : Addr} {cd cd' : ClassData} (h : Cl K D S cd) (h' : Cl K C S cd') (n1 : D ≠ C) (n2 : S ≠ C) : PySem.W.kitOne K (.ref D) (.ref C) = some false := by
  have z1 : (Value.ref C == Value.ref D) = false := by simpa using n1.symm
  have z2 : (Value.ref C == Value.ref S) = false := by simpa using n2.symm
  rcases h.mro with m | ⟨m, _⟩
  · rw [kit_ref n1 h.cl m h'.cl h'.ty, List.contains_cons, List.contains_cons, ve_noref, z1, z2]
    rfl
  · rw [kit_ref n1 h.cl m h'.cl h'.ty, List.contains_cons, ve_noref, z1]
    rfl
theorem Cl.onS {D S : Addr} {cd cd' : ClassData} (h : Cl K D S cd) (h' : Cl K S S cd') : PySem.W.kitOne K (.ref D) (.ref S) = some true := by
  by_cases e : D = S
  · exact kit_self e
  · rcases h.mro with m | ⟨m, z⟩
    · rw [kit_ref e h.cl m h'.cl h'.ty, List.contains_cons, List.contains_cons, show (Value.ref S == Value.ref S) = true from beq_self_eq_true _, Bool.true_or, Bool.or_true]
    · exact absurd z e
theorem Cl.onV {D S : Addr} {cd : ClassData} (h : Cl K D S cd) : PySem.W.kitOne K (.ref D) (.type "ValueError") = some true := by
  rcases h.mro with m | ⟨m, _⟩
  · rw [kit_ve h.cl m]
    rfl
  · rw [kit_ve h.cl m]
    rfl
end
theorem all_mk {l : PySem.W.OpenLaw} {w : World} {K : PySem.W.Frag} {h : Heap} {mg : Str → Option Value} {fa fD fT fK fL fI : Addr} (X : K.In h) (G : h.Ns mainGlobals mg) (hfa : mg "law" = some (.ref fa))
    {a0 a1 a2 a3 a4 a5 a6 a7 a8 a9 a10 a11 a12 a13 a14 a15 a16 a17 a18 : Addr} {cd0 cd1 cd2 cd3 cd4 cd5 cd6 cd7 cd8 cd9 cd10 cd11 cd12 cd13 cd14 cd15 cd16 cd17 cd18 : ClassData}
    {nm q : Str} {N : Addr} {bs : List Value} {sn : List Str} {sub : List Value} {ab : Bool} {col : Option Bool} {dd : Option Addr} {m0 m1 m2 m3 m5 : Option Value}
    {odD anD : Option Addr} {slD : Array (Option Value)} {ocD kVD dcD pmD cdvD ctD : Value}
    {odT anT : Option Addr} {slT : Array (Option Value)} {ocT kVT dcT pmT cdvT ctT : Value}
    {odK anK : Option Addr} {slK : Array (Option Value)} {ocK kVK dcK pmK cdvK ctK : Value}
    {odL anL : Option Addr} {slL : Array (Option Value)} {ocL kVL dcL pmL cdvL ctL : Value}
    {odI anI : Option Addr} {slI : Array (Option Value)} {ocI kVI dcI pmI cdvI ctI : Value}
    (ea0 : PySem.W.nsIn K mainGlobals "InvalidHouse" = some (some (.ref a0)))
    (mc0 : PySem.W.clsIn K a0 = some cd0)
    (mq0 : cd0.mro = .ref a0 :: .ref a18 :: veB)
    (md0 : cd0.hasDict = true)
    (ty0 : PySem.W.typeIn K (.ref a0) = some (.type "type"))
    (ga0 : PySem.W.findIn K (.ref a0) "__getattribute__" = some (some (.builtin "BaseException.__getattribute__")))
    (gg0 : PySem.W.findIn K (.ref a0) "__getattr__" = some none)
    (gc0 : PySem.W.findIn K (.ref a0) "__class__" = some (some (.builtin "object.__class__")))
    (kp0 : PySem.W.keepIn K (.ref a0) = true)
    (xe0 : PySem.W.excIn K a0 veB "ValueError.__new__" = true)
    (ea1 : PySem.W.nsIn K mainGlobals "InvalidCondition" = some (some (.ref a1)))
    (mc1 : PySem.W.clsIn K a1 = some cd1)
    (mq1 : cd1.mro = .ref a1 :: .ref a18 :: veB)
    (md1 : cd1.hasDict = true)
    (ty1 : PySem.W.typeIn K (.ref a1) = some (.type "type"))
    (ga1 : PySem.W.findIn K (.ref a1) "__getattribute__" = some (some (.builtin "BaseException.__getattribute__")))
    (gg1 : PySem.W.findIn K (.ref a1) "__getattr__" = some none)
    (gc1 : PySem.W.findIn K (.ref a1) "__class__" = some (some (.builtin "object.__class__")))
    (kp1 : PySem.W.keepIn K (.ref a1) = true)
    (xe1 : PySem.W.excIn K a1 veB "ValueError.__new__" = true)
    (ea2 : PySem.W.nsIn K mainGlobals "InvalidConditions" = some (some (.ref a2)))
    (mc2 : PySem.W.clsIn K a2 = some cd2)
    (mq2 : cd2.mro = .ref a2 :: .ref a18 :: veB)
    (md2 : cd2.hasDict = true)
    (ty2 : PySem.W.typeIn K (.ref a2) = some (.type "type"))
    (ga2 : PySem.W.findIn K (.ref a2) "__getattribute__" = some (some (.builtin "BaseException.__getattribute__")))
    (gg2 : PySem.W.findIn K (.ref a2) "__getattr__" = some none)
    (gc2 : PySem.W.findIn K (.ref a2) "__class__" = some (some (.builtin "object.__class__")))
    (kp2 : PySem.W.keepIn K (.ref a2) = true)
    (xe2 : PySem.W.excIn K a2 veB "ValueError.__new__" = true)
    (ea3 : PySem.W.nsIn K mainGlobals "InvalidRun" = some (some (.ref a3)))
    (mc3 : PySem.W.clsIn K a3 = some cd3)
    (mq3 : cd3.mro = .ref a3 :: .ref a18 :: veB)
    (md3 : cd3.hasDict = true)
    (ty3 : PySem.W.typeIn K (.ref a3) = some (.type "type"))
    (ga3 : PySem.W.findIn K (.ref a3) "__getattribute__" = some (some (.builtin "BaseException.__getattribute__")))
    (gg3 : PySem.W.findIn K (.ref a3) "__getattr__" = some none)
    (gc3 : PySem.W.findIn K (.ref a3) "__class__" = some (some (.builtin "object.__class__")))
    (kp3 : PySem.W.keepIn K (.ref a3) = true)
    (xe3 : PySem.W.excIn K a3 veB "ValueError.__new__" = true)
    (ea4 : PySem.W.nsIn K mainGlobals "InvalidKind" = some (some (.ref a4)))
    (mc4 : PySem.W.clsIn K a4 = some cd4)
    (mq4 : cd4.mro = .ref a4 :: .ref a18 :: veB)
    (md4 : cd4.hasDict = true)
    (ty4 : PySem.W.typeIn K (.ref a4) = some (.type "type"))
    (ga4 : PySem.W.findIn K (.ref a4) "__getattribute__" = some (some (.builtin "BaseException.__getattribute__")))
    (gg4 : PySem.W.findIn K (.ref a4) "__getattr__" = some none)
    (gc4 : PySem.W.findIn K (.ref a4) "__class__" = some (some (.builtin "object.__class__")))
    (kp4 : PySem.W.keepIn K (.ref a4) = true)
    (xe4 : PySem.W.excIn K a4 veB "ValueError.__new__" = true)
    (ea5 : PySem.W.nsIn K mainGlobals "InvalidPlace" = some (some (.ref a5)))
    (mc5 : PySem.W.clsIn K a5 = some cd5)
    (mq5 : cd5.mro = .ref a5 :: .ref a18 :: veB)
    (md5 : cd5.hasDict = true)
    (ty5 : PySem.W.typeIn K (.ref a5) = some (.type "type"))
    (ga5 : PySem.W.findIn K (.ref a5) "__getattribute__" = some (some (.builtin "BaseException.__getattribute__")))
    (gg5 : PySem.W.findIn K (.ref a5) "__getattr__" = some none)
    (gc5 : PySem.W.findIn K (.ref a5) "__class__" = some (some (.builtin "object.__class__")))
    (kp5 : PySem.W.keepIn K (.ref a5) = true)
    (xe5 : PySem.W.excIn K a5 veB "ValueError.__new__" = true)
    (ea6 : PySem.W.nsIn K mainGlobals "InvalidCounter" = some (some (.ref a6)))
    (mc6 : PySem.W.clsIn K a6 = some cd6)
    (mq6 : cd6.mro = .ref a6 :: .ref a18 :: veB)
    (md6 : cd6.hasDict = true)
    (ty6 : PySem.W.typeIn K (.ref a6) = some (.type "type"))
    (ga6 : PySem.W.findIn K (.ref a6) "__getattribute__" = some (some (.builtin "BaseException.__getattribute__")))
    (gg6 : PySem.W.findIn K (.ref a6) "__getattr__" = some none)
    (gc6 : PySem.W.findIn K (.ref a6) "__class__" = some (some (.builtin "object.__class__")))
    (kp6 : PySem.W.keepIn K (.ref a6) = true)
    (xe6 : PySem.W.excIn K a6 veB "ValueError.__new__" = true)
    (ea7 : PySem.W.nsIn K mainGlobals "InvalidMends" = some (some (.ref a7)))
    (mc7 : PySem.W.clsIn K a7 = some cd7)
    (mq7 : cd7.mro = .ref a7 :: .ref a18 :: veB)
    (md7 : cd7.hasDict = true)
    (ty7 : PySem.W.typeIn K (.ref a7) = some (.type "type"))
    (ga7 : PySem.W.findIn K (.ref a7) "__getattribute__" = some (some (.builtin "BaseException.__getattribute__")))
    (gg7 : PySem.W.findIn K (.ref a7) "__getattr__" = some none)
    (gc7 : PySem.W.findIn K (.ref a7) "__class__" = some (some (.builtin "object.__class__")))
    (kp7 : PySem.W.keepIn K (.ref a7) = true)
    (xe7 : PySem.W.excIn K a7 veB "ValueError.__new__" = true)
    (ea8 : PySem.W.nsIn K mainGlobals "InvalidWork" = some (some (.ref a8)))
    (mc8 : PySem.W.clsIn K a8 = some cd8)
    (mq8 : cd8.mro = .ref a8 :: .ref a18 :: veB)
    (md8 : cd8.hasDict = true)
    (ty8 : PySem.W.typeIn K (.ref a8) = some (.type "type"))
    (ga8 : PySem.W.findIn K (.ref a8) "__getattribute__" = some (some (.builtin "BaseException.__getattribute__")))
    (gg8 : PySem.W.findIn K (.ref a8) "__getattr__" = some none)
    (gc8 : PySem.W.findIn K (.ref a8) "__class__" = some (some (.builtin "object.__class__")))
    (kp8 : PySem.W.keepIn K (.ref a8) = true)
    (xe8 : PySem.W.excIn K a8 veB "ValueError.__new__" = true)
    (ea9 : PySem.W.nsIn K mainGlobals "InvalidStep" = some (some (.ref a9)))
    (mc9 : PySem.W.clsIn K a9 = some cd9)
    (mq9 : cd9.mro = .ref a9 :: .ref a18 :: veB)
    (md9 : cd9.hasDict = true)
    (ty9 : PySem.W.typeIn K (.ref a9) = some (.type "type"))
    (ga9 : PySem.W.findIn K (.ref a9) "__getattribute__" = some (some (.builtin "BaseException.__getattribute__")))
    (gg9 : PySem.W.findIn K (.ref a9) "__getattr__" = some none)
    (gc9 : PySem.W.findIn K (.ref a9) "__class__" = some (some (.builtin "object.__class__")))
    (kp9 : PySem.W.keepIn K (.ref a9) = true)
    (xe9 : PySem.W.excIn K a9 veB "ValueError.__new__" = true)
    (ea10 : PySem.W.nsIn K mainGlobals "InvalidEvents" = some (some (.ref a10)))
    (mc10 : PySem.W.clsIn K a10 = some cd10)
    (mq10 : cd10.mro = .ref a10 :: .ref a18 :: veB)
    (md10 : cd10.hasDict = true)
    (ty10 : PySem.W.typeIn K (.ref a10) = some (.type "type"))
    (ga10 : PySem.W.findIn K (.ref a10) "__getattribute__" = some (some (.builtin "BaseException.__getattribute__")))
    (gg10 : PySem.W.findIn K (.ref a10) "__getattr__" = some none)
    (gc10 : PySem.W.findIn K (.ref a10) "__class__" = some (some (.builtin "object.__class__")))
    (kp10 : PySem.W.keepIn K (.ref a10) = true)
    (xe10 : PySem.W.excIn K a10 veB "ValueError.__new__" = true)
    (ea11 : PySem.W.nsIn K mainGlobals "InvalidNumber" = some (some (.ref a11)))
    (mc11 : PySem.W.clsIn K a11 = some cd11)
    (mq11 : cd11.mro = .ref a11 :: .ref a18 :: veB)
    (md11 : cd11.hasDict = true)
    (ty11 : PySem.W.typeIn K (.ref a11) = some (.type "type"))
    (ga11 : PySem.W.findIn K (.ref a11) "__getattribute__" = some (some (.builtin "BaseException.__getattribute__")))
    (gg11 : PySem.W.findIn K (.ref a11) "__getattr__" = some none)
    (gc11 : PySem.W.findIn K (.ref a11) "__class__" = some (some (.builtin "object.__class__")))
    (kp11 : PySem.W.keepIn K (.ref a11) = true)
    (xe11 : PySem.W.excIn K a11 veB "ValueError.__new__" = true)
    (ea12 : PySem.W.nsIn K mainGlobals "Crowded" = some (some (.ref a12)))
    (mc12 : PySem.W.clsIn K a12 = some cd12)
    (mq12 : cd12.mro = .ref a12 :: .ref a18 :: veB)
    (md12 : cd12.hasDict = true)
    (ty12 : PySem.W.typeIn K (.ref a12) = some (.type "type"))
    (ga12 : PySem.W.findIn K (.ref a12) "__getattribute__" = some (some (.builtin "BaseException.__getattribute__")))
    (gg12 : PySem.W.findIn K (.ref a12) "__getattr__" = some none)
    (gc12 : PySem.W.findIn K (.ref a12) "__class__" = some (some (.builtin "object.__class__")))
    (kp12 : PySem.W.keepIn K (.ref a12) = true)
    (xe12 : PySem.W.excIn K a12 veB "ValueError.__new__" = true)
    (ea13 : PySem.W.nsIn K mainGlobals "OtherHouse" = some (some (.ref a13)))
    (mc13 : PySem.W.clsIn K a13 = some cd13)
    (mq13 : cd13.mro = .ref a13 :: .ref a18 :: veB)
    (md13 : cd13.hasDict = true)
    (ty13 : PySem.W.typeIn K (.ref a13) = some (.type "type"))
    (ga13 : PySem.W.findIn K (.ref a13) "__getattribute__" = some (some (.builtin "BaseException.__getattribute__")))
    (gg13 : PySem.W.findIn K (.ref a13) "__getattr__" = some none)
    (gc13 : PySem.W.findIn K (.ref a13) "__class__" = some (some (.builtin "object.__class__")))
    (kp13 : PySem.W.keepIn K (.ref a13) = true)
    (xe13 : PySem.W.excIn K a13 veB "ValueError.__new__" = true)
    (ea14 : PySem.W.nsIn K mainGlobals "Full" = some (some (.ref a14)))
    (mc14 : PySem.W.clsIn K a14 = some cd14)
    (mq14 : cd14.mro = .ref a14 :: .ref a18 :: veB)
    (md14 : cd14.hasDict = true)
    (ty14 : PySem.W.typeIn K (.ref a14) = some (.type "type"))
    (ga14 : PySem.W.findIn K (.ref a14) "__getattribute__" = some (some (.builtin "BaseException.__getattribute__")))
    (gg14 : PySem.W.findIn K (.ref a14) "__getattr__" = some none)
    (gc14 : PySem.W.findIn K (.ref a14) "__class__" = some (some (.builtin "object.__class__")))
    (kp14 : PySem.W.keepIn K (.ref a14) = true)
    (xe14 : PySem.W.excIn K a14 veB "ValueError.__new__" = true)
    (ea15 : PySem.W.nsIn K mainGlobals "NothingToUndo" = some (some (.ref a15)))
    (mc15 : PySem.W.clsIn K a15 = some cd15)
    (mq15 : cd15.mro = .ref a15 :: .ref a18 :: veB)
    (md15 : cd15.hasDict = true)
    (ty15 : PySem.W.typeIn K (.ref a15) = some (.type "type"))
    (ga15 : PySem.W.findIn K (.ref a15) "__getattribute__" = some (some (.builtin "BaseException.__getattribute__")))
    (gg15 : PySem.W.findIn K (.ref a15) "__getattr__" = some none)
    (gc15 : PySem.W.findIn K (.ref a15) "__class__" = some (some (.builtin "object.__class__")))
    (kp15 : PySem.W.keepIn K (.ref a15) = true)
    (xe15 : PySem.W.excIn K a15 veB "ValueError.__new__" = true)
    (ea16 : PySem.W.nsIn K mainGlobals "InvalidCommand" = some (some (.ref a16)))
    (mc16 : PySem.W.clsIn K a16 = some cd16)
    (mq16 : cd16.mro = .ref a16 :: .ref a18 :: veB)
    (md16 : cd16.hasDict = true)
    (ty16 : PySem.W.typeIn K (.ref a16) = some (.type "type"))
    (ga16 : PySem.W.findIn K (.ref a16) "__getattribute__" = some (some (.builtin "BaseException.__getattribute__")))
    (gg16 : PySem.W.findIn K (.ref a16) "__getattr__" = some none)
    (gc16 : PySem.W.findIn K (.ref a16) "__class__" = some (some (.builtin "object.__class__")))
    (kp16 : PySem.W.keepIn K (.ref a16) = true)
    (xe16 : PySem.W.excIn K a16 veB "ValueError.__new__" = true)
    (ea17 : PySem.W.nsIn K mainGlobals "InvalidText" = some (some (.ref a17)))
    (mc17 : PySem.W.clsIn K a17 = some cd17)
    (mq17 : cd17.mro = .ref a17 :: .ref a18 :: veB)
    (md17 : cd17.hasDict = true)
    (ty17 : PySem.W.typeIn K (.ref a17) = some (.type "type"))
    (ga17 : PySem.W.findIn K (.ref a17) "__getattribute__" = some (some (.builtin "BaseException.__getattribute__")))
    (gg17 : PySem.W.findIn K (.ref a17) "__getattr__" = some none)
    (gc17 : PySem.W.findIn K (.ref a17) "__class__" = some (some (.builtin "object.__class__")))
    (kp17 : PySem.W.keepIn K (.ref a17) = true)
    (ea18 : PySem.W.nsIn K mainGlobals "SignError" = some (some (.ref a18)))
    (mc18 : PySem.W.clsIn K a18 = some cd18)
    (mq18 : cd18.mro = .ref a18 :: veB)
    (md18 : cd18.hasDict = true)
    (ty18 : PySem.W.typeIn K (.ref a18) = some (.type "type"))
    (ga18 : PySem.W.findIn K (.ref a18) "__getattribute__" = some (some (.builtin "BaseException.__getattribute__")))
    (gg18 : PySem.W.findIn K (.ref a18) "__getattr__" = some none)
    (gc18 : PySem.W.findIn K (.ref a18) "__class__" = some (some (.builtin "object.__class__")))
    (kp18 : PySem.W.keepIn K (.ref a18) = true)
    (xe18 : PySem.W.excIn K a18 veB "ValueError.__new__" = true)
    (dist : (List.range 19).all (fun j => (List.range 18).all fun i => ((fun j => [a0, a1, a2, a3, a4, a5, a6, a7, a8, a9, a10, a11, a12, a13, a14, a15, a16, a17, a18].getD j 0) j == (fun j => [a0, a1, a2, a3, a4, a5, a6, a7, a8, a9, a10, a11, a12, a13, a14, a15, a16, a17, a18].getD j 0) i) == decide (j = i)) = true)
    (xL : K.lookup a17 = some (excClassObj nm q a17 N bs (.ref a18 :: veB) true sn sub ab col dd m0 m1 m2 m3 m5 "ValueError.__new__"))
    (sa : PySem.W.findIn K (.ref a17) "__setattr__" = some (some (.builtin "object.__setattr__")))
    (nP : PySem.W.findIn K (.ref a17) "place" = some none)
    (rS : PySem.W.readsIn K a18 (.type "type") = true)
    (fS : PySem.W.findCls K (.ref a18) (.type "type") "__init__" = some (.val (.builtin "ValueError.__init__")))
    (gS : PySem.W.specialIn K (.ref a18) "__getattribute__" = some (some (.builtin "type.__getattribute__")))
    (hn : PySem.W.specialIn K (.builtin "object.__class__") "__get__" = some (some (.builtin "getset_descriptor.__get__")))
    (ht : PySem.W.takesIn K (.builtin "object.__class__") = some true)
    (iC : PySem.W.findIn K (.ref a17) "__init__" = some (some (.ref fI)))
    (tI : PySem.W.typeIn K (.ref fI) = some (.type "function"))
    (lI : K.lookup fI = some ⟨ocI, odI, .func (PySem.W.fnOf "__init__" "InvalidText.__init__" (defArgs s_init) (defBody s_init) (defScope s_init) .none kVI dcI pmI anI cdvI ctI), slI⟩)
    (cI : PySem.W.codeIn K cdvI "InvalidText.__init__" = true)
    (kI : PySem.W.keepIn K (.ref fI) = true)
    (eD : PySem.W.nsIn K mainGlobals "_law_deck" = some (some (.ref fD)))
    (lD : K.lookup fD = some ⟨ocD, odD, .func (PySem.W.fnOf "_law_deck" "_law_deck" (defArgs s_law_deck) (defBody s_law_deck) (defScope s_law_deck) .none kVD dcD pmD anD cdvD ctD), slD⟩)
    (cD : PySem.W.codeIn K cdvD "_law_deck" = true)
    (kD : PySem.W.keepIn K (.ref fD) = true)
    (eT : PySem.W.nsIn K mainGlobals "_law_take" = some (some (.ref fT)))
    (lT : K.lookup fT = some ⟨ocT, odT, .func (PySem.W.fnOf "_law_take" "_law_take" (defArgs s_law_take) (defBody s_law_take) (defScope s_law_take) .none kVT dcT pmT anT cdvT ctT), slT⟩)
    (cT : PySem.W.codeIn K cdvT "_law_take" = true)
    (kT : PySem.W.keepIn K (.ref fT) = true)
    (eK : PySem.W.nsIn K mainGlobals "_law_kinds" = some (some (.ref fK)))
    (lK : K.lookup fK = some ⟨ocK, odK, .func (PySem.W.fnOf "_law_kinds" "_law_kinds" (defArgs s_kinds) (defBody s_kinds) (defScope s_kinds) .none kVK dcK pmK anK cdvK ctK), slK⟩)
    (cK : PySem.W.codeIn K cdvK "_law_kinds" = true)
    (kK : PySem.W.keepIn K (.ref fK) = true)
    (eL : PySem.W.nsIn K mainGlobals "law" = some (some (.ref fL)))
    (lL : K.lookup fL = some ⟨ocL, odL, .func (PySem.W.fnOf "law" "law" (defArgs s_law) (defBody s_law) (defScope s_law) .none kVL dcL pmL anL cdvL ctL), slL⟩)
    (cL : PySem.W.codeIn K cdvL "law" = true)
    (kL : PySem.W.keepIn K (.ref fL) = true)
    (z_int : PySem.W.nsIn K mainGlobals "int" = some none)
    (z_abs : PySem.W.nsIn K mainGlobals "abs" = some none)
    (z_len : PySem.W.nsIn K mainGlobals "len" = some none)
    (z_isinstance : PySem.W.nsIn K mainGlobals "isinstance" = some none)
    (z_range : PySem.W.nsIn K mainGlobals "range" = some none)
    (z_ValueError : PySem.W.nsIn K mainGlobals "ValueError" = some none)
    (z_repr : PySem.W.nsIn K mainGlobals "repr" = some none)
    (z_str : PySem.W.nsIn K mainGlobals "str" = some none) :
    ∃ fd : FuncData, (∀ (s : Shared) (v : Value), BindsTo s fd ⟨[v], []⟩ [("script", v)]) ∧ ∀ base : Heap, K.In base → base.Ns mainGlobals mg → FnG l.prog w K mg base CX0 3 fa fd ["script"] (spLaw K) := by
  have e := hfa.symm.trans (PySem.W.mg_of X G eL)
  cases e
  have cl : ∀ j, j < 19 → ∃ cd, Cl K ((fun j => [a0, a1, a2, a3, a4, a5, a6, a7, a8, a9, a10, a11, a12, a13, a14, a15, a16, a17, a18].getD j 0) j) a18 cd := fun j hj =>
    match j, hj with
    | 0, _ => ⟨cd0, mc0, .inl mq0, md0, ty0, ga0, gg0, gc0⟩
    | 1, _ => ⟨cd1, mc1, .inl mq1, md1, ty1, ga1, gg1, gc1⟩
    | 2, _ => ⟨cd2, mc2, .inl mq2, md2, ty2, ga2, gg2, gc2⟩
    | 3, _ => ⟨cd3, mc3, .inl mq3, md3, ty3, ga3, gg3, gc3⟩
    | 4, _ => ⟨cd4, mc4, .inl mq4, md4, ty4, ga4, gg4, gc4⟩
    | 5, _ => ⟨cd5, mc5, .inl mq5, md5, ty5, ga5, gg5, gc5⟩
    | 6, _ => ⟨cd6, mc6, .inl mq6, md6, ty6, ga6, gg6, gc6⟩
    | 7, _ => ⟨cd7, mc7, .inl mq7, md7, ty7, ga7, gg7, gc7⟩
    | 8, _ => ⟨cd8, mc8, .inl mq8, md8, ty8, ga8, gg8, gc8⟩
    | 9, _ => ⟨cd9, mc9, .inl mq9, md9, ty9, ga9, gg9, gc9⟩
    | 10, _ => ⟨cd10, mc10, .inl mq10, md10, ty10, ga10, gg10, gc10⟩
    | 11, _ => ⟨cd11, mc11, .inl mq11, md11, ty11, ga11, gg11, gc11⟩
    | 12, _ => ⟨cd12, mc12, .inl mq12, md12, ty12, ga12, gg12, gc12⟩
    | 13, _ => ⟨cd13, mc13, .inl mq13, md13, ty13, ga13, gg13, gc13⟩
    | 14, _ => ⟨cd14, mc14, .inl mq14, md14, ty14, ga14, gg14, gc14⟩
    | 15, _ => ⟨cd15, mc15, .inl mq15, md15, ty15, ga15, gg15, gc15⟩
    | 16, _ => ⟨cd16, mc16, .inl mq16, md16, ty16, ga16, gg16, gc16⟩
    | 17, _ => ⟨cd17, mc17, .inl mq17, md17, ty17, ga17, gg17, gc17⟩
    | 18, _ => ⟨cd18, mc18, .inr ⟨mq18, rfl⟩, md18, ty18, ga18, gg18, gc18⟩
    | n + 19, h => absurd h (by omega)
  have ds : ∀ j i, j < 19 → i < 18 → ((fun j => [a0, a1, a2, a3, a4, a5, a6, a7, a8, a9, a10, a11, a12, a13, a14, a15, a16, a17, a18].getD j 0) j = (fun j => [a0, a1, a2, a3, a4, a5, a6, a7, a8, a9, a10, a11, a12, a13, a14, a15, a16, a17, a18].getD j 0) i ↔ j = i) := fun j i hj hi => by
    have z := List.all_eq_true.mp (List.all_eq_true.mp dist j (List.mem_range.mpr hj)) i (List.mem_range.mpr hi)
    have z2 := beq_iff_eq.mp z
    constructor
    · intro e
      rw [e, beq_self_eq_true] at z2
      exact of_decide_eq_true z2.symm
    · rintro rfl
      rfl
  have T : T7 K mg (fun j => [a0, a1, a2, a3, a4, a5, a6, a7, a8, a9, a10, a11, a12, a13, a14, a15, a16, a17, a18].getD j 0) := {
    n_int := PySem.W.mg_none_of X G z_int
    n_abs := PySem.W.mg_none_of X G z_abs
    n_len := PySem.W.mg_none_of X G z_len
    n_isinstance := PySem.W.mg_none_of X G z_isinstance
    n_range := PySem.W.mg_none_of X G z_range
    n_ValueError := PySem.W.mg_none_of X G z_ValueError
    n_repr := PySem.W.mg_none_of X G z_repr
    n_str := PySem.W.mg_none_of X G z_str
    g0 := PySem.W.mg_of X G ea0
    x0 := xe0
    k0 := kp0
    g1 := PySem.W.mg_of X G ea1
    x1 := xe1
    k1 := kp1
    g2 := PySem.W.mg_of X G ea2
    x2 := xe2
    k2 := kp2
    g3 := PySem.W.mg_of X G ea3
    x3 := xe3
    k3 := kp3
    g4 := PySem.W.mg_of X G ea4
    x4 := xe4
    k4 := kp4
    g5 := PySem.W.mg_of X G ea5
    x5 := xe5
    k5 := kp5
    g6 := PySem.W.mg_of X G ea6
    x6 := xe6
    k6 := kp6
    g7 := PySem.W.mg_of X G ea7
    x7 := xe7
    k7 := kp7
    g8 := PySem.W.mg_of X G ea8
    x8 := xe8
    k8 := kp8
    g9 := PySem.W.mg_of X G ea9
    x9 := xe9
    k9 := kp9
    g10 := PySem.W.mg_of X G ea10
    x10 := xe10
    k10 := kp10
    g11 := PySem.W.mg_of X G ea11
    x11 := xe11
    k11 := kp11
    g12 := PySem.W.mg_of X G ea12
    x12 := xe12
    k12 := kp12
    g13 := PySem.W.mg_of X G ea13
    x13 := xe13
    k13 := kp13
    g14 := PySem.W.mg_of X G ea14
    x14 := xe14
    k14 := kp14
    g15 := PySem.W.mg_of X G ea15
    x15 := xe15
    k15 := kp15
    g16 := PySem.W.mg_of X G ea16
    x16 := xe16
    k16 := kp16
    g17 := PySem.W.mg_of X G ea17
    g18 := PySem.W.mg_of X G ea18
    x18 := xe18
    k18 := kp18
    exc := fun j hj => by
      obtain ⟨cd, C⟩ := cl j hj
      exact C.exc hn ht
    kit := fun j i hj hi => by
      obtain ⟨cd, C⟩ := cl j hj
      obtain ⟨cd', C'⟩ := cl i (by omega)
      by_cases e : j = i
      · rw [decide_eq_true e]
        exact kit_self (by rw [e])
      · rw [decide_eq_false e]
        exact C.off C' (fun z => e ((ds j i hj hi).mp z)) (fun z => absurd ((ds 18 i (by decide) hi).mp z) (by omega))
    kitS := fun j hj => by
      obtain ⟨cd, C⟩ := cl j hj
      obtain ⟨cd', C'⟩ := cl 18 (by decide)
      exact C.onS C'
    kitV := fun j hj => by
      obtain ⟨cd, C⟩ := cl j hj
      exact C.onV
    oex := by
      obtain ⟨cd, C⟩ := cl 17 (by decide)
      exact ⟨⟨nm, q, N, bs, _, sn, sub, ab, col, dd, m0, m1, m2, m3, m5, xL, (by show PySem.HandSPX.refsVE veB = true; decide +kernel)⟩, sa, C.sub "BaseException" (by decide +kernel), C.ty, kp17⟩
    xf := by
      obtain ⟨cd, C⟩ := cl 17 (by decide)
      exact ⟨C.ga, C.gg, C.sub "BaseException" (by decide +kernel), C.hdI⟩
    noP := nP
    rS := rS
    fS := fS
    gS := gS }
  have FD := fun_mk (st := s_law_deck) lD cD kD
  have FT := fun_mk (st := s_law_take) lT cT kT
  have FK := fun_mk (st := s_kinds) lK cK kK
  have FL := fun_mk (st := s_law) lL cL kL
  have FI := fun_mk (st := s_init) lI cI kI
  have BD := FD.binds (ps := ["script"]) fun _ _ _ _ _ _ us hl => match us, hl with | [_], _ => rfl
  have BT := FT.binds (ps := ["deck", "wide"]) fun _ _ _ _ _ _ us hl => match us, hl with | [_, _], _ => rfl
  have BK := FK.binds (ps := ["e"]) fun _ _ _ _ _ _ us hl => match us, hl with | [_], _ => rfl
  have BI := FI.binds (ps := ["self", "place"]) fun _ _ _ _ _ _ us hl => match us, hl with | [_, _], _ => rfl
  exact ⟨PySem.W.fnOf "law" "law" (defArgs s_law) (defBody s_law) (defScope s_law) .none kVL dcL pmL anL cdvL ctL, fun s v => .of_eq rfl, fun base _ _ => ok_law FL FD FT FK FI BD BT BK BI (fun s u w => .of_eq rfl) (PySem.W.mg_of X G eD) (PySem.W.mg_of X G eT) (PySem.W.mg_of X G eK) T iC tI⟩
end Kw
open PySem PySem.W PyProof.Rows
set_option maxHeartbeats 0 in
theorem PySem.Challenge.cw_whilebusy_k07_errors_made_holds : PySem.Challenge.rw_whilebusy_k07_errors_made.Holds := by
  w_on; o_law; k_head; (case hw => w_witness2)
  k_fill
  refine Kw.walk_ofG (l := PySem.Challenge.rw_whilebusy_k07_errors_made) (n := 63) (k := 3) (x := "script") (CX := fun _ => L2.CX0) (sp := fun w => Kw.spLaw _) rfl (by decide) rfl ⟨rfl, by decide, by decide⟩ (fun w h Y => PySem.W.kIn_of Y) ?F (fun _ _ a ns hl _ hS => ⟨a, ns, rfl, hS, hl, fun _ => rfl⟩) (fun _ _ _ _ _ h => h)
  case F =>
    intro w mg fa h KX G hmg
    refine' Kw.all_mk KX G hmg ?ea0 ?mc0 ?mq0 ?md0 ?ty0 ?ga0 ?gg0 ?gc0 ?kp0 ?xe0 ?ea1 ?mc1 ?mq1 ?md1 ?ty1 ?ga1 ?gg1 ?gc1 ?kp1 ?xe1 ?ea2 ?mc2 ?mq2 ?md2 ?ty2 ?ga2 ?gg2 ?gc2 ?kp2 ?xe2 ?ea3 ?mc3 ?mq3 ?md3 ?ty3 ?ga3 ?gg3 ?gc3 ?kp3 ?xe3 ?ea4 ?mc4 ?mq4 ?md4 ?ty4 ?ga4 ?gg4 ?gc4 ?kp4 ?xe4 ?ea5 ?mc5 ?mq5 ?md5 ?ty5 ?ga5 ?gg5 ?gc5 ?kp5 ?xe5 ?ea6 ?mc6 ?mq6 ?md6 ?ty6 ?ga6 ?gg6 ?gc6 ?kp6 ?xe6 ?ea7 ?mc7 ?mq7 ?md7 ?ty7 ?ga7 ?gg7 ?gc7 ?kp7 ?xe7 ?ea8 ?mc8 ?mq8 ?md8 ?ty8 ?ga8 ?gg8 ?gc8 ?kp8 ?xe8 ?ea9 ?mc9 ?mq9 ?md9 ?ty9 ?ga9 ?gg9 ?gc9 ?kp9 ?xe9 ?ea10 ?mc10 ?mq10 ?md10 ?ty10 ?ga10 ?gg10 ?gc10 ?kp10 ?xe10 ?ea11 ?mc11 ?mq11 ?md11 ?ty11 ?ga11 ?gg11 ?gc11 ?kp11 ?xe11 ?ea12 ?mc12 ?mq12 ?md12 ?ty12 ?ga12 ?gg12 ?gc12 ?kp12 ?xe12 ?ea13 ?mc13 ?mq13 ?md13 ?ty13 ?ga13 ?gg13 ?gc13 ?kp13 ?xe13 ?ea14 ?mc14 ?mq14 ?md14 ?ty14 ?ga14 ?gg14 ?gc14 ?kp14 ?xe14 ?ea15 ?mc15 ?mq15 ?md15 ?ty15 ?ga15 ?gg15 ?gc15 ?kp15 ?xe15 ?ea16 ?mc16 ?mq16 ?md16 ?ty16 ?ga16 ?gg16 ?gc16 ?kp16 ?xe16 ?ea17 ?mc17 ?mq17 ?md17 ?ty17 ?ga17 ?gg17 ?gc17 ?kp17 ?ea18 ?mc18 ?mq18 ?md18 ?ty18 ?ga18 ?gg18 ?gc18 ?kp18 ?xe18 ?dist ?xL ?sa ?nP ?rS ?fS ?gS ?hn ?ht ?iC ?tI ?lI ?cI ?kI ?eD ?lD ?cD ?kD ?eT ?lT ?cT ?kT ?eK ?lK ?cK ?kK ?eL ?lL ?cL ?kL ?z_int ?z_abs ?z_len ?z_isinstance ?z_range ?z_ValueError ?z_repr ?z_str
    (case ea0 => k_is)
    (case mc0 => k_is)
    (case mq0 => rfl)
    (case md0 => rfl)
    (case ty0 => k_is)
    (case ga0 => k_is)
    (case gg0 => k_is)
    (case gc0 => k_is)
    (case kp0 => k_is)
    (case xe0 => k_exc)
    (case ea1 => k_is)
    (case mc1 => k_is)
    (case mq1 => rfl)
    (case md1 => rfl)
    (case ty1 => k_is)
    (case ga1 => k_is)
    (case gg1 => k_is)
    (case gc1 => k_is)
    (case kp1 => k_is)
    (case xe1 => k_exc)
    (case ea2 => k_is)
    (case mc2 => k_is)
    (case mq2 => rfl)
    (case md2 => rfl)
    (case ty2 => k_is)
    (case ga2 => k_is)
    (case gg2 => k_is)
    (case gc2 => k_is)
    (case kp2 => k_is)
    (case xe2 => k_exc)
    (case ea3 => k_is)
    (case mc3 => k_is)
    (case mq3 => rfl)
    (case md3 => rfl)
    (case ty3 => k_is)
    (case ga3 => k_is)
    (case gg3 => k_is)
    (case gc3 => k_is)
    (case kp3 => k_is)
    (case xe3 => k_exc)
    (case ea4 => k_is)
    (case mc4 => k_is)
    (case mq4 => rfl)
    (case md4 => rfl)
    (case ty4 => k_is)
    (case ga4 => k_is)
    (case gg4 => k_is)
    (case gc4 => k_is)
    (case kp4 => k_is)
    (case xe4 => k_exc)
    (case ea5 => k_is)
    (case mc5 => k_is)
    (case mq5 => rfl)
    (case md5 => rfl)
    (case ty5 => k_is)
    (case ga5 => k_is)
    (case gg5 => k_is)
    (case gc5 => k_is)
    (case kp5 => k_is)
    (case xe5 => k_exc)
    (case ea6 => k_is)
    (case mc6 => k_is)
    (case mq6 => rfl)
    (case md6 => rfl)
    (case ty6 => k_is)
    (case ga6 => k_is)
    (case gg6 => k_is)
    (case gc6 => k_is)
    (case kp6 => k_is)
    (case xe6 => k_exc)
    (case ea7 => k_is)
    (case mc7 => k_is)
    (case mq7 => rfl)
    (case md7 => rfl)
    (case ty7 => k_is)
    (case ga7 => k_is)
    (case gg7 => k_is)
    (case gc7 => k_is)
    (case kp7 => k_is)
    (case xe7 => k_exc)
    (case ea8 => k_is)
    (case mc8 => k_is)
    (case mq8 => rfl)
    (case md8 => rfl)
    (case ty8 => k_is)
    (case ga8 => k_is)
    (case gg8 => k_is)
    (case gc8 => k_is)
    (case kp8 => k_is)
    (case xe8 => k_exc)
    (case ea9 => k_is)
    (case mc9 => k_is)
    (case mq9 => rfl)
    (case md9 => rfl)
    (case ty9 => k_is)
    (case ga9 => k_is)
    (case gg9 => k_is)
    (case gc9 => k_is)
    (case kp9 => k_is)
    (case xe9 => k_exc)
    (case ea10 => k_is)
    (case mc10 => k_is)
    (case mq10 => rfl)
    (case md10 => rfl)
    (case ty10 => k_is)
    (case ga10 => k_is)
    (case gg10 => k_is)
    (case gc10 => k_is)
    (case kp10 => k_is)
    (case xe10 => k_exc)
    (case ea11 => k_is)
    (case mc11 => k_is)
    (case mq11 => rfl)
    (case md11 => rfl)
    (case ty11 => k_is)
    (case ga11 => k_is)
    (case gg11 => k_is)
    (case gc11 => k_is)
    (case kp11 => k_is)
    (case xe11 => k_exc)
    (case ea12 => k_is)
    (case mc12 => k_is)
    (case mq12 => rfl)
    (case md12 => rfl)
    (case ty12 => k_is)
    (case ga12 => k_is)
    (case gg12 => k_is)
    (case gc12 => k_is)
    (case kp12 => k_is)
    (case xe12 => k_exc)
    (case ea13 => k_is)
    (case mc13 => k_is)
    (case mq13 => rfl)
    (case md13 => rfl)
    (case ty13 => k_is)
    (case ga13 => k_is)
    (case gg13 => k_is)
    (case gc13 => k_is)
    (case kp13 => k_is)
    (case xe13 => k_exc)
    (case ea14 => k_is)
    (case mc14 => k_is)
    (case mq14 => rfl)
    (case md14 => rfl)
    (case ty14 => k_is)
    (case ga14 => k_is)
    (case gg14 => k_is)
    (case gc14 => k_is)
    (case kp14 => k_is)
    (case xe14 => k_exc)
    (case ea15 => k_is)
    (case mc15 => k_is)
    (case mq15 => rfl)
    (case md15 => rfl)
    (case ty15 => k_is)
    (case ga15 => k_is)
    (case gg15 => k_is)
    (case gc15 => k_is)
    (case kp15 => k_is)
    (case xe15 => k_exc)
    (case ea16 => k_is)
    (case mc16 => k_is)
    (case mq16 => rfl)
    (case md16 => rfl)
    (case ty16 => k_is)
    (case ga16 => k_is)
    (case gg16 => k_is)
    (case gc16 => k_is)
    (case kp16 => k_is)
    (case xe16 => k_exc)
    (case ea17 => k_is)
    (case mc17 => k_is)
    (case mq17 => rfl)
    (case md17 => rfl)
    (case ty17 => k_is)
    (case ga17 => k_is)
    (case gg17 => k_is)
    (case gc17 => k_is)
    (case kp17 => k_is)
    (case ea18 => k_is)
    (case mc18 => k_is)
    (case mq18 => rfl)
    (case md18 => rfl)
    (case ty18 => k_is)
    (case ga18 => k_is)
    (case gg18 => k_is)
    (case gc18 => k_is)
    (case kp18 => k_is)
    (case xe18 => k_exc)
    (case dist => decide +kernel)
    (case xL => k_is)
    (case sa => k_is)
    (case nP => k_is)
    (case rS => k_is)
    (case fS => k_is)
    (case gS => k_is)
    (case hn => k_is)
    (case ht => k_is)
    (case iC => k_is)
    (case tI => k_is)
    (case lI => k_is)
    (case cI => k_is)
    (case kI => k_is)
    (case eD => k_is)
    (case lD => k_is)
    (case cD => k_is)
    (case kD => k_is)
    (case eT => k_is)
    (case lT => k_is)
    (case cT => k_is)
    (case kT => k_is)
    (case eK => k_is)
    (case lK => k_is)
    (case cK => k_is)
    (case kK => k_is)
    (case eL => k_is)
    (case lL => k_is)
    (case cL => k_is)
    (case kL => k_is)
    (case z_int => k_is)
    (case z_abs => k_is)
    (case z_len => k_is)
    (case z_isinstance => k_is)
    (case z_range => k_is)
    (case z_ValueError => k_is)
    (case z_repr => k_is)
    (case z_str => k_is)
