import PyProof.Rows.All
import Wide.All
import OpenK.AllK
import Wide.FinOn
import KE.KExcInit
import KE.KExcIs
import PyProof.Rows.StrIntSpec
import PyProof.ListStr
import PyProof.EqAt
import PyProof.StrOps2
import PyProof.EqKinds
import PyProof.FactsAll.dict
import KE.KExcLine
import KE.RegKIsAll
import KE.RegKTryMore
import KE.KEqNest
import HandS.ForMost
import HandS.Evl
import HandS.IsInst
import HandS.DictComp
import HandS.SetKeys
import HandS.Strs
import HandS.Wide
import HandS.Walk
import HandS.Conv
import HandS.More
import HandS.TupAny
import HandS.Rev
import HandS.SetBool
import HandS.Exc
import HandS.ExcInit
import HandS.ExcField
import HandS.CallSlots
import HandS.WordsExc
import HandS.RevTup
import HandS.TupLe
import HandS.FStr
import HandS.Deep
import PySem.Challenge.RW_statestay_k81_deeds_at_the_row_limit
set_option Elab.async false
set_option linter.all false
set_option maxRecDepth 100000
set_option maxHeartbeats 3100000
/-! Sets of texts of any size: set(xs) of a list or a tuple, and their length. -/
namespace Ssb
open PySem PySem.Spec PyProof.Rows L2

/-- acc and, behind it, what of the list was not met before -/
def met : List Str → List Str → List Str
  | acc, [] => acc
  | acc, x :: r => met (if x ∈ acc then acc else acc ++ [x]) r
theorem met_len : ∀ (l acc : List Str), (met acc l).length ≤ acc.length + l.length
  | [], acc => Nat.le_refl _
  | x :: r, acc => by
    have h := met_len r (if x ∈ acc then acc else acc ++ [x])
    show (met (if x ∈ acc then acc else acc ++ [x]) r).length ≤ acc.length + (r.length + 1)
    refine Nat.le_trans h ?_
    by_cases hx : x ∈ acc
    · rw [if_pos hx]; omega
    · rw [if_neg hx, List.length_append, List.length_singleton]; omega
theorem met_nodup : ∀ (l acc : List Str), (acc ++ l).Nodup → met acc l = acc ++ l
  | [], acc, _ => by rw [List.append_nil]; rfl
  | x :: r, acc, h => by
    have hx : ¬ x ∈ acc := fun hm => by
      have := (List.nodup_append.mp h).2.2 x hm x List.mem_cons_self
      exact this rfl
    show met (if x ∈ acc then acc else acc ++ [x]) r = acc ++ x :: r
    rw [if_neg hx, met_nodup r (acc ++ [x]) (by rw [List.append_assoc]; exact h), List.append_assoc]
    rfl
theorem met_in (acc : List Str) (x k : Str) : (decide (k ∈ acc) || decide (k = x)) = decide (k ∈ (if x ∈ acc then acc else acc ++ [x])) := by
  by_cases hx : x ∈ acc
  · rw [if_pos hx]
    by_cases e : k = x
    · rw [e, decide_eq_true hx]; rfl
    · rw [decide_eq_false e, Bool.or_false]
  · rw [if_neg hx]
    by_cases e : k = x
    · rw [e, decide_eq_true rfl, Bool.or_true, decide_eq_true (List.mem_append_right _ List.mem_cons_self)]
    · by_cases h2 : k ∈ acc
      · rw [decide_eq_true h2, decide_eq_true (List.mem_append_left _ h2)]; rfl
      · rw [decide_eq_false h2, decide_eq_false e, decide_eq_false]; rfl
        intro z
        rcases List.mem_append.mp z with z | z
        · exact h2 z
        · exact e (List.mem_singleton.mp z)
theorem met_size (acc : List Str) (x : Str) : (if decide (x ∈ acc) = true then acc.length else acc.length + 1) = (if x ∈ acc then acc else acc ++ [x]).length := by
  by_cases hx : x ∈ acc
  · rw [if_pos hx, decide_eq_true hx, if_pos rfl]
  · rw [if_neg hx, decide_eq_false hx, if_neg Bool.false_ne_true, List.length_append]; rfl
theorem cod_some {xs : List Str} {i : Nat} (h : i < xs.length) : xs.drop i = xs.getD i Str.empty :: xs.drop (i + 1) := by
  rw [List.drop_eq_getElem_cons h, List.getD_eq_getElem?_getD, List.getElem?_eq_getElem h, Option.getD_some]

section
variable {prog : Program} {w : World} {A : Around} {R : Result → Shared → Prop} {I S : Addr} {fp wr : List Addr} {G : Array GenState → Array GenState → Prop} {n : Nat} {P : Nat → Value → Prop} {St : Nat → Shared → Prop}
/-- set.update's own loop over texts -/
theorem upd_loop (W : WalksS prog w A.in1 I fp wr G n P St) (nS : S ∉ fp) {xs : List Str} (len : xs.length = n) (val : ∀ i v, P i v → ∃ t, v = .str (xs.getD i Str.empty) t) (few : n + 1 < scanBound) :
    ∀ (m i : Nat) (acc : List Str) (s : Shared), i + m = n → acc.length ≤ i → St i s → s.heap.SetOf (PySem.strKind prog w) S (fun k => decide (k ∈ acc)) acc.length →
      (∀ s2, Moved (S :: wr) G s s2 → s2.heap.SetOf (PySem.strKind prog w) S (fun k => decide (k ∈ met acc (xs.drop i))) (met acc (xs.drop i)).length → R (.ok (.ret .none)) s2) →
      codeAny (model prog w) A (.builtin "set.update.loop" ⟨[.ref S, .ref I], []⟩) R s := by
  have nw : S ∉ wr := fun hm => nS (W.sub S hm)
  have up : ∀ b, b ∈ wr → b ∈ S :: wr := fun b => List.mem_cons_of_mem S
  have stays : ∀ {s s2 : Shared} {T : Str → Bool} {c : Nat}, Moved wr G s s2 → s.heap.SetOf (PySem.strKind prog w) S T c → s2.heap.SetOf (PySem.strKind prog w) S T c := fun mv ⟨o, a1, a2, a3, q, r⟩ => ⟨o, a1, a2, a3, mv.heap S o nw q, r⟩
  intro m
  induction m with
  | zero =>
    intro i acc s e _ st so k
    obtain rfl : i = n := e
    refine codeAny_builtin PyProof.Rows.F.entry_set_update_loop ?_
    rw [Around.under_plainId PyProof.Rows.F.plain_set_update_loop]
    refine wpAny_bind (W.done s _ _ st fun s2 mv => wpAny_pure (k s2 (mv.mono up) ?_))
    rw [List.drop_of_length_le (Nat.le_of_eq len)]
    exact stays mv so
  | succ m ih =>
    intro i acc s e la st so k
    have lt : i < n := by omega
    refine codeAny_builtin PyProof.Rows.F.entry_set_update_loop ?_
    rw [Around.under_plainId PyProof.Rows.F.plain_set_update_loop]
    refine wpAny_bind (W.item i s _ _ lt st fun v s2 pv st2 mv => ?_)
    obtain ⟨t, rfl⟩ := val i v pv
    have so2 := stays mv so
    refine wpAny_bind (wpAny_holding ?_)
    unfold setAdd
    refine wpAny_holding (wpAny_bind ((PySem.strKind prog w).pyHash (k := xs.getD i Str.empty) (strKind_is _ _ _ _) ?_))
    refine wpAny_setAddHashed_of (knd := PySem.strKind prog w) (s := { s2 with toks := s2.toks + 1 }) (strKind_is _ _ _ _) rfl so2 (by omega) fun h3 sb so3 => ?_
    have out : ∀ b, b ≠ S → ∀ o, s2.heap.get? b = some o → h3.get? b = some o := fun b hb o q => (sb.2 b hb).trans q
    have so4 : h3.SetOf (PySem.strKind prog w) S (fun k' => decide (k' ∈ (if xs.getD i Str.empty ∈ acc then acc else acc ++ [xs.getD i Str.empty]))) (if xs.getD i Str.empty ∈ acc then acc else acc ++ [xs.getD i Str.empty]).length :=
      SetOf_congr so3 (fun k' => met_in _ _ _) (met_size _ _)
    have len4 : (if xs.getD i Str.empty ∈ acc then acc else acc ++ [xs.getD i Str.empty]).length ≤ i + 1 := by
      by_cases hx : xs.getD i Str.empty ∈ acc
      · rw [if_pos hx]; omega
      · rw [if_neg hx, List.length_append, List.length_singleton]; omega
    refine wpAny_pure ⟨plainId_quiet PyProof.Rows.F.plain_set_update_loop _, ih (i + 1) _ { s2 with heap := h3, toks := s2.toks + 1 } (by omega) len4 (W.frame _ s2 _ _ st2 (Nat.le_succ _) fun b hb o q => out b (fun z => nS (z ▸ hb)) o q) so4 fun s5 mv5 so5 => k s5 ?_ ?_⟩
    · exact Moved.trans W.gtrans ((mv.mono up).then_heap (Nat.le_succ _) fun b o hb q => out b (fun z => hb (z ▸ List.mem_cons_self)) o q) mv5
    · rw [cod_some (by omega)]
      exact so5
end

/-- what stands at the new set's place at first -/
abbrev bare (led : Bool) : Obj := { cls := .type "set", dict := none, data := .set #[] 0 (.fresh 0 0 led) }
section
variable {prog : Program} {w : World} {A : Around} {E : Value → Shared → Prop} {s : Shared} {src : Addr} {items : Array Value} {xs : List Str}
set_option maxHeartbeats 3200000 in
/-- set(list of texts) -/
theorem set_list {Q : Value → Shared → Prop} (calm : A.handled = none) (at_ : s.heap.IsList src items) (are : PyProof.Rows.StrsAre items.toList xs) (few : xs.length + 1 < scanBound)
    (k : ∀ (h2 : Heap) (tk : Nat), h2.SetOf (PySem.strKind prog w) s.heap.objs.size (fun k' => decide (k' ∈ met [] xs)) (met [] xs).length → (∀ b o, s.heap.get? b = some o → h2.get? b = some o) → Q (.ref s.heap.objs.size) { s with heap := h2, toks := tk }) :
    wpAny (model prog w) A (call (.type "set") [.ref src]) Q E s := by
  have m1 := PySem.F.called_set.mro
  obtain ⟨_, _, hm⟩ := m1
  have made := PySem.F.called_set.made
  have below := PySem.F.called_set.sub
  refine wpAny_call (codeAny_of_tree ?_)
  show wpAny _ _ (callAny (Value.type "set") ⟨[Value.ref src], []⟩) _ _ _
  refine wpAny_pure (And.intro (Code.quiet_builtin _ (by decide +kernel)) (codeAny_builtin PySem.F.entry_type_call ?_))
  rw [Around.under_plain (weight_type_call_type "set" [Value.ref src] []) rfl]
  have n1 := PySem.F.called_set.notType
  have n2 := PySem.F.called_set.canCreate
  have n3 := PySem.F.typeCall_set_1 (Value.ref src)
  repeat any_goals first | wp_step | assumption
  refine codeAny_mono (code_set_new_1 (Value.ref src) (E := E) (Q₁ := fun x s1 => ∃ led, x = .ref s.heap.objs.size ∧ s1 = { s with heap := s.heap.push (bare led) }) fun led => ⟨led, rfl, rfl⟩) fun r s1 back => ?_
  cases r with
  | error e => exact back
  | ok fl =>
    cases fl with
    | next => exact back.elim
    | brk => exact back.elim
    | cont => exact back.elim
    | ret x =>
      obtain ⟨led, rfl, rfl⟩ := back
      have gS : (s.heap.push (bare led)).get? s.heap.objs.size = some (bare led) := Heap.get?_push_size _ rfl
      have tS : Shared.TypeIs { s with heap := s.heap.push (bare led) } (.ref s.heap.objs.size) "set" := ⟨_, gS, rfl⟩
      have i1 := PySem.F.called_set.init.lookup
      have i2 := PySem.F.called_set.init.bind (.ref s.heap.objs.size)
      repeat any_goals first | wp_step | assumption
      refine codeAny_mono (codeAny_call_builtin (R := wants (fun r s2 => r = .none ∧ ∃ h2 tk, s2 = { s with heap := h2, toks := tk } ∧ h2.SetOf (PySem.strKind prog w) s.heap.objs.size (fun k' => decide (k' ∈ met [] xs)) (met [] xs).length ∧
        ∀ b o, s.heap.get? b = some o → h2.get? b = some o) E) PySem.F.called_set.init.plain PySem.F.entry_set_init (check_set_init_1 tS ?_)) fun r2 s2 back2 => ?_
      · obtain ⟨ol, gl, cl, nl, dl⟩ := at_
        obtain ⟨ocls, odict, odata, oslots⟩ := ol
        simp only at cl dl
        subst cl; subst dl
        have gl' : (s.heap.push (bare led)).get? src = some { cls := .type "list", dict := odict, data := .seq items nl, slots := oslots } := Heap.get?_push_of_some _ gl
        have u1 := PySem.F.sub_list_set
        have u2 := PySem.F.sub_list_frozenset
        have u3 : (Value.type "list" == Value.type "dict") = false := by decide
        have at2 : (s.heap.push (bare led)).IsList src items := ⟨_, gl', rfl, nl, rfl⟩
        unfold Builtin.«set.__init__» noKeywords Builtin.Frozenset.updateFrom
        generalize hide : pyIter = PI
        wp_walk
        subst hide
        refine wpAny_pyIter_list at2 (wpAny_bind (wpAny_runValue ?_))
        have small : src < s.heap.objs.size := Heap.lt_size gl
        have calm3 : A.in1.in1.in1.handled = none := by simp [calm]
        have z1 : (s.heap.push (bare led)).objs.size = s.heap.objs.size + 1 := Heap.size_push ..
        have d1 : src ≠ (s.heap.push (bare led)).objs.size := by rw [z1]; exact Nat.ne_of_lt (Nat.lt_succ_of_lt small)
        have d2 : s.heap.objs.size ∉ [(s.heap.push (bare led)).objs.size, src] := by
          rw [z1]
          intro hm2
          rcases List.mem_cons.mp hm2 with e | hm2
          · exact Nat.ne_of_lt (Nat.lt_succ_self _) e
          · exact Nat.ne_of_gt small (List.mem_singleton.mp hm2)
        have sz : xs.length = items.size := by rw [← StrsAre.len_eq are, Array.length_toList]
        have vals : ∀ (i : Nat) (v : Value), items[i]? = some v → ∃ t, v = .str (xs.getD i Str.empty) t := fun i v hv => SS.strs_at are i v (by rw [Array.getElem?_toList]; exact hv)
        refine upd_loop (S := s.heap.objs.size) ((Walks.list calm3 _ src d1 items).toS) d2 sz vals (by omega) items.size 0 [] _ (Nat.zero_add _) (Nat.le_refl _) ⟨⟨_, Heap.get?_push_size _ rfl, rfl, rfl⟩, (at2.push _)⟩ ?first ?last
        case first =>
          exact SetOf_congr ((setObjOf_fresh (knd := PySem.strKind prog w) led).setOf (Heap.get?_push_of_some _ gS) (by decide)) (fun _ => rfl) rfl
        case last =>
          intro s' mv so
          obtain ⟨h', g', d', tk', os'⟩ := s'
          obtain rfl : g' = s.gens := mv.gens
          obtain rfl : d' = s.drawn := mv.drawn
          obtain rfl : os' = s.os := mv.os
          refine wpAny_pure (wpAny_pure ⟨rfl, h', tk', rfl, so, fun b o q => ?_⟩)
          have lb : b < s.heap.objs.size := Heap.lt_size q
          refine mv.heap b o (fun hm2 => ?_) (Heap.get?_push_of_some _ (Heap.get?_push_of_some _ q))
          rcases List.mem_cons.mp hm2 with e | hm2
          · exact Nat.ne_of_lt lb e
          · have e2 := List.mem_singleton.mp hm2
            rw [z1] at e2
            exact Nat.ne_of_lt (Nat.lt_succ_of_lt lb) e2
      · cases r2 with
        | error e => exact back2
        | ok fl2 =>
          cases fl2 with
          | next => exact back2.elim
          | brk => exact back2.elim
          | cont => exact back2.elim
          | ret r =>
            obtain ⟨rfl, h2, tk, rfl, so, kp⟩ := back2
            repeat any_goals first | wp_step | assumption
            exact k _ _ so kp
set_option maxHeartbeats 3200000 in
/-- set(tuple of texts) -/
theorem set_tuple {Q : Value → Shared → Prop} (calm : A.handled = none) (at_ : s.heap.IsTuple src items) (are : PyProof.Rows.StrsAre items.toList xs) (few : xs.length + 1 < scanBound)
    (k : ∀ (h2 : Heap) (tk : Nat), h2.SetOf (PySem.strKind prog w) s.heap.objs.size (fun k' => decide (k' ∈ met [] xs)) (met [] xs).length → (∀ b o, s.heap.get? b = some o → h2.get? b = some o) → Q (.ref s.heap.objs.size) { s with heap := h2, toks := tk }) :
    wpAny (model prog w) A (call (.type "set") [.ref src]) Q E s := by
  have m1 := PySem.F.called_set.mro
  obtain ⟨_, _, hm⟩ := m1
  have made := PySem.F.called_set.made
  have below := PySem.F.called_set.sub
  refine wpAny_call (codeAny_of_tree ?_)
  show wpAny _ _ (callAny (Value.type "set") ⟨[Value.ref src], []⟩) _ _ _
  refine wpAny_pure (And.intro (Code.quiet_builtin _ (by decide +kernel)) (codeAny_builtin PySem.F.entry_type_call ?_))
  rw [Around.under_plain (weight_type_call_type "set" [Value.ref src] []) rfl]
  have n1 := PySem.F.called_set.notType
  have n2 := PySem.F.called_set.canCreate
  have n3 := PySem.F.typeCall_set_1 (Value.ref src)
  repeat any_goals first | wp_step | assumption
  refine codeAny_mono (code_set_new_1 (Value.ref src) (E := E) (Q₁ := fun x s1 => ∃ led, x = .ref s.heap.objs.size ∧ s1 = { s with heap := s.heap.push (bare led) }) fun led => ⟨led, rfl, rfl⟩) fun r s1 back => ?_
  cases r with
  | error e => exact back
  | ok fl =>
    cases fl with
    | next => exact back.elim
    | brk => exact back.elim
    | cont => exact back.elim
    | ret x =>
      obtain ⟨led, rfl, rfl⟩ := back
      have gS : (s.heap.push (bare led)).get? s.heap.objs.size = some (bare led) := Heap.get?_push_size _ rfl
      have tS : Shared.TypeIs { s with heap := s.heap.push (bare led) } (.ref s.heap.objs.size) "set" := ⟨_, gS, rfl⟩
      have i1 := PySem.F.called_set.init.lookup
      have i2 := PySem.F.called_set.init.bind (.ref s.heap.objs.size)
      repeat any_goals first | wp_step | assumption
      refine codeAny_mono (codeAny_call_builtin (R := wants (fun r s2 => r = .none ∧ ∃ h2 tk, s2 = { s with heap := h2, toks := tk } ∧ h2.SetOf (PySem.strKind prog w) s.heap.objs.size (fun k' => decide (k' ∈ met [] xs)) (met [] xs).length ∧
        ∀ b o, s.heap.get? b = some o → h2.get? b = some o) E) PySem.F.called_set.init.plain PySem.F.entry_set_init (check_set_init_1 tS ?_)) fun r2 s2 back2 => ?_
      · obtain ⟨ol, gl, cl, nl, dl⟩ := at_
        obtain ⟨ocls, odict, odata, oslots⟩ := ol
        simp only at cl dl
        subst cl; subst dl
        have gl' : (s.heap.push (bare led)).get? src = some { cls := .type "tuple", dict := odict, data := .seq items nl, slots := oslots } := Heap.get?_push_of_some _ gl
        have u1 := PySem.F.sub_tuple_set
        have u2 := PySem.F.sub_tuple_frozenset
        have u3 : (Value.type "tuple" == Value.type "dict") = false := by decide
        have at2 : (s.heap.push (bare led)).IsTuple src items := ⟨_, gl', rfl, nl, rfl⟩
        unfold Builtin.«set.__init__» noKeywords Builtin.Frozenset.updateFrom
        generalize hide : pyIter = PI
        wp_walk
        subst hide
        refine wpAny_pyIter_tuple at2 (wpAny_bind (wpAny_runValue ?_))
        have small : src < s.heap.objs.size := Heap.lt_size gl
        have calm3 : A.in1.in1.in1.handled = none := by simp [calm]
        have z1 : (s.heap.push (bare led)).objs.size = s.heap.objs.size + 1 := Heap.size_push ..
        have d1 : src ≠ (s.heap.push (bare led)).objs.size := by rw [z1]; exact Nat.ne_of_lt (Nat.lt_succ_of_lt small)
        have d2 : s.heap.objs.size ∉ [(s.heap.push (bare led)).objs.size, src] := by
          rw [z1]
          intro hm2
          rcases List.mem_cons.mp hm2 with e | hm2
          · exact Nat.ne_of_lt (Nat.lt_succ_self _) e
          · exact Nat.ne_of_gt small (List.mem_singleton.mp hm2)
        have sz : xs.length = items.size := by rw [← StrsAre.len_eq are, Array.length_toList]
        have vals : ∀ (i : Nat) (v : Value), items[i]? = some v → ∃ t, v = .str (xs.getD i Str.empty) t := fun i v hv => SS.strs_at are i v (by rw [Array.getElem?_toList]; exact hv)
        refine upd_loop (S := s.heap.objs.size) ((Walks.tuple calm3 _ src d1 items).toS) d2 sz vals (by omega) items.size 0 [] _ (Nat.zero_add _) (Nat.le_refl _) ⟨⟨_, Heap.get?_push_size _ rfl, rfl, rfl⟩, (at2.push _)⟩ ?first ?last
        case first =>
          exact SetOf_congr ((setObjOf_fresh (knd := PySem.strKind prog w) led).setOf (Heap.get?_push_of_some _ gS) (by decide)) (fun _ => rfl) rfl
        case last =>
          intro s' mv so
          obtain ⟨h', g', d', tk', os'⟩ := s'
          obtain rfl : g' = s.gens := mv.gens
          obtain rfl : d' = s.drawn := mv.drawn
          obtain rfl : os' = s.os := mv.os
          refine wpAny_pure (wpAny_pure ⟨rfl, h', tk', rfl, so, fun b o q => ?_⟩)
          have lb : b < s.heap.objs.size := Heap.lt_size q
          refine mv.heap b o (fun hm2 => ?_) (Heap.get?_push_of_some _ (Heap.get?_push_of_some _ q))
          rcases List.mem_cons.mp hm2 with e | hm2
          · exact Nat.ne_of_lt lb e
          · have e2 := List.mem_singleton.mp hm2
            rw [z1] at e2
            exact Nat.ne_of_lt (Nat.lt_succ_of_lt lb) e2
      · cases r2 with
        | error e => exact back2
        | ok fl2 =>
          cases fl2 with
          | next => exact back2.elim
          | brk => exact back2.elim
          | cont => exact back2.elim
          | ret r =>
            obtain ⟨rfl, h2, tk, rfl, so, kp⟩ := back2
            repeat any_goals first | wp_step | assumption
            exact k _ _ so kp
end
end Ssb

/-! Sets of texts as tracked things: set(xs), {text for ..}, their len. -/
namespace Ssb
open PySem PySem.Spec PyProof.Rows L2

/-- at a: the set of the texts of l -/
def Txs (P : Program) (w : World) (a : Addr) (l : List Str) : HO := .ext fun h => h.SetOf (PySem.strKind P w) a (fun k => decide (k ∈ l)) l.length
/-- l with x at its end, if it is not there -/
def put1 (l : List Str) (x : Str) : List Str := if x ∈ l then l else l ++ [x]
theorem put1_len (l : List Str) (x : Str) : (put1 l x).length ≤ l.length + 1 := by
  unfold put1
  by_cases h : x ∈ l
  · rw [if_pos h]; omega
  · rw [if_neg h, List.length_append]; exact Nat.le_refl _
section
variable {P : Program} {w : World} {X : Cx}
theorem txs_ok {H : Hp} {h : Heap} {a : Addr} {l : List Str} (r : h.SetOf (PySem.strKind P w) a (fun k => decide (k ∈ l)) l.length) : ObjOk P w H h a (Txs P w a l) := by
  refine ⟨r, ?_, fun g1 g2 p k => ?_⟩
  · obtain ⟨o, _, _, _, q, _⟩ := r; exact ⟨o, q⟩
  · obtain ⟨o, b1, b2, b3, q, r2⟩ := p; exact ⟨o, b1, b2, b3, k o q, r2⟩
theorem txs_at {pins : List (Addr × Obj)} {σ : L2.St} {H : Hp} {s : Shared} {a : Addr} {l : List Str} (I : Inv X pins σ H s) (e : H a = some (Txs X.prog X.w a l)) : s.heap.SetOf (PySem.strKind X.prog X.w) a (fun k => decide (k ∈ l)) l.length := by
  have z : ObjOk X.prog X.w H s.heap a (.ext fun h => h.SetOf (PySem.strKind X.prog X.w) a (fun k => decide (k ∈ l)) l.length) := I.hok a _ e
  exact z.1
/-- one text more -/
theorem txs_add {pins : List (Addr × Obj)} {σ : L2.St} {H : Hp} {s : Shared} {E : Value → Shared → Prop} {a : Addr} {l : List Str} {x : Str} {t : Tok} {Q : Value → Shared → Prop} (I : Inv X pins σ H s) (e : H a = some (Txs X.prog X.w a l)) (few : l.length + 1 < scanBound)
    (k : ∀ s2, Inv X pins σ (upd H a (Txs X.prog X.w a (put1 l x))) s2 → Q .none s2) : wpAny (model X.prog X.w) X.A (call (.builtin "set.add") [.ref a, .str x t]) Q E s := by
  refine PySem.call_set_add (knd := PySem.strKind X.prog X.w) (strKind_is _ _ _ _) rfl (txs_at I e) few fun h2 sb so => ?_
  have so2 : h2.SetOf (PySem.strKind X.prog X.w) a (fun k' => decide (k' ∈ put1 l x)) (put1 l x).length := SetOf_congr so (fun k' => met_in l x k') (met_size l x)
  have there : ∃ u, h2.get? a = some u := by
    obtain ⟨o, _, _, _, q, _⟩ := so2; exact ⟨o, q⟩
  exact k _ (I.write (t' := s.toks + 1) (x := a) (e := a) (by rw [e]; trivial) (.inl rfl) (fun b u hb q => (sb.2 b hb).trans q) there (txs_ok so2))

/-! ### set(xs) -/
def rSetS (K : PySem.W.Frag) (P : Program) (w : World) : List V → Hp → VK → Prop := fun vs H Q => ∃ (a : Addr) (xs : List Str), vs = [.ref a] ∧ (SqL K H a (xs.map V.str) ∨ SqT K H a (xs.map V.str)) ∧ xs.length + 1 < scanBound ∧
  ∀ p, H p = none → Q (.ref p) (upd H p (Txs P w p (met [] xs)))
theorem cr_setS (hc : X.calm = true) : CallR X (.type "set") (rSetS X.K X.prog X.w) := by
  intro pins s σ H vs us Q I r q
  obtain ⟨a, xs, rfl, sq, few, k⟩ := q
  rw [Vals.ref1 r]
  have new : H s.heap.objs.size = none := I.hok.fresh (Nat.le_refl _)
  have done : ∀ (h2 : Heap) (tk : Nat), h2.SetOf (PySem.strKind X.prog X.w) s.heap.objs.size (fun k' => decide (k' ∈ met [] xs)) (met [] xs).length → (∀ b o, s.heap.get? b = some o → h2.get? b = some o) → EP X pins σ Q (.ref s.heap.objs.size) { s with heap := h2, toks := tk } :=
    fun h2 tk so kp => ⟨.ref s.heap.objs.size, upd H s.heap.objs.size (Txs X.prog X.w s.heap.objs.size (met [] xs)), I.laid (t' := tk) kp (Nat.le_refl _) (txs_ok so), rfl, k _ new⟩
  rcases sq with sq | sq
  · obtain ⟨its, rv, pl, _⟩ := I.list sq
    exact set_list (I.ok.hd hc) pl.isList (by simpa using strsAre_of rv) few done
  · obtain ⟨its, rv, pl, _⟩ := I.tuple sq
    exact set_tuple (I.ok.hd hc) pl (by simpa using strsAre_of rv) few done
/-! ### len of it -/
def rLenTxs (P : Program) (w : World) : List V → Hp → VK → Prop := fun vs H Q => ∃ (a : Addr) (l : List Str), vs = [.ref a] ∧ H a = some (Txs P w a l) ∧ l.length < 1000000 ∧ Q (.int l.length) H
theorem call_lenTxs : CallR X (.builtin "len") (rLenTxs X.prog X.w) := by
  intro pins s σ H vs us Q I r q
  obtain ⟨a, l, rfl, e, few, k⟩ := q
  rw [Vals.ref1 r]
  obtain ⟨o, es, ep, t, ho, ex, dt, _, _, _, fits, n⟩ := txs_at I e
  refine PySem.call_len_set ho ex dt fits (by rw [n]; omega) ⟨.int l.length, H, I.tok _, ⟨_, by rw [n]⟩, k⟩
end

/-! ### {text for ..} -/
/-- the reading: D, the new set -/
def tTxs (P : Program) (w : World) (wi : TI) (g : TG) (tt : TT) (te : TE) (vs : List Nat) : TE := fun σ H Q => wi σ H fun J H1 => ∀ D, H1 D = none → ∃ W : Nat → Nat → Hp → Prop, (∃ m, W 0 m (upd H1 D (Txs P w D []))) ∧ ∀ i m H, W i m H →
  (J.stop i H ∧ Q (.ref D) H) ∨ (J.go i H ∧ ∃ Nx : Hp → Prop, (∀ H', Nx H' → ∃ m', m' < m ∧ W (i + 1) m' H') ∧ ∀ x H', J.yld i H x H' → g x (wipe σ vs) H' fun σ2 H2 => wipe σ2 vs = wipe σ vs ∧ tt σ2 H2 fun b H3 =>
    if b = true then te σ2 H3 fun y H4 => ∃ (z : Str) (l : List Str), y = .str z ∧ H4 D = some (Txs P w D l) ∧ l.length + 1 < scanBound ∧ Nx (upd H4 D (Txs P w D (put1 l z))) else Nx H3)
section
variable {X : Cx} {elt tg iter : Expr} {ifs : List Expr} {scope : Scope} {own : List (PySem.Str × Nat)} {pos pos' : Pos} {wi : TI} {g : TG} {tt : TT} {te : TE}
theorem pe_scT (hc : X.calm = true) (hN : X.N.Nodup) (hi : PI X tg iter wi) (ok : BlkOk X.N X.env.scope scope own)
    (hg : ∀ (u : Shared) (B : Hp) (C : Addr) (cl : List (PySem.Str × Addr)) (fp : List Addr), PG (X.blk u B scope (compEnvC scope cl C X.env) fp) tg g)
    (ht : ∀ (u : Shared) (B : Hp) (C : Addr) (cl : List (PySem.Str × Addr)) (fp : List Addr), PTs (X.blk u B scope (compEnvC scope cl C X.env) fp) ifs tt)
    (he : ∀ (u : Shared) (B : Hp) (C : Addr) (cl : List (PySem.Str × Addr)) (fp : List Addr), PE (X.blk u B scope (compEnvC scope cl C X.env) fp) elt te)
    (hf : ∀ x, foldedSetIterable iter X.env x = pure x := by intro _; rfl) :
    PE X (.SetComp elt [⟨tg, iter, ifs, 0⟩] scope pos) (tTxs X.prog X.w wi g tt te (own.map (·.2))) := by
  refine ⟨fun pins s σ H Q I red => ?_⟩
  rw [PpSet.eval_SetComp]
  have caught : ∀ y ∈ scope.names, y.2 = .free → ∃ c, X.env.cells.lookup y.1 = some c := fun y hy e => (ok.free y hy e).elim (fun k => I.ok.has _ (.inl k)) fun k => I.ok.has _ (.inr k)
  refine wpAny_comprehension_free rfl hf (closure_ok caught) ok.kind (fun y hy e => by rw [ok.uniq y hy, e]) (thn (hi.run pins s σ H _ I red) fun _ s1 r1 => thn r1 fun _ s2 r2 => ?_)
  obtain ⟨it, fp, at_, J, H2, rfl, I2, T, now, apart, rest⟩ := r2
  refine PpSet.newSet_ok (newEnv_comp ?_)
  have noD : H2 s2.heap.objs.size = none := I2.hok.fresh (Nat.le_refl _)
  obtain ⟨W, ⟨m0, w0⟩, turn⟩ := rest _ noD
  generalize eD : s2.heap.objs.size = D at noD w0 turn ⊢
  generalize e3 : ({ s2 with heap := s2.heap.push (bare (!X.w.params.followText "set-order")) } : Shared) = s3
  have g3 : s3.heap = s2.heap.push (bare (!X.w.params.followText "set-order")) := by rw [← e3]
  generalize eH3 : upd H2 D (Txs X.prog X.w D []) = H3 at w0
  have I3 : Inv X pins σ H3 s3 := by
    rw [← e3, ← eH3]
    refine I2.laid (t' := s2.toks) (fun b o q => Heap.get?_push_of_some _ q) (Nat.le_of_eq eD) (txs_ok ?_)
    rw [← eD]
    exact SetOf_congr ((setObjOf_fresh (knd := PySem.strKind X.prog X.w) _).setOf (Heap.get?_push_size _ rfl) (by decide)) (fun _ => rfl) rfl
  have low : ∀ b ∈ fp, b < s2.heap.objs.size := fun b hb => by
    obtain ⟨o, q, _⟩ := T.obj _ _ now b hb; exact Heap.lt_size q
  have fp3 : ∀ b ∈ fp, FpOk X pins H3 b ∧ b < s3.heap.objs.size := fun b hb => by
    refine ⟨⟨?_, (apart b hb).2⟩, by rw [g3, Heap.size_push]; exact Nat.lt_succ_of_lt (low b hb)⟩
    rw [← eH3, upd_ne (by rw [← eD]; exact Nat.ne_of_lt (low b hb))]
    exact (apart b hb).1
  have now3 : at_ 0 s3.heap := T.keep _ _ _ now fun b _ o q => by rw [g3]; exact Heap.get?_push_of_some _ q
  have B4 := block_start I3 ok hN fp3
  generalize eC : compEnvC scope (cellsFrom (s3.heap.objs.size + 1) scope.names (cloFrom X.env.cells scope.names [])) s3.heap.objs.size X.env = ce at B4
  have pG : PG (X.blk s3 H3 scope ce fp) tg g := by rw [← eC]; exact hg _ _ _ _ _
  have pT : PTs (X.blk s3 H3 scope ce fp) ifs tt := by rw [← eC]; exact ht _ _ _ _ _
  have pE : PE (X.blk s3 H3 scope ce fp) elt te := by rw [← eC]; exact he _ _ _ _ _
  have eL : ce.locals = s3.heap.objs.size := by rw [← eC]; rfl
  have fpN : ∀ b ∈ fp, H3 b = none := fun b hb => (fp3 b hb).1.1
  generalize e4 : ({ s3 with heap := pushCells (s3.heap.push { cls := .type "dict", data := .dict #[] }) scope.names } : Shared) = s4 at B4
  have now4 : at_ 0 s4.heap := T.keep _ _ _ now3 fun b _ o q => by rw [← e4]; exact pushCells_keeps _ _ _ _ (Heap.get?_push_of_some _ q)
  show codeAny _ _ (.compStart (.SetComp elt [⟨tg, iter, ifs, 0⟩] scope pos) 0 (.ref it) (.ref D) (compEnvC scope (cellsFrom (s3.heap.objs.size + 1) scope.names (cloFrom X.env.cells scope.names [])) s3.heap.objs.size X.env)) (compPost _ _ _ none _ (.ref D) s3.heap.objs.size) s4
  rw [eC]
  have fpOk : ∀ {σ' : L2.St} {H' : Hp} {s' : Shared}, Inv (X.blk s3 H3 scope ce fp) [] σ' H' s' → (∀ b ∈ fp, H' b = none) → ∀ b ∈ fp, FpOk (X.blk s3 H3 scope ce fp) [] H' b := fun {_ _ _} J' no b hb =>
    ⟨no b hb, (J'.ok.exf b hb).1, J'.ok.exfs b hb, .inl hb, fun x c q => (J'.ok.exf b hb).2 x c q, fun p hp => nomatch (show p ∈ ([] : List (Addr × Obj)) from hp)⟩
  refine PpSet.codeAny_compStart_set ?_ (T.self X.A 0 _ _ _ now4 ?_)
  all_goals
    refine PpSet.compLoopS_any (fun m u => ∃ i G, Inv (X.blk s3 H3 scope ce fp) [] (wipe σ (own.map (·.2))) G u ∧ at_ i u.heap ∧ (∀ b ∈ fp, G b = none) ∧ W i m G) ?_ m0 ⟨0, H3, B4, now4, fpN, w0⟩
    rintro m u ⟨i, G, B5, now5, no5, w5⟩
    rcases turn i m G w5 with ⟨stop, fin⟩ | ⟨go, Nx, less, step⟩
    · refine thnF (T.done (X.blk s3 H3 scope ce fp) rfl rfl rfl hc i [] u _ G (fun _ _ => False) B5 (fpOk B5 no5) now5 stop) fun r s6 ⟨er, B6⟩ => ?_
      subst er
      have I7 : Inv X pins σ G s6 := I3.call' (ch := fp) B6.os B6.base B6.hok B6.bare fun b hb => ⟨(fp3 b hb).1.2.2.2.1, (fp3 b hb).1.2.1, (fp3 b hb).1.2.2.2.2.1, (fp3 b hb).1.2.2.2.2.2⟩
      obtain ⟨mm, ns, _⟩ := B6.loc
      have ns : s6.heap.Ns ce.locals mm := ns
      have noC : G ce.locals = none := B6.free
      rw [eL] at ns noC
      obtain ⟨f0, f1, f2, f3, f4, f5⟩ := I3.fpOk (Nat.le_refl _) noC
      exact ⟨mm, ns, fun h'' sb => ⟨.ref D, G, I7.turned (t' := s6.toks) (fun b o hb q => (sb.2 b hb).trans q) f0 f1 f3 f4 f5, rfl, fin⟩⟩
    · refine thnF (T.item (X.blk s3 H3 scope ce fp) rfl rfl rfl hc i [] u _ G (fun _ _ => False) B5 (fpOk B5 no5) now5 go) fun r s6 ⟨v, er, r6⟩ => ?_
      subst er
      refine thnF r6 fun _ s7 ⟨x, G7, B7, rx, y7, now7, no7⟩ => ?_
      refine thnF (pG.run _ s7 _ G7 x v _ (B7.pinned (fpOk B7 no7) (T.obj _ _ now7)) rx (step x G7 y7)) fun _ s8 ⟨σ8, G8, B8, wp8, q8⟩ => ?_
      refine thnF (pT.run _ s8 σ8 G8 _ B8 q8) fun b s9 ⟨G9, B9, q9⟩ => ?_
      have close : ∀ {u' : Shared} {G' : Hp}, Inv (X.blk s3 H3 scope ce fp) ([] ++ pinsAt fp s7.heap) σ8 G' u' → Nx G' → ∃ m', m' < m ∧ ∃ i' G2, Inv (X.blk s3 H3 scope ce fp) [] (wipe σ (own.map (·.2))) G2 u' ∧ at_ i' u'.heap ∧ (∀ b ∈ fp, G2 b = none) ∧ W i' m' G2 := fun {u' G'} B' nx => by
        obtain ⟨m', lt, w'⟩ := less G' nx
        have held : ∀ b ∈ fp, ∀ o, s7.heap.get? b = some o → u'.heap.get? b = some o ∧ G' b = none := fun b hb o q =>
          ⟨(B'.pin (b, o) (List.mem_append_right _ (List.mem_append_right _ (mem_pinsAt hb q)))).1, (B'.pin (b, o) (List.mem_append_right _ (List.mem_append_right _ (mem_pinsAt hb q)))).2.1⟩
        refine ⟨m', lt, i + 1, G', (B'.unpinned (pins := [])).weak (by rw [← wp8, wipe_length]) (fun j z e => (wipe_some (by rw [wp8]; exact e)).1), T.keep _ _ _ now7 fun b hb o q => (held b hb o q).1, fun b hb => ?_, w'⟩
        obtain ⟨o, q, _⟩ := T.obj _ _ now7 b hb
        exact (held b hb o q).2
      cases b with
      | false =>
        simp only [Bool.false_eq_true, if_false] at q9 ⊢
        exact close B9 q9
      | true =>
        simp only [if_true] at q9 ⊢
        refine thnF (pE.run _ s9 σ8 G9 _ B9 q9) fun z s10 ⟨yv, G10, B10, r10, tx, l0, ey, at10, few, nx⟩ => ?_
        subst ey
        obtain ⟨tk, rfl⟩ := (show ∃ t, z = Value.str tx t from r10)
        exact txs_add (X := X.blk s3 H3 scope ce fp) B10 at10 few fun s11 B11 => close B11 nx
end
end Ssb

/-! Words: a def and its promise in one; data on the heap; loops over dicts. -/
namespace Ssb
open PySem PySem.Spec PyProof.Rows L2
open Evl (Ex Ev EvT EvL EvA EvU)

/-! ### a def of the module, a method of a class, and its promise -/
structure Fn (P : Program) (w : World) (K : PySem.W.Frag) (mg : Str → Option Value) (base : Heap) (nm : Str) (k : Nat) (ps : List Str) (sp : Sp) (f : Addr) (fd : FuncData) : Prop where
  ok : FnOk P w K mg base CX0 k f fd ps sp
  at_ : mg nm = some (.ref f)
  kp : PySem.W.keepIn K (.ref f) = true
  bd : Binds K fd ps []
structure Mt (P : Program) (w : World) (K : PySem.W.Frag) (mg : Str → Option Value) (base : Heap) (C : Addr) (nm : Str) (k : Nat) (ps : List Str) (sp : Sp) (f : Addr) (fd : FuncData) : Prop where
  ok : FnOk P w K mg base CX0 k f fd ps sp
  mt : Meth K C nm f
  bd : Binds K fd ps []
section
variable {X : Cx} {nm : Str} {k j : Nat} {ps : List Str} {sp : Sp} {f : Addr} {fd : FuncData} {p pos : Pos} {e : Expr} {es : List Expr} {t : TA}
theorem pcl (G : Fn X.prog X.w X.K X.mg X.base nm k ps sp f fd) (hr : Room j X.A) (ha : PA X (e :: es) t) (hj : k ≤ j := by first | decide | omega) (hg : Gl X nm := by rfl) (hdb : (nm == ("__debug__" : Str)) = false := by decide)
    (he : starEach (e :: es) X.env = (false, eval e X.env) :: starEach es X.env := by rfl) (hpl : (backTo pos (starEach es X.env)).any (·.1) = false := by rfl) : PE X (.Call (.Name nm p) (e :: es) [] pos) (tCall sp [] E0 t) :=
  pe_call G.ok (hr.mono hj) hg G.at_ G.kp G.bd .nil pass0 ha hdb he hpl
variable {o : Expr} {ta : TE} {apos : Pos} {C : Addr} {pl : Sem Bool}
theorem pmt (ho : PE X o ta) (c : Cls X.K C) (G : Mt X.prog X.w X.K X.mg X.base C nm k ps sp f fd) (hr : Room j X.A) (ha : PA X (e :: es) t) (hj : k ≤ j := by first | decide | omega)
    (he : starEach (e :: es) X.env = (false, eval e X.env) :: starEach es X.env := by rfl) (hpl : (backTo pos (starEach es X.env)).any (·.1) = false := by rfl)
    (ht : eval (.Call (.Attribute o nm apos) (e :: es) [] pos) X.env = (do
      let ov ← eval o X.env
      standAt apos.atName
      let (f, first) ← holding [ov] (getMethod ov nm pl)
      callWith pos f first (backTo pos (starEach (e :: es) X.env)) (backToKw pos (keywordEach [] X.env))) := by rfl) : PE X (.Call (.Attribute o nm apos) (e :: es) [] pos) (tMeth C nm sp [] E0 ta t) :=
  pe_meth ho c G.mt G.ok (hr.mono hj) G.bd .nil pass0 ha he hpl ht
theorem pmt0 (ho : PE X o ta) (c : Cls X.K C) (G : Mt X.prog X.w X.K X.mg X.base C nm k ps sp f fd) (hr : Room j X.A) (hj : k ≤ j := by first | decide | omega)
    (ht : eval (.Call (.Attribute o nm apos) [] [] pos) X.env = (do
      let ov ← eval o X.env
      standAt apos.atName
      let (f, first) ← holding [ov] (getMethod ov nm pl)
      callWith pos f first (backTo pos (starEach [] X.env)) (backToKw pos (keywordEach [] X.env))) := by rfl) : PE X (.Call (.Attribute o nm apos) [] [] pos) (tMeth C nm sp [] E0 ta tNil) :=
  pe_meth0 ho c G.mt G.ok (hr.mono hj) G.bd .nil pass0 ht
/-- a test that is never asked -/
def tNeverT : TT := fun _ _ _ => False
theorem pt_unseen : PT X e tNeverT := ⟨fun _ _ _ _ _ _ h => h.elim⟩
def tNeverE : TE := fun _ _ _ => False
theorem pe_unseen : PE X e tNeverE := ⟨fun _ _ _ _ _ _ h => h.elim⟩
end

/-! ### data, as they stand on the heap: lists and dicts at places of S, a dict never within itself -/
inductive D where
  | non | bl (b : Bool) | int (i : Int) | str (s : Str) | lst (l : List D) | tup (l : List D) | dic (l : List (Str × D))
def Rep (H : Hp) : Nat → (Addr → Prop) → D → V → Prop
  | 0, _, _, _ => False
  | _ + 1, _, .non, v => v = .non
  | _ + 1, _, .bl b, v => v = .bl b
  | _ + 1, _, .int i, v => v = .int i
  | _ + 1, _, .str s, v => v = .str s
  | n + 1, S, .lst l, v => ∃ a xs, v = .ref a ∧ S a ∧ H a = some (.lst xs) ∧ l.length ≤ 100000 ∧ Paired (fun d x => Rep H n S d x) l xs
  | n + 1, S, .tup l, v => ∃ a xs, v = .ref a ∧ H a = some (.tup xs) ∧ l.length ≤ 100000 ∧ Paired (fun d x => Rep H n S d x) l xs
  | n + 1, S, .dic l, v => ∃ a es, v = .ref a ∧ S a ∧ H a = some (.dK es) ∧ l.length ≤ 100000 ∧ Paired (fun (q : Str × D) (e : Key × V) => e.1 = Sum.inr q.1 ∧ Rep H n (fun b => S b ∧ b ≠ a) q.2 e.2) l es
theorem pair_imp {α β : Type} {F G : α → β → Prop} : ∀ {l : List α} {m : List β}, Paired F l m → (∀ a b, F a b → G a b) → Paired G l m
  | _, _, .nil, _ => .nil
  | _, _, .cons h t, k => .cons (k _ _ h) (pair_imp t k)
theorem pair_len {α β : Type} {F : α → β → Prop} : ∀ {l : List α} {m : List β}, Paired F l m → l.length = m.length
  | _, _, .nil => rfl
  | _, _, .cons _ t => congrArg (· + 1) (pair_len t)
theorem pair_at {α β : Type} {F : α → β → Prop} : ∀ {l : List α} {m : List β} {i : Nat} {a : α}, Paired F l m → l[i]? = some a → ∃ b, m[i]? = some b ∧ F a b
  | _, _, _, _, .nil, e => by simp at e
  | _, _, 0, _, .cons h _, e => by
    simp at e; subst e; exact ⟨_, rfl, h⟩
  | _, _, i + 1, _, .cons _ t, e => by
    obtain ⟨b, h1, h2⟩ := pair_at (i := i) t (by simpa using e)
    exact ⟨b, by simpa using h1, h2⟩
theorem pair_back {α β : Type} {F : α → β → Prop} : ∀ {l : List α} {m : List β} {i : Nat} {b : β}, Paired F l m → m[i]? = some b → ∃ a, l[i]? = some a ∧ F a b
  | _, _, _, _, .nil, e => by simp at e
  | _, _, 0, _, .cons h _, e => by
    simp at e; subst e; exact ⟨_, rfl, h⟩
  | _, _, i + 1, _, .cons _ t, e => by
    obtain ⟨b, h1, h2⟩ := pair_back (i := i) t (by simpa using e)
    exact ⟨b, by simpa using h1, h2⟩
theorem pair_app {α β : Type} {F : α → β → Prop} : ∀ {l l' : List α} {m m' : List β}, Paired F l m → Paired F l' m' → Paired F (l ++ l') (m ++ m')
  | _, _, _, _, .nil, t => t
  | _, _, _, _, .cons h r, t => .cons h (pair_app r t)
theorem pair_snoc {α β : Type} {F : α → β → Prop} {l : List α} {m : List β} {a : α} {b : β} (p : Paired F l m) (h : F a b) : Paired F (l ++ [a]) (m ++ [b]) := pair_app p (.cons h .nil)
/-- what is told at the places of S (and of tuples) is all that counts -/
theorem rep_to {H H' : Hp} : ∀ {n : Nat} {S : Addr → Prop} {d : D} {v : V}, (∀ b o, H b = some o → (S b ∨ ∃ xs, o = .tup xs) → H' b = some o) → Rep H n S d v → Rep H' n S d v
  | 0, _, _, _, _, h => h.elim
  | n + 1, S, d, v, k, h => by
    cases d with
    | non => exact h
    | bl b => exact h
    | int i => exact h
    | str s => exact h
    | lst l =>
      obtain ⟨a, xs, e, s, ha, hl, p⟩ := h
      exact ⟨a, xs, e, s, k a _ ha (.inl s), hl, pair_imp p fun d x r => rep_to k r⟩
    | tup l =>
      obtain ⟨a, xs, e, ha, hl, p⟩ := h
      exact ⟨a, xs, e, k a _ ha (.inr ⟨xs, rfl⟩), hl, pair_imp p fun d x r => rep_to k r⟩
    | dic l =>
      obtain ⟨a, es, e, s, ha, hl, p⟩ := h
      exact ⟨a, es, e, s, k a _ ha (.inl s), hl, pair_imp p fun q x r => ⟨r.1, rep_to (fun b o hb z => k b o hb (z.imp (·.1) id)) r.2⟩⟩
theorem rep_ex {H H' : Hp} {n : Nat} {S : Addr → Prop} {d : D} {v : V} (e : Ex H H') (h : Rep H n S d v) : Rep H' n S d v := rep_to (fun b o hb _ => e b o hb) h
theorem rep_S {H : Hp} : ∀ {n : Nat} {S S' : Addr → Prop} {d : D} {v : V}, (∀ b, S b → S' b) → Rep H n S d v → Rep H n S' d v
  | 0, _, _, _, _, _, h => h.elim
  | n + 1, S, S', d, v, k, h => by
    cases d with
    | non => exact h
    | bl b => exact h
    | int i => exact h
    | str s => exact h
    | lst l =>
      obtain ⟨a, xs, e, s, ha, hl, p⟩ := h
      exact ⟨a, xs, e, k a s, ha, hl, pair_imp p fun d x r => rep_S k r⟩
    | tup l =>
      obtain ⟨a, xs, e, ha, hl, p⟩ := h
      exact ⟨a, xs, e, ha, hl, pair_imp p fun d x r => rep_S k r⟩
    | dic l =>
      obtain ⟨a, es, e, s, ha, hl, p⟩ := h
      exact ⟨a, es, e, k a s, ha, hl, pair_imp p fun q x r => ⟨r.1, rep_S (fun b z => ⟨k b z.1, z.2⟩) r.2⟩⟩
theorem rep_up {H : Hp} : ∀ {n : Nat} {S : Addr → Prop} {d : D} {v : V}, Rep H n S d v → Rep H (n + 1) S d v
  | 0, _, _, _, h => h.elim
  | n + 1, S, d, v, h => by
    cases d with
    | non => exact h
    | bl b => exact h
    | int i => exact h
    | str s => exact h
    | lst l =>
      obtain ⟨a, xs, e, s, ha, hl, p⟩ := h
      exact ⟨a, xs, e, s, ha, hl, pair_imp p fun d x r => rep_up r⟩
    | tup l =>
      obtain ⟨a, xs, e, ha, hl, p⟩ := h
      exact ⟨a, xs, e, ha, hl, pair_imp p fun d x r => rep_up r⟩
    | dic l =>
      obtain ⟨a, es, e, s, ha, hl, p⟩ := h
      exact ⟨a, es, e, s, ha, hl, pair_imp p fun q x r => ⟨r.1, rep_up r.2⟩⟩
/-- behind a lock of a, which S does not hold -/
theorem rep_lock {H : Hp} {n : Nat} {S : Addr → Prop} {d : D} {v : V} {a : Addr} {es : List (Key × V)} {u : HO} (ha : H a = some (.dK es)) (hS : ∀ b, S b → b ≠ a) (h : Rep H n S d v) : Rep (upd H a u) n S d v :=
  rep_to (fun b o hb z => by
    have ne : b ≠ a := by
      rcases z with z | ⟨xs, rfl⟩
      · exact hS b z
      · intro e; rw [e, ha] at hb; cases hb
    rw [upd_ne ne]; exact hb) h

/-! ### what a dict tells -/
theorem lk_cons {α : Type} (k j : Str) (d : α) (l : List (Str × α)) : List.lookup k ((j, d) :: l) = if k = j then some d else List.lookup k l := by
  by_cases h : k = j
  · subst h; simp [List.lookup]
  · have e : (k == j) = false := by simpa using h
    rw [if_neg h]; simp [List.lookup, e]
theorem vV_cons (k : Key) (e : Key × V) (l : List (Key × V)) : valV (e :: l) k = if e.1 = k then some e.2 else valV l k := by
  unfold valV
  rw [List.find?_cons]
  by_cases h : e.1 = k
  · rw [decide_eq_true h, if_pos h]; rfl
  · rw [decide_eq_false h, if_neg h]
theorem pair_lk {F : D → V → Prop} : ∀ {l : List (Str × D)} {es : List (Key × V)}, Paired (fun (q : Str × D) (e : Key × V) => e.1 = Sum.inr q.1 ∧ F q.2 e.2) l es → ∀ {k : Str} {d : D}, l.lookup k = some d → ∃ v, valV es (Sum.inr k : Key) = some v ∧ F d v
  | _, _, .nil, k, d, h => by simp [List.lookup] at h
  | (j, d0) :: l, e :: es, .cons h t, k, d, hk => by
    rw [lk_cons] at hk
    rw [vV_cons]
    by_cases c : k = j
    · rw [if_pos c] at hk
      cases hk
      exact ⟨e.2, by rw [if_pos (by rw [h.1, c])], h.2⟩
    · rw [if_neg c] at hk
      obtain ⟨v, h1, h2⟩ := pair_lk t hk
      exact ⟨v, by rw [if_neg (by rw [h.1]; intro z; exact c (Sum.inr.inj z).symm)]; exact h1, h2⟩
theorem pair_no {F : D → V → Prop} : ∀ {l : List (Str × D)} {es : List (Key × V)}, Paired (fun (q : Str × D) (e : Key × V) => e.1 = Sum.inr q.1 ∧ F q.2 e.2) l es → ∀ {k : Str}, l.lookup k = none → valV es (Sum.inr k : Key) = none
  | _, _, .nil, k, h => rfl
  | (j, d0) :: l, e :: es, .cons h t, k, hk => by
    rw [lk_cons] at hk
    rw [vV_cons]
    by_cases c : k = j
    · rw [if_pos c] at hk; cases hk
    · rw [if_neg c] at hk
      rw [if_neg (by rw [h.1]; intro z; exact c (Sum.inr.inj z).symm)]
      exact pair_no t hk

/-! ### expressions that only make objects -/
/-- te gives a v of which P holds (P stays when objects are made) -/
def EvP (te : TE) (σ : L2.St) (H : Hp) (P : V → Hp → Prop) : Prop := ∀ H1, Ex H H1 → ∀ Q : VK, (∀ v H2, Ex H1 H2 → P v H2 → Q v H2) → te σ H1 Q
section
variable {K : PySem.W.Frag} {σ : L2.St} {H H' : Hp} {te ta tb tc : TE} {v x y z : V} {t u : TT}
theorem Ev.p {P : V → Hp → Prop} (h : Ev te σ H v) (hp : ∀ H1, Ex H H1 → P v H1) : EvP te σ H P := fun H1 e Q q => h H1 e Q fun H2 e2 => q v H2 e2 (hp H2 (e.trans e2))
theorem ev_chain {r r' : R2} {b1 b2 : Bool} (ha : Ev ta σ H x) (hb : Ev tb σ H y) (hc : Ev tc σ H z) (h1 : Evl.RV r x y H (.bl b1)) (h2 : Evl.RV r' y z H (.bl b2)) : Ev (tChain r r' ta tb tc) σ H (.bl (b1 && b2)) := fun H1 e Q q =>
  ha H1 e _ fun H2 e2 => hb H2 (e.trans e2) _ fun H3 e3 => h1 H3 ((e.trans e2).trans e3) _ fun H4 e4 => ⟨b1, rfl, by
    cases b1 with
    | true => exact hc H4 (((e.trans e2).trans e3).trans e4) _ fun H5 e5 => h2 H5 ((((e.trans e2).trans e3).trans e4).trans e5) Q fun H6 e6 => q H6 ((((e2.trans e3).trans e4).trans e5).trans e6)
    | false => exact q H4 ((e2.trans e3).trans e4)⟩
theorem ev_isi {n : String} {ty : Value} {b : Bool} (h : Ev te σ H x) (hty : ∀ H1, Ex H H1 → TyX K H1 x ty) (hk : PySem.W.kitOne K ty (.type n) = some b) : Ev (tCB (rIsi K) (tCons te (tCons (tC (.ty n)) tNil))) σ H (.bl b) := fun H1 e Q q =>
  h H1 e _ fun H2 e2 => ⟨x, .ty n, ty, .type n, b, rfl, .ty n, hty H2 (e.trans e2), hk, q H2 e2⟩
theorem ev_isi2 {n m : String} {ty : Value} {b : Bool} (h : Ev te σ H x) (hty : ∀ H1, Ex H H1 → TyX K H1 x ty) (hk : PySem.W.kitAny K ty [.type n, .type m] = some b) :
    Ev (tCB (rIsiT K) (tCons te (tCons (tTup (tCons (tC (.ty n)) (tCons (tC (.ty m)) tNil))) tNil))) σ H (.bl b) := fun H1 e Q q =>
  h H1 e _ fun H2 e2 => ⟨(by show 2 ≤ sizeLine; decide), fun p hp => ⟨x, p, [.ty n, .ty m], ty, [.type n, .type m], b, rfl, upd_same, .cons (.ty n) (.cons (.ty m) .nil), hty _ ((e.trans e2).trans (Ex.new hp)), hk, q _ (e2.trans (Ex.new hp))⟩⟩
theorem ev_all {bs : List Bool} (h : EvL te σ H (bs.map V.bl)) : Ev (tCB (rAll K) (tCons te tNil)) σ H (.bl (bs.all id)) := fun H1 e Q q =>
  h H1 e _ fun p H2 _ e2 hp => ⟨p, bs, rfl, Evl.sq_of hp, q H2 e2⟩
theorem ev_lenS {s : Str} (h : Ev te σ H (.str s)) (hs : s.length ≤ 100000) : Ev (tCB (fun xs H Q => ∃ x n, xs = [x] ∧ LenV K x H n ∧ Q (.int n) H) (tCons te tNil)) σ H (.int (s.length : Int)) := fun H1 e Q q =>
  h H1 e _ fun H2 e2 => ⟨.str s, s.length, rfl, ⟨Evl.sz_of hs, rfl⟩, q H2 e2⟩
theorem ev_lenL {a : Addr} {xs : List V} (h : Ev te σ H (.ref a)) (hx : SqL K H a xs ∨ SqT K H a xs) : Ev (tCB (fun xs H Q => ∃ x n, xs = [x] ∧ LenV K x H n ∧ Q (.int n) H) (tCons te tNil)) σ H (.int (xs.length : Int)) := fun H1 e Q q =>
  h H1 e _ fun H2 e2 => ⟨.ref a, xs.length, rfl, hx.imp (fun z => ⟨xs, Evl.ex_l (e.trans e2) z, rfl⟩) fun z => ⟨xs, Evl.ex_t (e.trans e2) z, rfl⟩, q H2 e2⟩
theorem ev_lenK {a : Addr} {es : List (Key × V)} (h : Ev te σ H (.ref a)) (hx : H a = some (.dK es)) : Ev (tCB (fun xs H Q => ∃ a kvs, xs = [V.ref a] ∧ H a = some (.dK kvs) ∧ Q (.int kvs.length) H) (tCons te tNil)) σ H (.int (es.length : Int)) := fun H1 e Q q =>
  h H1 e _ fun H2 e2 => ⟨a, es, rfl, (e.trans e2) a _ hx, q H2 e2⟩
theorem ev_lenSet {P : Program} {w : World} {a : Addr} {l : List Str} (h : Ev te σ H (.ref a)) (hx : SqL K H a (l.map V.str) ∨ SqT K H a (l.map V.str)) (few : l.length ≤ 1000) :
    Ev (tCB (rLenTxs P w) (tCons (tCB (rSetS K P w) (tCons te tNil)) tNil)) σ H (.int ((met [] l).length : Int)) := fun H1 e Q q =>
  h H1 e _ fun H2 e2 => ⟨a, l, rfl, hx.imp (Evl.ex_l (e.trans e2)) (Evl.ex_t (e.trans e2)), Nat.lt_of_le_of_lt (Nat.add_le_add_right few 1) (by decide), fun p hp => ⟨p, met [] l, rfl, upd_same, by have := met_len l []; simp only [List.length_nil] at this; omega, q _ (e2.trans (Ex.new hp))⟩⟩
theorem ev_get {a : Addr} {es : List (Key × V)} {k : Str} (h : Ev ta σ H (.ref a)) (hk : Ev tb σ H (.str k)) (hx : Rd H a (.dK es)) (hv : valV es (Sum.inr k : Key) = some v) : Ev (tDGet ta tb) σ H v := fun H1 e Q q =>
  h H1 e _ fun H2 e2 => hk H2 (e.trans e2) _ fun H3 e3 => ⟨a, v, rfl, .inl ⟨es, Sum.inr k, Evl.ex_rd ((e.trans e2).trans e3) hx, rfl, hv.symm⟩, q H3 (e2.trans e3)⟩
theorem ev_din {a : Addr} {es : List (Key × V)} {k : Str} (hk : Ev tb σ H (.str k)) (h : Ev ta σ H (.ref a)) (hx : Rd H a (.dK es)) : Ev (tDIn tb ta) σ H (.bl (valV es (Sum.inr k : Key)).isSome) := fun H1 e Q q =>
  hk H1 e _ fun H2 e2 => h H2 (e.trans e2) _ fun H3 e3 => ⟨a, valV es (Sum.inr k), rfl, .inl ⟨es, Sum.inr k, Evl.ex_rd ((e.trans e2).trans e3) hx, rfl, rfl⟩, q H3 (e2.trans e3)⟩
/-- a call whose answer is a plain value -/
theorem ev_fn {sp : Sp} {vs : List V} {ta : TA} (h : EvA ta σ H vs) (hs : ∀ H1, Ex H H1 → ∀ Q : VK, (∀ H2, Ex H1 H2 → Q z H2) → sp vs H1 Q E0) : Ev (tCall sp [] E0 ta) σ H z := fun H1 e Q q =>
  h H1 e _ fun H2 e2 => by
    show sp (vs ++ []) H2 Q E0
    rw [List.append_nil]
    exact hs H2 (e.trans e2) Q fun H3 e3 => q H3 (e2.trans e3)
/-- an argument list whose first item is a new list -/
theorem ev_fnL {sp : Sp} {xs : List V} (h : Ev te σ H x) (hl : EvL tb σ H xs) (hs : ∀ p H1, Ex H H1 → H1 p = some (.lst xs) → ∀ Q : VK, (∀ H2, Ex H1 H2 → Q z H2) → sp [x, .ref p] H1 Q E0) : Ev (tCall sp [] E0 (tCons te (tCons tb tNil))) σ H z := fun H1 e Q q =>
  h H1 e _ fun H2 e2 => hl H2 (e.trans e2) _ fun p H3 _ e3 hp => hs p H3 ((e.trans e2).trans e3) hp Q fun H4 e4 => q H4 ((e2.trans e3).trans e4)
end

/-! ### comprehensions that keep every item -/
section
variable {K : PySem.W.Frag} {σ : L2.St} {H : Hp} {te tl : TE} {vs : List Nat} {J : It} {n : Nat} {G : Hp → Prop} {g : TG}
/-- what the new list holds behind i turns, in a heap that has only grown since H0 -/
def Cm (H0 : Hp) (f : Nat → V) (Dl i : Nat) (H' : Hp) : Prop := H0 Dl = none ∧ Ex H0 H' ∧ H' Dl = some (.lst ((List.range i).map f))
theorem cm_next {H0 H' : Hp} {f : Nat → V} {Dl i : Nat} {σ2 : L2.St} (p : Cm H0 f Dl i H') (hi : i < 100000) (he : Ev te σ2 H0 (f i)) :
    te σ2 H' fun y H4 => ∃ acc, H4 Dl = some (.lst acc) ∧ acc.length < sizeLine ∧ Cm H0 f Dl (i + 1) (upd H4 Dl (.lst (acc ++ [y]))) := by
  obtain ⟨p1, p2, p3⟩ := p
  refine he H' p2 _ fun H4 e4 => ⟨_, e4 Dl _ p3, Evl.sz_lt (by simpa using hi), p1, Ex.mut (p2.trans e4) p1, ?_⟩
  rw [upd_same, List.range_succ, List.map_append]
  rfl
/-- over anything that hands on the items xs and leaves the heap as it is -/
theorem el_walk {xs : List V} {f : Nat → V} (w : Walk J xs.length G (YAt xs)) (hz : xs.length ≤ 100000) {H1 : Hp} (hG : ∀ H', Ex H1 H' → G H') {j : Nat} (hw : ∀ x, wipe ((wipe σ vs).set j (some x)) vs = wipe σ vs)
    (he : ∀ (i : Nat) (x : V), xs[i]? = some x → ∀ H2, Ex H1 H2 → Ev te ((wipe σ vs).set j (some x)) H2 (f i)) {Q : VK} (q : ∀ p H2, H1 p = none → Ex H1 H2 → H2 p = some (.lst ((List.range xs.length).map f)) → Q (.ref p) H2) (Dl : Addr) (hD : H1 Dl = none) :
    ∃ W : Nat → Nat → Hp → Prop, (∃ m, W 0 m (upd H1 Dl (.lst []))) ∧ ∀ i m H, W i m H → (J.stop i H ∧ Q (.ref Dl) H) ∨ (J.go i H ∧ ∃ Nx : Hp → Prop, (∀ H', Nx H' → ∃ m', m' < m ∧ W (i + 1) m' H') ∧ ∀ x H', J.yld i H x H' → gName j x (wipe σ vs) H' fun σ2 H2 =>
      wipe σ2 vs = wipe σ vs ∧ tYes σ2 H2 fun b H3 => if b = true then te σ2 H3 fun y H4 => ∃ acc, H4 Dl = some (.lst acc) ∧ acc.length < sizeLine ∧ Nx (upd H4 Dl (.lst (acc ++ [y]))) else Nx H3) := by
  refine lc_it (g := gName j) (tt := tYes) w (Cm H1 f Dl) ⟨hD, Ex.new hD, upd_same⟩ (fun i H' _ p => hG H' p.2.1) (fun i x H2 H' hi p y => ?_) fun H' p => q Dl H' hD p.2.1 p.2.2
  obtain ⟨rfl, hx⟩ := y
  exact ⟨hw x, cm_next p (by omega) (he i x hx H1 (Ex.refl _))⟩
end
end Ssb

/-! Comprehensions and loops over texts, lists, tuples, dicts (under their lock). -/
namespace Ssb
open PySem PySem.Spec PyProof.Rows L2
open Evl (Ex Ev EvT EvL EvA EvU)
section
variable {K : PySem.W.Frag} {σ : L2.St} {H : Hp} {te tl ta td tb : TE} {vs : List Nat} {j : Nat} {f : Nat → V}
/-- len, list(..), tuple(..), truth: the readings by their names -/
def rLenA (K : PySem.W.Frag) : List V → Hp → VK → Prop := fun xs H Q => ∃ x n, xs = [x] ∧ LenV K x H n ∧ Q (V.int n) H
def rListA (K : PySem.W.Frag) : List V → Hp → VK → Prop := fun xs H Q => ∃ p ys, xs = [V.ref p] ∧ (SqL K H p ys ∨ SqT K H p ys) ∧ ∀ l, H l = none → Q (.ref l) (upd H l (.lst ys))
def rTupA (K : PySem.W.Frag) : List V → Hp → VK → Prop := fun xs H Q => ∃ p ys, xs = [V.ref p] ∧ ((SqL K H p ys ∧ ∀ l, H l = none → Q (.ref l) (upd H l (.tup ys))) ∨ (SqT K H p ys ∧ Q (.ref p) H))
def tTruA (K : PySem.W.Frag) (ta : TE) : TT := fun σ H Q => ta σ H fun x H' => ∃ k, TruV K x H' k ∧ Q k H'
theorem ev_allT {n : Nat} (h : EvL te σ H ((List.range n).map fun _ => V.bl true)) : Ev (tCB (rAll K) (tCons te tNil)) σ H (.bl true) := by
  have e : ((List.range n).map fun _ => V.bl true) = ((List.range n).map fun _ => true).map V.bl := by rw [List.map_map]; rfl
  rw [e] at h
  refine Evl.ev_is (ev_all h) ?_
  congr 1
  rw [List.all_eq_true]
  intro b hb
  obtain ⟨_, _, rfl⟩ := List.mem_map.mp hb
  rfl
theorem el_lcS {s : Str} (h : Ev ta σ H (.str s)) (hz : s.length ≤ 100000) (hw : ∀ x, wipe ((wipe σ vs).set j (some x)) vs = wipe σ vs)
    (he : ∀ (i : Nat) (c : Nat), s.cps[i]? = some c → ∀ H2, Ex H H2 → Ev te ((wipe σ vs).set j (some (.str ⟨#[c]⟩))) H2 (f i)) : EvL (tLc (iStr ta) (gName j) tYes te vs) σ H ((List.range s.length).map f) := fun H1 e Q q =>
  h H1 e _ fun H2 e2 => ⟨s, rfl, fun Dl hD => by
    have w : Walk (Its s) (s.cps.toList.map fun c => V.str ⟨#[c]⟩).length (fun _ => True) (YAt (s.cps.toList.map fun c => V.str ⟨#[c]⟩)) := by
      have l : (s.cps.toList.map fun c => V.str ⟨#[c]⟩).length = s.cps.size := by simp
      rw [l]
      refine walk_str.mono (fun _ z => z) fun i H v H' hi _ y => ?_
      obtain ⟨e, c, hc, rfl⟩ := y
      exact ⟨e, by simp [hc]⟩
    refine el_walk (f := f) w (by rw [List.length_map]; exact hz) (fun _ _ => trivial) hw (fun i x hx H3 e3 => ?_) (fun p H3 hp e3 hl => ?_) Dl hD
    · rw [List.getElem?_map] at hx
      cases hc : s.cps.toList[i]? with
      | none => rw [hc] at hx; cases hx
      | some c =>
        rw [hc] at hx
        cases hx
        exact he i c (by simpa using hc) H3 ((e.trans e2).trans e3)
    · refine q p H3 (Evl.fresh_back e2 hp) (e2.trans e3) ?_
      rw [hl]
      simp [Str.length]⟩
theorem el_lcA {a : Addr} {xs : List V} (h : Ev tl σ H (.ref a)) (hx : SqL K H a xs) (hz : xs.length ≤ 100000) (hw : ∀ x, wipe ((wipe σ vs).set j (some x)) vs = wipe σ vs)
    (he : ∀ (i : Nat) (x : V), xs[i]? = some x → ∀ H2, Ex H H2 → Ev te ((wipe σ vs).set j (some x)) H2 (f i)) : EvL (tLc (iList K tl) (gName j) tYes te vs) σ H ((List.range xs.length).map f) := fun H1 e Q q =>
  h H1 e _ fun H2 e2 => ⟨a, rfl, ⟨xs, Evl.ex_l (e.trans e2) hx⟩, fun Dl hD =>
    el_walk (f := f) walk_list hz (fun H3 e3 => Evl.ex_l ((e.trans e2).trans e3) hx) hw (fun i x h3 H3 e3 => he i x h3 H3 ((e.trans e2).trans e3)) (fun p H3 hp e3 hl => q p H3 (Evl.fresh_back e2 hp) (e2.trans e3) hl) Dl hD⟩
theorem el_lcT {a : Addr} {xs : List V} (h : Ev tl σ H (.ref a)) (hx : SqT K H a xs) (hz : xs.length ≤ 100000) (hw : ∀ x, wipe ((wipe σ vs).set j (some x)) vs = wipe σ vs)
    (he : ∀ (i : Nat) (x : V), xs[i]? = some x → ∀ H2, Ex H H2 → Ev te ((wipe σ vs).set j (some x)) H2 (f i)) : EvL (tLc (iTup K tl) (gName j) tYes te vs) σ H ((List.range xs.length).map f) := fun H1 e Q q =>
  h H1 e _ fun H2 e2 => ⟨a, rfl, ⟨xs, Evl.ex_t (e.trans e2) hx⟩, fun Dl hD =>
    el_walk (f := f) walk_tup hz (fun H3 e3 => Evl.ex_t ((e.trans e2).trans e3) hx) hw (fun i x h3 H3 e3 => he i x h3 H3 ((e.trans e2).trans e3)) (fun p H3 hp e3 hl => q p H3 (Evl.fresh_back e2 hp) (e2.trans e3) hl) Dl hD⟩
/-! ### under a lock -/
theorem unlock {H H' : Hp} {d : Addr} {u u' : HO} (hd : H d = some u) (e : Ex (upd H d u') H') : Ex H (upd H' d u) := fun b o hb => by
  by_cases h : b = d
  · subst h; rw [upd_same]; rw [hd] at hb; exact hb
  · rw [upd_ne h]; exact e b o (by rw [upd_ne h]; exact hb)
theorem lock_keys {d : Addr} {o : Obj} {es : List (Key × V)} : Walk (Itk d o es) (es.map fun e => kV e.1).length (fun H => H d = some (.frz o (.dK es))) (YAt (es.map fun e => kV e.1)) := by
  rw [List.length_map]
  refine walk_keys.mono (fun _ z => z) fun i H x H' _ _ y => ?_
  obtain ⟨e, k, v, hk, rfl⟩ := y
  exact ⟨e, by rw [List.getElem?_map, hk]; rfl⟩
theorem lock_vals {d : Addr} {o : Obj} {es : List (Key × V)} : Walk (Itd d o es) (es.map fun e => e.2).length (fun H => H d = some (.frz o (.dK es))) (YAt (es.map fun e => e.2)) := by
  rw [List.length_map]
  refine walk_values.mono (fun _ z => z) fun i H x H' _ _ y => ?_
  obtain ⟨e, k, hk⟩ := y
  exact ⟨e, by rw [List.getElem?_map, hk]; rfl⟩
theorem el_lcK {d : Addr} {es : List (Key × V)} (h : ∀ H1, Ev td σ H1 (.ref d)) (hd : H d = some (.dK es)) (hz : es.length ≤ 100000) (hw : ∀ x, wipe ((wipe σ vs).set j (some x)) vs = wipe σ vs)
    (he : ∀ (i : Nat) (k : Key) (v : V), es[i]? = some (k, v) → ∀ od H1 H2, Ex H H1 → Ex (upd H1 d (.frz od (.dK es))) H2 → Ev te ((wipe σ vs).set j (some (kV k))) H2 (f i)) : EvL (tLockE (tLc (iKeys td) (gName j) tYes te vs)) σ H ((List.range es.length).map f) := fun H1 e Q q => by
  have hd1 := e d _ hd
  refine ⟨d, .dK es, hd1, trivial, fun od => h _ _ (Ex.refl _) _ fun H2 e2 => ⟨d, od, rfl, .inl ⟨es, e2 d _ upd_same, fun Dl hD => ?_⟩⟩⟩
  refine el_walk (f := f) (Q := fun v H' => H' d = some (.frz od (.dK es)) ∧ Q v (upd H' d (.dK es))) lock_keys (by simpa using hz) (fun H3 e3 => e3 d _ (e2 d _ upd_same)) hw (fun i x hx H3 e3 => ?_) (fun p H3 hp e3 hl => ⟨e3 d _ (e2 d _ upd_same), ?_⟩) Dl hD
  · rw [List.getElem?_map] at hx
    cases hc : es[i]? with
    | none => rw [hc] at hx; cases hx
    | some c =>
      rw [hc] at hx
      cases hx
      exact he i c.1 c.2 hc od H1 H3 e (e2.trans e3)
  · have np : p ≠ d := fun z => by
      have := e2 d _ upd_same
      rw [z, this] at hp; cases hp
    refine q p _ ?_ (unlock hd1 (e2.trans e3)) ?_
    · have := Evl.fresh_back e2 hp
      rw [upd_ne np] at this; exact this
    · rw [upd_ne np, hl, List.length_map]
theorem el_lcV {d : Addr} {es : List (Key × V)} (h : ∀ H1, Ex H H1 → ∀ od, Ev td σ (upd H1 d (.frz od (.dK es))) (.ref d)) (hd : H d = some (.dK es)) (hz : es.length ≤ 100000) (hw : ∀ x, wipe ((wipe σ vs).set j (some x)) vs = wipe σ vs)
    (he : ∀ (i : Nat) (k : Key) (v : V), es[i]? = some (k, v) → ∀ od H1 H2, Ex H H1 → Ex (upd H1 d (.frz od (.dK es))) H2 → Ev te ((wipe σ vs).set j (some v)) H2 (f i)) : EvL (tLockE (tLc (iVals td) (gName j) tYes te vs)) σ H ((List.range es.length).map f) := fun H1 e Q q => by
  have hd1 := e d _ hd
  refine ⟨d, .dK es, hd1, trivial, fun od => h H1 e od _ (Ex.refl _) _ fun H2 e2 => ⟨d, od, es, rfl, e2 d _ upd_same, fun Dl hD => ?_⟩⟩
  refine el_walk (f := f) (Q := fun v H' => H' d = some (.frz od (.dK es)) ∧ Q v (upd H' d (.dK es))) lock_vals (by simpa using hz) (fun H3 e3 => e3 d _ (e2 d _ upd_same)) hw (fun i x hx H3 e3 => ?_) (fun p H3 hp e3 hl => ⟨e3 d _ (e2 d _ upd_same), ?_⟩) Dl hD
  · rw [List.getElem?_map] at hx
    cases hc : es[i]? with
    | none => rw [hc] at hx; cases hx
    | some c =>
      rw [hc] at hx
      cases hx
      exact he i c.1 c.2 hc od H1 H3 e (e2.trans e3)
  · have np : p ≠ d := fun z => by
      have := e2 d _ upd_same
      rw [z, this] at hp; cases hp
    refine q p _ ?_ (unlock hd1 (e2.trans e3)) ?_
    · have := Evl.fresh_back e2 hp
      rw [upd_ne np] at this; exact this
    · rw [upd_ne np, hl, List.length_map]
/-! ### a for under a lock: Pv by the lock's object, the turn, the slots, the heap -/
variable {D : Ends} {ts : TS} {g : TG}
def shut (D : Ends) (d : Addr) (u : HO) (od : Obj) (N : L2.St → Hp → Prop) : Ends :=
  { nx := N, ct := N, bk := fun σ' H' => H' d = some (.frz od u) ∧ D.nx σ' (upd H' d u), rt := fun v H' => H' d = some (.frz od u) ∧ D.rt v (upd H' d u) }
theorem for_lock {d : Addr} {es : List (Key × V)} {J : Obj → It} {ti : TI} {xs : Nat → Option V} (hd : H d = some (.dK es)) (hi : ∀ od R, R (J od) (upd H d (.frz od (.dK es))) → ti σ (upd H d (.frz od (.dK es))) R)
    {Y : Nat → Hp → V → Hp → Prop} (w : ∀ od, Walk (J od) es.length (fun H => H d = some (.frz od (.dK es))) Y) (Pv : Obj → Nat → L2.St → Hp → Prop) (h0 : ∀ od, Pv od 0 σ (upd H d (.frz od (.dK es)))) (hG : ∀ od i σ' H', i ≤ es.length → Pv od i σ' H' → H' d = some (.frz od (.dK es)))
    (hs : ∀ od i x σ' H' H2, i < es.length → Pv od i σ' H' → Y i H' x H2 → g x σ' H2 fun σ2 H3 => ts (shut D d (.dK es) od (Pv od (i + 1))) σ2 H3) (hn : ∀ od σ' H', Pv od es.length σ' H' → D.nx σ' (upd H' d (.dK es))) :
    tLock (tFor ti g ts) D σ H := by
  refine ⟨d, .dK es, hd, trivial, fun od => hi od _ ?_⟩
  exact for_it (w od) (Pv od) (h0 od) (fun i σ' H' hi p => hG od i σ' H' hi p) (fun i x σ' H' H2 hi p y => hs od i x σ' H' H2 hi p y) fun σ' H' p => ⟨hG od _ σ' H' (Nat.le_refl _) p, hn od σ' H' p⟩
end
end Ssb

/-! Comprehensions whose target is unpacked: lists, sets of texts. -/
namespace Ssb
open PySem PySem.Spec PyProof.Rows L2
open Evl (Ex Ev EvT EvL EvA EvU)
/-- the target takes x: the slots are σ2 behind it -/
def Unp (g : TG) (vs : List Nat) (σ σ2 : L2.St) (x : V) (H : Hp) : Prop := wipe σ2 vs = wipe σ vs ∧ ∀ Kont : L2.St → Hp → Prop, Kont σ2 H → g x (wipe σ vs) H Kont
section
variable {K : PySem.W.Frag} {σ : L2.St} {H : Hp} {te tl : TE} {vs : List Nat} {g : TG} {f : Nat → V}
theorem el_lcG {a : Addr} {xs : List V} (h : Ev tl σ H (.ref a)) (hx : SqL K H a xs) (hz : xs.length ≤ 100000) (he : ∀ (i : Nat) (x : V), xs[i]? = some x → ∀ H2, Ex H H2 → ∃ σ2, Unp g vs σ σ2 x H2 ∧ ∀ H3, Ex H H3 → Ev te σ2 H3 (f i)) :
    EvL (tLc (iList K tl) g tYes te vs) σ H ((List.range xs.length).map f) := fun H1 e Q q =>
  h H1 e _ fun H2 e2 => ⟨a, rfl, ⟨xs, Evl.ex_l (e.trans e2) hx⟩, fun Dl hD => by
    refine lc_list (K := K) (a := a) (xs := xs) (Cm H2 f Dl) ⟨hD, Ex.new hD, upd_same⟩ (fun i H' _ p => Evl.ex_l ((e.trans e2).trans p.2.1) hx) (fun i x H' hi p => ?_) fun H' p => q Dl H' (Evl.fresh_back e2 hD) (e2.trans p.2.1) p.2.2
    obtain ⟨σ2, ⟨hw, hk⟩, ev⟩ := he i x hi H' ((e.trans e2).trans p.2.1)
    exact hk _ ⟨hw, cm_next p (by have := (List.getElem?_eq_some_iff.mp hi).1; omega) (ev H2 (e.trans e2))⟩⟩
theorem yes_go {F G : Hp → Prop} (h : F H) : tYes σ H (fun b H3 => if b = true then F H3 else G H3) := by
  show (if true = true then F H else G H)
  rw [if_pos rfl]
  exact h
theorem ev_fld {a C dx : Addr} {fs : List (Str × V)} {v : V} {fn : Str} (h : Ev te σ H (.ref a)) (ho : H a = some (.ins C dx fs)) (c : Cls K C) (n : NoAttr K C fn) (l : fs.lookup fn = some v) : Ev (tFld K te fn) σ H v := fun H1 e Q q =>
  h H1 e _ fun H2 e2 => ⟨a, C, dx, fs, v, rfl, (e.trans e2) _ _ ho, c, n, l, q H2 e2⟩
theorem ev_sum {n : Nat} {c : Nat → Int} (h : EvL te σ H ((List.range n).map fun i => V.int (c i))) : Ev (tCB (rSum K) (tCons te tNil)) σ H (.int ((List.range n).map c).sum) := fun H1 e Q q =>
  h H1 e _ fun p H2 _ e2 hp => ⟨p, (List.range n).map c, rfl, by rw [List.map_map]; exact Evl.sq_of hp, q H2 e2⟩
/-- a pure answer handed on as an argument, a new tuple behind it -/
theorem rv_notN {x : V} : Evl.RV (fun x y H Q => y = .non ∧ Q (.bl (!decide (x = .non))) H) x .non H (.bl (!decide (x = .non))) := fun H1 _ _ q => ⟨rfl, q H1 (Ex.refl _)⟩
theorem rv_isN {x : V} : Evl.RV (fun x y H Q => y = .non ∧ Q (.bl (decide (x = .non))) H) x .non H (.bl (decide (x = .non))) := fun H1 _ _ q => ⟨rfl, q H1 (Ex.refl _)⟩
theorem met_snoc : ∀ (l acc : List Str) (x : Str), met acc (l ++ [x]) = put1 (met acc l) x
  | [], acc, x => rfl
  | y :: l, acc, x => met_snoc l _ x
/-- {name for .. in xs} -/
theorem ex_scG {P : Program} {w : World} {a : Addr} {xs : List V} {nms : List Str} (h : Ev tl σ H (.ref a)) (hx : SqL K H a xs) (hn : nms.length = xs.length) (few : xs.length ≤ 1000)
    (he : ∀ (i : Nat) (x : V), xs[i]? = some x → ∃ s, nms[i]? = some s ∧ ∀ H2, Ex H H2 → ∃ σ2, Unp g vs σ σ2 x H2 ∧ ∀ H3, Ex H H3 → Ev te σ2 H3 (.str s)) :
    Ev (tCB (rLenTxs P w) (tCons (tTxs P w (iList K tl) g tYes te vs) tNil)) σ H (.int ((met [] nms).length : Int)) := fun H1 e Q q =>
  h H1 e _ fun H2 e2 => ⟨a, rfl, ⟨xs, Evl.ex_l (e.trans e2) hx⟩, fun Dl hD => by
    have ml := met_len nms []
    simp only [List.length_nil] at ml
    refine ⟨fun i m H' => m = xs.length - i ∧ i ≤ xs.length ∧ Ex H2 H' ∧ H' Dl = some (Txs P w Dl (met [] (nms.take i))), ⟨xs.length, by simp, Nat.zero_le _, Ex.new hD, upd_same⟩, ?_⟩
    rintro i m H' ⟨rfl, hi, e3, hd⟩
    have sq := Evl.ex_l ((e.trans e2).trans e3) hx
    by_cases hlt : i < xs.length
    · refine .inr ⟨⟨xs, xs[i], sq, by simp [hlt]⟩, fun H' => Ex H2 H' ∧ H' Dl = some (Txs P w Dl (met [] (nms.take (i + 1)))), fun H' p' => ⟨xs.length - (i + 1), by omega, rfl, hlt, p'⟩, fun x H'' y => ?_⟩
      obtain ⟨rfl, y⟩ := y
      obtain ⟨s, hs, he2⟩ := he i x (y xs sq)
      obtain ⟨σ2, ⟨hw, hk⟩, ev⟩ := he2 _ ((e.trans e2).trans e3)
      refine hk _ ⟨hw, ev H2 (e.trans e2) _ e3 _ fun H4 e4 => ⟨s, met [] (nms.take i), rfl, e4 _ _ hd, ?_, Ex.mut (e3.trans e4) hD, ?_⟩⟩
      · have := met_len (nms.take i) []
        simp only [List.length_nil, List.length_take] at this
        exact Nat.lt_of_le_of_lt (show (met [] (nms.take i)).length + 1 ≤ 1001 by omega) (by decide)
      · rw [upd_same, List.take_add_one, hs]
        show _ = some (Txs P w Dl (met [] (nms.take i ++ [s])))
        rw [met_snoc]
    · have ei : i = xs.length := by omega
      subst ei
      refine .inl ⟨⟨xs, sq, Nat.le_refl _⟩, Dl, met [] nms, rfl, ?_, by omega, q H' (e2.trans e3)⟩
      rw [hd, ← hn, List.take_length]⟩
end
end Ssb

/-! Own errors over Exception whose __init__ keeps one attribute: made, raised. -/
namespace Ssb
open PySem PySem.Spec L2 PyProof.Rows

abbrev exBm : List Value := [.type "Exception", .type "BaseException", .type "object"]
/-- what the written part tells of such a class -/
structure OexE (K : PySem.W.Frag) (C : Addr) : Prop where
  over : PySem.W.excOver K C exBm = true
  made : PySem.W.excInitIn K C exBm "Exception.__new__" = true
  hd : PySem.W.hasDictIn K C = true
  sa : PySem.W.findIn K (.ref C) "__setattr__" = some (some (.builtin "object.__setattr__"))
  exC : PySem.W.subIn K (.ref C) (.type "BaseException") = some true
  tyC : PySem.W.typeIn K (.ref C) = some (.type "type")
  kC : PySem.W.keepIn K (.ref C) = true
section
variable {X : Cx} {pins : List (Addr × Obj)} {σ : L2.St} {H : Hp} {s : Shared} {a C : Addr} {f : Str} {y : V} {u : Value} {Q : Unit → Shared → Prop} {E : Value → Shared → Prop} {A : Around}
/-- the invariant behind the first attribute -/
theorem ost_inv {hp h' : Heap} {g : Array GenState} {d : Drawn} {t t' : Nat} {os : OsState} {dx t1 : Addr} (I : Inv X pins σ H ⟨hp, g, d, t, os⟩) (e : H a = some (exo a C none)) (ry : RelV y u) (dn : hp.objs.size ≤ dx) (dne : dx ≠ a) (k : ∀ b o, b ≠ a → hp.get? b = some o → h'.get? b = some o)
    (hx : h'.get? a = some ({ cls := .ref C, dict := some dx, data := .fields #[.ref t1, .none, .none, .none, .bool false, .none] } : Obj)) (hn : h'.Ns1 dx (fun z => if z = f then some u else none)) :
    H dx = none ∧ Inv X pins σ (upd (upd H dx (exd dx [(f, y)])) a (exo a C (some dx))) ⟨h', g, d, t', os⟩ := by
  have hnd : H dx = none := I.hok.fresh dn
  have old : ∀ b o, hp.get? b = some o → b ≠ dx := fun b o q => Nat.ne_of_lt (Nat.lt_of_lt_of_le (Heap.lt_size q) dn)
  have nota : ∀ b, H b = none → b ≠ a := fun b n z => by rw [z, e] at n; cases n
  refine ⟨hnd, I.un (t' := t') ⟨fun b o q n _ _ => k b o (nota b n) q, fun b o q n _ _ => ⟨o.slots, k b o (nota b n) q⟩, fun b o q n _ => (by rw [upd_ne (nota b n), upd_ne (old b o q)]; exact n), fun b o q _ => ?_,
    fun b xs q => (by rw [upd_ne (at_ne e q exo_tup), upd_ne (ne_of_none q hnd)]; exact q), fun b o v q => (by rw [upd_ne (at_ne e q exo_frz), upd_ne (ne_of_none q hnd)]; exact q), fun b ps q => ⟨#[], (by rw [upd_ne (at_ne e q exo_tbl), upd_ne (ne_of_none q hnd), q]; simp)⟩⟩ fun b o q => ?_⟩
  · by_cases hb : b = a
    · exact ⟨_, hb ▸ hx⟩
    · exact ⟨o, k b o hb q⟩
  · by_cases hb : b = a
    · subst hb; rw [upd_same] at q; cases q; exact exo_ok hx
    rw [upd_ne hb] at q
    by_cases hd : b = dx
    · subst hd; rw [upd_same] at q; cases q; exact exd_ok hn (relO_put (fs := []) ry fun g => True.intro)
    rw [upd_ne hd] at q
    refine (I.hok b o q).stay (fun c v hc z => k c v (hc.elim (fun hc => by rw [hc]; exact hb) fun hc => at_ne e hc exo_own) z) (fun c hc => ?_) (fun c xs hc => ?_)
    · rw [upd_ne (at_ne e hc exo_own), upd_ne (ne_of_none hc hnd)]; exact hc
    · rw [upd_ne (at_ne e hc exo_tup), upd_ne (ne_of_none hc hnd)]; exact hc
/-- self.f = y, the first attribute -/
theorem ost_newE (T : OexE X.K C) (I : Inv X pins σ H s) (e : H a = some (exo a C none)) (hno : PySem.W.findIn X.K (.ref C) f = some none) (ry : RelV y u)
    (h : ∀ dx s', H dx = none → dx ≠ a → Inv X pins σ (upd (upd H dx (exd dx [(f, y)])) a (exo a C (some dx))) s' → Q () s') : wpAny (model X.prog X.w) A (setAttr (.ref a) f u) Q E s := by
  obtain ⟨t1, ho⟩ := exo_at I.hok e
  obtain ⟨hp, g, d, t, os⟩ := s
  obtain ⟨cd, hc, hd'⟩ := PySem.W.any_some T.hd
  have hxs : a ≠ hp.objs.size := Nat.ne_of_lt (Heap.lt_size ho)
  refine PySem.W.set_plain I.kIn (od := none) ⟨ho, rfl, rfl, trivial⟩ T.sa (PySem.W.osa_openX (od := none) PySem.F.store_Exception I.kIn ⟨ho, rfl, rfl, trivial⟩ T.over (r := none) (by unfold PySem.W.takerIn; rw [hno]; rfl) fun b => ?_)
  refine wpAny_bind (wpAny_pure (wpAny_bind (PySem.W.instanceDict_exc (t := t1) (c2 := .none) ho (PySem.W.looks_clsIn I.kIn hc) hd' ?_)))
  refine PySem.HandSPX.store_in_new ?_ fun h' tk' hn' hs => ?_
  · exact ⟨_, #[], _, (Heap.get?_update_ne _ _ _ _ hxs.symm).trans (Heap.get?_push_at rfl rfl), rfl, fun e he => absurd he (by simp), fun _ => rfl⟩
  · have k : ∀ b o, b ≠ a → hp.get? b = some o → h'.get? b = some o := fun b o nb ho' => (hs.2 b (Nat.ne_of_lt (Heap.lt_size ho'))).trans ((Heap.get?_update_ne _ _ _ _ nb).trans (Heap.get?_push_of_some _ ho'))
    have hx : h'.get? a = some ({ cls := .ref C, dict := some hp.objs.size, data := .fields #[.ref t1, .none, .none, .none, .bool false, .none] } : Obj) := (hs.2 a hxs).trans (Heap.get?_update_self _ (Heap.get?_push_of_some _ ho) rfl)
    obtain ⟨n, J⟩ := ost_inv (t' := tk') I e ry (Nat.le_refl _) hxs.symm k hx hn'
    exact h _ _ n hxs.symm J
end
/-! ### readings and rules -/
/-- self.f = e within such an __init__ -/
def tOsE (K : PySem.W.Frag) (f : Str) (to te : TE) : TS := fun D σ H => te σ H fun y H1 => to σ H1 fun x H2 => ∃ a C : Addr, x = .ref a ∧ OexE K C ∧ PySem.W.findIn K (.ref C) f = some none ∧
  H2 a = some (exo a C none) ∧ ∀ dx, H2 dx = none → dx ≠ a → D.nx σ (upd (upd H2 dx (exd dx [(f, y)])) a (exo a C (some dx)))
section
variable {X : Cx} {o e : Expr} {es : List Expr} {to te : TE} {ta : TA} {f : Str} {p p' pos : Pos}
theorem ps_osE (ho : PE X o to) (he : PE X e te) (hs : swapsWith e (some (.Attribute o f p')) pos.line X.env = pure false := by rfl) : PS X (.Assign [.Attribute o f p'] e pos) (tOsE X.K f to te) :=
  ⟨fun pins s σ H D I h => plainObj_wpAny_Assign_Attribute (thn (he.run pins s σ H _ I h) fun v s1 ⟨y, H1, I1, r1, q1⟩ => thn (ho.run pins s1 σ H1 _ I1 q1) fun u s2 ⟨x, H2, I2, r2, a, C, ex, T, hno, ea, q⟩ => by
    subst ex
    cases (show u = Value.ref a from r2)
    exact ost_newE T I2 ea hno r1 fun dx s' n ne J => ⟨σ, _, J, q dx n ne⟩) hs⟩
/-- C(e, ..) as what is raised; its __init__ keeps sp -/
theorem pmk_oexE {x : Str} {C fI : Addr} {k j : Nat} {fd : FuncData} {ps : List Str} {sp : Sp} (T : OexE X.K C) (G : Mt X.prog X.w X.K X.mg X.base C "__init__" k ps sp fI fd) (tI : PySem.W.typeIn X.K (.ref fI) = some (.type "function")) (hr : Room j X.A) (hm : X.mg x = some (.ref C)) (ha : PA X (e :: es) ta) (hj : k + 1 ≤ j := by first | decide | omega)
    (hg : Gl X x := by rfl) (hdb : (x == ("__debug__" : Str)) = false := by decide) (he : starEach (e :: es) X.env = (false, eval e X.env) :: starEach es X.env := by rfl) (hpl : (backTo pos (starEach es X.env)).any (·.1) = false := by rfl) : PMk X (.Call (.Name x p) (e :: es) [] pos) (tMkO C sp [] ta) := by
  intro pins s σ H Q I h
  refine wpAny_Call_Name_kw (ld_glob I hg hm ?_ hdb)
  refine PySem.W.callWith_K (h₀ := X.base) I.ok.mod.kin T.kC (thn (ha.run pos pins s σ H _ I h) fun us s1 ⟨vs, H1, I1, r1, hz, q1⟩ => ⟨I1.kIn, ?_⟩) he hpl
  show wpAny _ _ (call (.ref C) us) _ _ _
  obtain ⟨hp, g, dr, tk, os⟩ := s1
  obtain ⟨nm, N, qn, bs, bm, hdct, sn, sub, ab, col, dd, k0, k1, k2, k3, k5, hC, hT⟩ := PySem.W.excInit_of I1.kIn T.made
  have hn : H1 (hp.objs.size + 1) = none := I1.hok.fresh (Nat.le_succ _)
  have hq := q1 (hp.objs.size + 1) hn
  rw [List.append_nil] at hq
  have kk : ∀ b o, hp.get? b = some o → ((hp.push (PySem.W.kdv_tup us)).push (PySem.HandSPX.excO C hp.objs.size)).get? b = some o := fun b o z => Heap.get?_push_of_some _ (Heap.get?_push_of_some _ z)
  have hget : ((hp.push (PySem.W.kdv_tup us)).push (PySem.HandSPX.excO C hp.objs.size)).get? (hp.objs.size + 1) = some (PySem.HandSPX.excO C hp.objs.size) := by heap_get
  have I2 := I1.laid (t' := tk) (o := exo (hp.objs.size + 1) C none) kk (Nat.le_succ _) (exo_ok hget)
  have r2 : Vals (V.ref (hp.objs.size + 1) :: vs) (Value.ref (hp.objs.size + 1) :: us) := .cons rfl r1
  have hl : (Value.ref (hp.objs.size + 1) :: us ++ []).length = ps.length := by rw [List.append_nil, ← r2.length, G.ok.len _ _ _ _ hq]
  have hb := G.bd ⟨(hp.push (PySem.W.kdv_tup us)).push (PySem.HandSPX.excO C hp.objs.size), g, dr, tk, os⟩ (Value.ref (hp.objs.size + 1) :: us) I2.kIn hl
  rw [List.append_nil] at hb
  have hus : us.length ≤ sizeLine := by rw [← Paired.length r1, sizeLine_eq]; omega
  refine wpAny_call (PySem.HandSPX.call_own PySem.F.excBase_Exception hT hC (PySem.W.looks_findIn I1.kIn G.mt.at_) (fun self => PySem.W.bind_fn I1.kIn self tI) hus
    (codeAny_mono (G.ok.run _ X.stack _ _ ⟨Value.ref (hp.objs.size + 1) :: us, []⟩ (Value.ref (hp.objs.size + 1) :: us) _ _ E0 ((hr.mono hj).make C us []) (I2.env0.make C us []) hb r2 hq) fun r s' hq' => ?_))
  cases r with
  | error er => exact hq'.elim
  | ok fl =>
    cases fl with
    | ret u =>
      obtain ⟨v, H2, os2, bare2, un2, hok2, rv, ev, d, fs, ea, ed, hd1, q2⟩ := hq'
      subst ev
      obtain ⟨h2, g2, d2, t2, os'⟩ := s'
      exact ⟨rv, mk_end (raises_own T.exC T.tyC) I1 (Nat.le_succ _) kk un2 hok2 os2 bare2 ea ed hd1 q2⟩
    | next => exact hq'.elim
    | brk => exact hq'.elim
    | cont => exact hq'.elim
end
end Ssb

/-! try .. except C as e, where the caught error stays known behind the suite. -/
namespace Ssb
open PySem PySem.Spec L2 PyProof.Rows
/-- at a: an error that was caught, of this class, with this dict -/
def exk (a : Addr) (cls : Value) (d : Option Addr) : HO := .ext fun h => ∃ oe vs, h.get? a = some oe ∧ Zc cls d oe ∧ oe.data = .fields vs
theorem exk_ok {P : Program} {w : World} {H : Hp} {h : Heap} {a : Addr} {cls : Value} {d : Option Addr} {oe : Obj} {vs : Array Value} (e : h.get? a = some oe) (z : Zc cls d oe) (f : oe.data = .fields vs) : ObjOk P w H h a (exk a cls d) :=
  ⟨⟨oe, vs, e, z, f⟩, ⟨oe, e⟩, fun _ _ ⟨o2, v2, e2, z2, f2⟩ k => ⟨o2, v2, k _ e2, z2, f2⟩⟩
theorem exk_at {P : Program} {w : World} {H : Hp} {h : Heap} {a : Addr} {cls : Value} {d : Option Addr} (hok : HOk P w H h) (e : H a = some (exk a cls d)) : ∃ oe vs, h.get? a = some oe ∧ Zc cls d oe ∧ oe.data = .fields vs := by
  have x : ObjOk P w H h a (.ext fun h => ∃ oe vs, h.get? a = some oe ∧ Zc cls d oe ∧ oe.data = .fields vs) := hok a _ e
  exact x.1
section
variable {X : Cx} {pins : List (Addr × Obj)} {σ : L2.St} {H : Hp} {s : Shared}
theorem adopt {a : Addr} {oe : Obj} {vs : Array Value} {cls : Value} {d : Option Addr} (I : Inv X ((a, oe) :: pins) σ H s) (hd : oe.data = .fields vs) (hz : Zc cls d oe) (n0 : ∀ b o, X.s_0.heap.get? b = some o → b ∉ X.ex → b ≠ a) (np : ∀ p ∈ X.pn ++ pins, p.1 ≠ a) : Inv X pins σ (upd H a (exk a cls d)) s := by
  obtain ⟨ge, na, nL, nF, nC⟩ := I.pin (a, oe) (List.mem_append_right _ List.mem_cons_self)
  have keep : ∀ {b : Addr} {o : HO}, H b = some o → (upd H a (exk a cls d)) b = some o := fun {b o} hb => by
    rw [upd_ne (fun z => by rw [z, na] at hb; cases hb)]; exact hb
  have B := I.base
  refine ⟨I.ok, I.os, I.bare, ⟨B.keep, B.slot, fun b o q n x => (by rw [upd_ne (n0 b o q x)]; exact B.free b o q n x), B.there, fun b xs q => keep (B.tups b xs q), fun b o u q => keep (B.frzs b o u q), fun b ps q => (B.tbls b ps q).imp fun _ h => keep h⟩, I.loc, I.cell, ?_, fun x c hc => ?_, fun p hp => ?_, fun b o q => ?_, I.len⟩
  · rw [upd_ne (Ne.symm nL)]; exact I.free
  · obtain ⟨v, oc, e1, e2⟩ := I.cell x c hc
    have : c ≠ a := fun z => by
      rw [z] at e1
      have e3 := Option.some.inj (ge.symm.trans e1)
      have e3 : oe = oc := e3
      rw [← e3] at e2
      exact nC _ (by simpa using e2)
    rw [upd_ne this]; exact I.freeC x c hc
  · obtain ⟨e1, e2, e3⟩ := I.pin p (by
      rcases List.mem_append.mp hp with h | h
      · exact List.mem_append_left _ h
      · exact List.mem_append_right _ (List.mem_cons_of_mem _ h))
    exact ⟨e1, by rw [upd_ne (np p hp)]; exact e2, e3⟩
  · by_cases hb : b = a
    · subst hb; rw [upd_same] at q; cases q; exact exk_ok ge hz hd
    · rw [upd_ne hb] at q
      exact (I.hok b o q).stay (fun _ _ _ z => z) (fun _ hc => keep hc) fun _ _ hc => keep hc
end
/-- what the clause asks of an error of the body: as wAs, but behind the suite a is known -/
def wKeep (K : PySem.W.Frag) (c : Value) (i : Nat) (ts : Addr → Value → Option Addr → TS) (Wout : WX) (D : Ends) : WX := fun cls d σ H => ∃ b, PySem.W.exmOne K cls c = some b ∧
  (b = true → ∀ a, H a = none → ts a cls d { nx := fun σ' H' => D.nx (σ'.set i none) (upd H' a (exk a cls d)), rt := fun v H' => D.rt v (upd H' a (exk a cls d)), bk := fun σ' H' => D.bk (σ'.set i none) (upd H' a (exk a cls d)), ct := fun σ' H' => D.ct (σ'.set i none) (upd H' a (exk a cls d)) } (σ.set i (some (.ref a))) H) ∧ (b = false → Wout cls d σ H)
section
variable {X : Cx} {x n : Str} {c : Value} {i : Nat} {body suite : List Stmt} {b₀ : Stmt} {np pos pos' : Pos} {tb : WX → TS} {ts : Addr → Value → Option Addr → TS} {Wout : WX}
theorem ps_try_keep (hs : X.stack = X.env :: X.outer) (hf : X.env.frame = some X.env.locals) (hN : X.N.Nodup) (hi : X.N[i]? = some n) (hln : X.env.kindOf n = some .local) (hc : Names X x c) (tk : Takes X Wout)
    (hb : ∀ (W : WX) (pn : List (Addr × Obj)) (xe : Value → Shared → Prop), Takes (X.tr pn xe) W → PassesOwn (model X.prog X.w) X.A X.env xe → PSs (X.tr pn xe) body (tb W))
    (hsu : ∀ (a : Addr) (oe : Obj) (cls : Value) (d : Option Addr) (pn : List (Addr × Obj)), Zc cls d oe → (∃ vs, oe.data = .fields vs) → PSs (X.suite a ((a, oe) :: pn)) (b₀ :: suite) (ts a cls d)) :
    PS X (.Try body [.ExceptHandler (some (.Name x np)) (some n) (b₀ :: suite) pos'] [] [] pos) (fun D σ H => tb (wKeep X.K c i ts Wout D) D σ H) := by
  refine ⟨fun pins s σ H D I h => ?_⟩
  have ok := I.ok
  have fr0 : X.A.frames = some (X.env :: X.outer) := by rw [ok.frames, hs]
  refine wpAny_Try_except (wpAny_mono ((hb (wKeep X.K c i ts Wout D) (X.pn ++ pins) (fun e s₁ => wpAny (model X.prog X.w) X.A (noteFrame e X.env) (fun _ s₂ => wpAny (model X.prog X.w) X.A (setFlight e none) (fun _ s₃ => wpAny (model X.prog X.w) X.A (handleBy e X.env [.ExceptHandler (some (.Name x np)) (some n) (b₀ :: suite) pos']) (SP X pins D) X.xe s₃) X.xe s₂) X.xe s₁) (fun u s' xx => ?_) PassesOwn.looking).run [] s σ H D (I.toTry _) h) (fun f s1 hsp => ?_) (fun e s1 he => he))
  · obtain ⟨a, B, sI, pins', σ1, HH, cls, d, rfl, J0, nb, up, sky, na, os, ag, b, hb1, hyes, hno⟩ := xx
    have J : Inv X pins σ1 HH sI := J0.ofTry ok
    rw [show (X.tr (X.pn ++ pins) _).stack = X.env :: X.outer from hs] at sky
    refine Sky.land Zc.steady fr0 hf sky fun h3 fl3 up3 => ?_
    have J3 : Inv X pins σ1 HH { s' with heap := h3 } := J.landed nb fl3.1 (up.trans up3) os ag
    obtain ⟨oe3, vs3, he3, hz3, hd3⟩ := fl3.there
    have nfr : a ∉ frs (X.env :: X.outer) := fun hm => by
      obtain ⟨_, o', e', hnf⟩ := fl3.2.2.1.mem hm
      rw [he3] at e'; cases e'; exact hnf _ hd3
    have nL : a ≠ X.env.locals := fun z => nfr (List.mem_filterMap.mpr ⟨X.env, List.mem_cons_self, (by rw [hf, z])⟩)
    have nF : a ∉ X.fs := fun hm => (List.mem_filterMap.mp hm).elim fun e he => nfr (List.mem_filterMap.mpr ⟨e, List.mem_cons_of_mem _ he.1, he.2⟩)
    -- the error is younger than all that stood
    have young : sI.heap.get? a = none := by
      cases hg : sI.heap.get? a with
      | none => rfl
      | some o =>
        have := nb a o hg (by rw [show (X.tr (X.pn ++ pins) _).stack = X.env :: X.outer from hs]; exact nfr)
        rw [fl3.2.1] at this; cases this
    have n0 : ∀ b o, X.s_0.heap.get? b = some o → b ∉ X.ex → b ≠ a := fun b o q hx z => by
      obtain ⟨o', h'⟩ := J.base.there b o q hx
      rw [z, young] at h'; cases h'
    have np0 : ∀ p ∈ X.pn ++ pins, p.1 ≠ a := fun p hp z => by
      have := (J.pin p hp).1
      rw [z, young] at this; cases this
    have S3 := J3.suite he3 hd3 na nL nF
    have LM := PySem.W.exm_one (M := model X.prog X.w) J3.kIn (show PySem.W.Looks (model X.prog X.w) h3 (typeOf (.ref a)) cls from fun A Q E s k q => wpAny_typeOf_ref (k _ _ he3) (by rw [hz3.1]; exact q)) hb1
    refine wpAny_handleBy_cons (codeAny_handlers_test ?_) (by intro q; cases q)
    have test : ∀ {Q : Value → Shared → Prop} {E : Value → Shared → Prop}, Q c { s' with heap := h3 } → wpAny (model X.prog X.w) (X.A.mark (some (.ref a))) (eval (.Name x np) X.env) Q E { s' with heap := h3 } := fun {Q E} q => by
      obtain ⟨hg, hdb, hm | ⟨hm, hv, hnn⟩⟩ := hc
      · exact ld_glob S3 hg hm q hdb
      · exact ld_blt S3 hg hm hv q hnn hdb
    refine test (LM.here ?_)
    cases b with
    | true =>
      refine codeAny_handlers_suite_as (HandSPX.lands_againZ fl3 fun h4 fl4 up4 => ?_)
      have J4 : Inv X pins σ1 HH { s' with heap := h4 } := J.landed nb fl4.1 ((up.trans up3).trans up4) os ag
      obtain ⟨oe4, vs4, he4, hz4, hd4⟩ := fl4.there
      refine store_ok (X := X.suite a ((a, oe4) :: (X.pn ++ pins))) (v := .ref a) (J4.suite he4 hd4 na nL nF) hN hi (.inl hln) rfl (fun s5 S5 => ?_) (.inr hln)
      refine wpAny_mono ((hsu a oe4 cls d (X.pn ++ pins) hz4 ⟨_, hd4⟩).run [] s5 _ HH _ S5 (hyes rfl a na)) (fun f s6 hsp => ?_) (fun _ _ z => False.elim z)
      have fin : ∀ {σ6 : L2.St} {H6 : Hp} {Q : Shared → Prop}, Inv (X.suite a ((a, oe4) :: (X.pn ++ pins))) [] σ6 H6 s6 → (∀ s7, Inv X pins (σ6.set i none) (upd H6 a (exk a cls d)) s7 → Q s7) →
          wpAny (model X.prog X.w) X.A (do bindName X.env n .none; unbindBehindTheSuite X.env n pos') (fun _ s7 => Q s7) X.xe s6 := fun {σ6 H6 Q} S6 hq => by
        have I6 : Inv X ((a, oe4) :: pins) σ6 H6 s6 := ⟨ok, S6.os, S6.bare, S6.base, S6.loc, S6.cell, S6.free, S6.freeC, fun p hp => S6.pin p (by
          rw [List.append_nil]
          rcases List.mem_append.mp hp with h | h
          · exact List.mem_cons_of_mem _ (List.mem_append_left _ h)
          · rcases List.mem_cons.mp h with h | h
            · rw [h]; exact List.mem_cons_self
            · exact List.mem_cons_of_mem _ (List.mem_append_right _ h)), S6.hok, S6.len⟩
        exact gone_ok I6 hN hi hln fun s7 J7 => hq s7 (adopt J7 hd4 hz4 n0 np0)
      cases f with
      | ret u => obtain ⟨v6, σ6, H6, S6, r6, q6⟩ := hsp; exact fin S6 fun s7 J7 => ⟨_, _, _, J7, r6, q6⟩
      | next => obtain ⟨σ6, H6, S6, q6⟩ := hsp; exact fin S6 fun s7 J7 => ⟨_, _, J7, q6⟩
      | brk => obtain ⟨σ6, H6, S6, q6⟩ := hsp; exact fin S6 fun s7 J7 => ⟨_, _, J7, q6⟩
      | cont => obtain ⟨σ6, H6, S6, q6⟩ := hsp; exact fin S6 fun s7 J7 => ⟨_, _, J7, q6⟩
    | false =>
      show wpAny _ X.A (handleBy (.ref a) X.env []) _ _ _
      obtain ⟨k1, k2, k3, oe, vs, T, oT, ts', he, hz, hd, h1, hr⟩ := id fl3
      refine wpAny_handleBy_nil ?_
      unfold PySem.passOn
      refine wpAny_bind (wpAny_field he hd h1 ?_)
      rw [if_neg (show ¬ ((Value.ref T == Value.none) = true) by simp)]
      have go : wpAny (model X.prog X.w) X.A (setFlight (.ref a) X.env.frame) (fun _ s4 => wpAny (model X.prog X.w) X.A (throw (.ref a) : Sem Flow) (SP X pins D) X.xe s4) X.xe { s' with heap := h3 } := by
        rw [hf]
        exact HandSPX.setFlight_upZ fl3 fun h4 hh4 up4 => wpAny_throw (tk _ _ ⟨a, B, sI, pins, σ1, HH, cls, d, rfl, J, nb, (up.trans up3).trans up4, .inr (.inr (by rw [hs]; exact hh4)), na, os, ag, hno rfl⟩)
      first
        | exact wpAny_bind go
        | exact wpAny_bind (wpAny_pure (wpAny_bind go))
  · cases f with
    | ret u => obtain ⟨v, σ1, HH, J, r, q⟩ := hsp; exact ⟨v, σ1, HH, J.ofTry ok, r, q⟩
    | next => obtain ⟨σ1, HH, J, q⟩ := hsp; exact wpAny_execs_nil ⟨σ1, HH, J.ofTry ok, q⟩
    | brk => obtain ⟨σ1, HH, J, q⟩ := hsp; exact ⟨σ1, HH, J.ofTry ok, q⟩
    | cont => obtain ⟨σ1, HH, J, q⟩ := hsp; exact ⟨σ1, HH, J.ofTry ok, q⟩
end
end Ssb

/-! A caught error that is kept: its attribute, isinstance of it. -/
namespace Ssb
open PySem PySem.Spec L2 PyProof.Rows
/-- what the class says, so that isinstance asks its instances rightly -/
structure ExK (K : PySem.W.Frag) (C : Addr) : Prop where
  xf : XfC K C
  cl : (PySem.W.clsIn K C).isSome = true
  ha : PySem.W.findIn K (.ref C) "__class__" = some (some (.builtin "object.__class__"))
  hn : PySem.W.specialIn K (.builtin "object.__class__") "__get__" = some (some (.builtin "getset_descriptor.__get__"))
  ht : PySem.W.takesIn K (.builtin "object.__class__") = some true
  hm : PySem.W.mroIn K C (.type "object") = some true
theorem exk_cl {K : PySem.W.Frag} {C : Addr} (h : PySem.W.hasDictIn K C = true) : (PySem.W.clsIn K C).isSome = true := by
  obtain ⟨cd, hc, _⟩ := PySem.W.any_some h
  rw [hc]; rfl
section
variable {X : Cx} {pins : List (Addr × Obj)} {σ : L2.St} {H : Hp} {s : Shared}
/-- the kept error as an instance of its class -/
theorem kept_inst {a C d : Addr} {fs : List (Str × V)} (I : Inv X pins σ H s) (e : H a = some (exk a (.ref C) (some d))) (ed : H d = some (.xd fs)) : ∃ (oe od : Obj) (mA : Str → Option Value), PySem.W.InstAt s.heap a oe C (some od) ∧ (∀ f, PySem.W.lookIn f od = some (mA f)) ∧ ∀ f, RelO (fs.lookup f) (mA f) := by
  obtain ⟨oe, vs, he, hz, hf⟩ := exk_at I.hok e
  obtain ⟨mA, hns, hr⟩ := (show ObjOk X.prog X.w H s.heap d (.xd fs) from I.hok d _ ed)
  obtain ⟨od, ho, hl⟩ := lookIn_ns hns
  exact ⟨oe, od, mA, ⟨he, hz.1, (by unfold PySem.W.notCls; rw [hf] <;> rfl), (by rw [hz.2]; exact ho)⟩, hl, hr⟩
/-- e.f, e a kept error -/
def tFldE (C : Addr) (f : Str) (te : TE) : TE := fun σ H Q => te σ H fun x H1 => ∃ (a d : Addr) (fs : List (Str × V)) (v : V), x = .ref a ∧ H1 a = some (exk a (.ref C) (some d)) ∧ H1 d = some (.xd fs) ∧ fs.lookup f = some v ∧ Q v H1
theorem pe_fldE {C : Addr} {e : Expr} {te : TE} {pos : Pos} {n : Str} (T : XfC X.K C) (hno : PySem.W.findIn X.K (.ref C) n = some none) (he : PE X e te) (hb : attributeBase e n X.env (eval e X.env) = eval e X.env := by rfl) : PE X (.Attribute e n pos) (tFldE C n te) := by
  refine ⟨fun pins s σ H Q I h => attr_of hb (thn (he.run pins s σ H _ I h) fun u s1 ⟨x, H1, I1, rx, a, d, fs, v, ex, ea, ed, l, q⟩ => ?_)⟩
  subst ex
  cases (show u = Value.ref a from rx)
  obtain ⟨oe, od, mA, J, hl, hr⟩ := kept_inst I1 ea ed
  obtain ⟨u, hu, ru⟩ := RelO.some_of (v := v) (o := mA n) (by rw [← l]; exact hr n)
  exact HandSPX.exc_get I1.kIn J T.ga T.gg T.exC (PySem.W.findObj_own T.hdC hno rfl (by rw [hl, hu])) (handed_of ru) ⟨v, H1, I1.tok _, ru, q⟩
/-- isinstance(e, c), e a kept error -/
def rIsiE (K : PySem.W.Frag) : List V → Hp → VK → Prop := fun xs H Q => ∃ (a C d : Addr) (fs : List (Str × V)) (c : V) (u : Value) (b : Bool), xs = [.ref a, c] ∧ ClsV c u ∧ ExK K C ∧ H a = some (exk a (.ref C) (some d)) ∧ H d = some (.xd fs) ∧ PySem.W.kitOne K (.ref C) u = some b ∧ Q (.bl b) H
theorem call_isiE : CallR X (.builtin "isinstance") (rIsiE X.K) := by
  intro pins s σ H xs us Q I r h
  obtain ⟨a, C, d, fs, c, u, b, rfl, k, T, ea, ed, e, q⟩ := h
  obtain ⟨u1, u2, rfl, r1, r2⟩ := vals2 r
  cases k.eq r2
  cases (show u1 = Value.ref a from r1)
  obtain ⟨oe, od, mA, J, hl, hr⟩ := kept_inst I ea ed
  exact PySem.W.kia_one (PySem.W.kitx_exc (od := some od) T.cl T.xf.ga T.xf.gg T.xf.exC T.ha T.hn T.ht T.hm) I.kIn J e (fun z => nomatch z) fun tk => ⟨.bl b, H, I.tok tk, rfl, q⟩
end
end Ssb

/-! Defs and methods that may raise, called where what is raised is asked for at the caller's slots. -/
namespace Ssb
open PySem PySem.Spec L2 PyProof.Rows
structure FnX (P : Program) (w : World) (K : PySem.W.Frag) (mg : Str → Option Value) (base : Heap) (nm : Str) (k : Nat) (ps : List Str) (sp : Sp) (f : Addr) (fd : FuncData) : Prop where
  ok : FnOk P w K mg base (L2.CX P w) k f fd ps sp
  at_ : mg nm = some (.ref f)
  kp : PySem.W.keepIn K (.ref f) = true
  bd : Binds K fd ps []
structure MtX (P : Program) (w : World) (K : PySem.W.Frag) (mg : Str → Option Value) (base : Heap) (C : Addr) (nm : Str) (k : Nat) (ps : List Str) (sp : Sp) (f : Addr) (fd : FuncData) : Prop where
  ok : FnOk P w K mg base (L2.CX P w) k f fd ps sp
  mt : Meth K C nm f
  bd : Binds K fd ps []
section
variable {X : Cx} {W : WX} {nm : Str} {k j : Nat} {ps : List Str} {sp : Sp} {f : Addr} {fd : FuncData} {p pos apos : Pos} {e o : Expr} {es : List Expr} {ta : TE} {t : TA} {C : Addr} {pl : Sem Bool}
theorem passes_at (tk : Takes X W) (σ : L2.St) : PassesAt (L2.CX X.prog X.w) X σ (fun cls d H => W cls d σ H) := fun pins H s e s' I c => tk _ _ (XE.of_call I (fun _ _ _ h => h) c)
/-- f(e, ..) -/
theorem pclX (G : FnX X.prog X.w X.K X.mg X.base nm k ps sp f fd) (tk : Takes X W) (hr : Room j X.A) (ha : PA X (e :: es) t) (hj : k ≤ j := by first | decide | omega) (hg : Gl X nm := by rfl) (hdb : (nm == ("__debug__" : Str)) = false := by decide)
    (he : starEach (e :: es) X.env = (false, eval e X.env) :: starEach es X.env := by rfl) (hpl : (backTo pos (starEach es X.env)).any (·.1) = false := by rfl) : PE X (.Call (.Name nm p) (e :: es) [] pos) (tCallSD sp [] (fun σ cls d H => W cls d σ H) t) :=
  pe_callSD G.ok (hr.mono hj) hg G.at_ G.kp G.bd .nil (passes_at tk) ha hdb he hpl
/-- the reading of o.m(e, ..) -/
def tMethS (C : Addr) (m : Str) (sp : Sp) (W : WX) (ta : TE) (t : TA) : TE := fun σ H Q => ta σ H fun x H1 => ∃ a dx fs, x = .ref a ∧ H1 a = some (.ins C dx fs) ∧ fs.lookup m = none ∧ t σ H1 fun vs H2 => sp (x :: vs) H2 Q fun cls d H' => W cls d σ H'
theorem pmtX (ho : PE X o ta) (c : Cls X.K C) (G : MtX X.prog X.w X.K X.mg X.base C nm k ps sp f fd) (tk : Takes X W) (hr : Room j X.A) (ha : PA X (e :: es) t) (hj : k ≤ j := by first | decide | omega)
    (he : starEach (e :: es) X.env = (false, eval e X.env) :: starEach es X.env := by rfl) (hpl : (backTo pos (starEach es X.env)).any (·.1) = false := by rfl)
    (ht : eval (.Call (.Attribute o nm apos) (e :: es) [] pos) X.env = (do
      let ov ← eval o X.env
      standAt apos.atName
      let (f, first) ← holding [ov] (getMethod ov nm pl)
      callWith pos f first (backTo pos (starEach (e :: es) X.env)) (backToKw pos (keywordEach [] X.env))) := by rfl) : PE X (.Call (.Attribute o nm apos) (e :: es) [] pos) (tMethS C nm sp W ta t) := by
  refine ⟨fun pins s σ H Q I h => PySem.W.methodCall_KW (pl := pl) (thn (ho.run pins s σ H _ I h) fun u s1 ⟨x, H1, I1, rx, a, dx, fs, ex, ea, l, q⟩ => ?_) ht⟩
  subst ex
  cases (show u = Value.ref a from rx)
  refine getmeth_ok I1 ea c G.mt l (PySem.W.callWith_K (first := [.ref a]) (h₀ := X.base) I.ok.mod.kin G.mt.kp (thn (ha.run pos pins s1 σ H1 _ I1 q) fun us s2 ⟨vs, H2, I2, r, q2⟩ => ⟨I2.kIn, ?_⟩) he hpl)
  exact run_fnSD (E := fun σ cls d H => W cls d σ H) (dvs := []) (us := .ref a :: us) (vs := .ref a :: vs) G.ok (hr.mono hj) G.bd .nil (passes_at tk σ) I2 (.cons rfl r) (by rw [List.append_nil]; exact q2)
end
end Ssb

/-! list(reversed(a list)) as one expression. -/
namespace Ssb
open PySem PySem.Spec PyProof.Rows L2 RT
section
variable {pr : Program} {wd : World} {Ar : Around} {Er : Value → Shared → Prop} {st : Shared}
/-- a fresh list taking what the walker over l, from its end, hands out -/
theorem ext_rev {R : Result → Shared → Prop} {it l S : Addr} {vs : Array Value} (hh : Ar.handled = none) (hit : st.heap.IsRevIter it l ((vs.size : Int) - 1)) (hl : st.heap.IsList l vs) (n1 : l ≠ it) (n2 : S ≠ it) (n3 : S ≠ l) (hn : vs.size ≤ sizeLine)
    (res : Value) (c₀ : Nat) (hS : st.heap.get? S = some { cls := .type "list", data := .seq #[] c₀ })
    (k : ∀ (h' : Heap) (tk : Nat) (acc : Array Value) (c' : Nat), (∀ b o, b ≠ S → b ≠ it → st.heap.get? b = some o → h'.get? b = some o) → h'.get? S = some { cls := .type "list", dict := none, data := .seq acc c', slots := #[] } →
      ItemsOf (fun i v => vs[vs.size - 1 - i]? = some v) acc vs.size → R (.ok (.ret res)) { st with heap := h', toks := tk }) :
    wpAny (model pr wd) Ar.in1 (Builtin.List.listExtendWith (.ref S) (.ref it) res) (fun fin z => match fin with | .done f => R (.ok f) z | .again c' => c'.quiet = true ∧ codeAny (model pr wd) Ar c' R z) (fun e z => R (.error e) z) st := by
  have W := (Walks.listRev (prog := pr) (w := wd) (A := Ar.in1) hh it l n1 vs).toS
  have out : S ∉ [it, l] := by simp [n2, n3]
  have ht : st.TypeIs (.ref it) "list_reverseiterator" := hit.typeIs
  have ns : Builtin.List.listSameRef (.ref S) (.ref it) = false := by simp [Builtin.List.listSameRef, n2]
  unfold Builtin.List.listExtendWith
  refine wpAny_bind (wpAny_typeOf ht ?_)
  rw [if_neg (by rw [ns]; decide)]
  refine wpAny_bind (wpAny_pyIter_revIter hit (wpAny_bind (wpAny_holding ?_)))
  unfold Builtin.List.listLengthHint
  refine wpAny_bind (wpAny_specialOf ht nolen_lri ?_)
  show wpAny _ _ (specialOf (.ref it) (Str.ofString "__length_hint__") >>= _) _ _ _
  refine wpAny_bind (wpAny_specialOf ht hint_lri ?_)
  generalize hid : ("list_reverseiterator.__length_hint__" : String) = hintName
  wp_delta
  rw [show splitId hintName = some ("list_reverseiterator", "__length_hint__") from by rw [← hid]; decide +kernel]
  subst hid
  refine wpAny_bind (wpAny_isInstance (b := true) ht (by rw [isSubtype_type]; kernel_rfl) (wpAny_pure ?_))
  rw [if_neg (by decide)]
  have e0 : (vs.size : Int) - 1 = (vs.size : Int) - 1 - ((0 : Nat) : Int) := by omega
  rw [e0] at hit
  refine wpAny_pure ⟨plainId_quiet F.plain_extend_loop _, codeAny_extend_loopS W hn S out res vs.size 0 _ _ _ rfl (Nat.zero_le _) ⟨Nat.zero_le _, hit, hl⟩ hS (ItemsOf.nil _) fun z acc c' mv hz hi => ?_⟩
  rw [Moved.eq_with mv]
  exact k z.heap z.toks acc c' (fun b o b1 b2 e => mv.heap b o (by simp [b1, b2]) e) hz hi
theorem list_init_rev {R : Result → Shared → Prop} {it l S : Addr} {vs : Array Value} (hh : Ar.handled = none) (hit : st.heap.IsRevIter it l ((vs.size : Int) - 1)) (hl : st.heap.IsList l vs) (n1 : l ≠ it) (n2 : S ≠ it) (n3 : S ≠ l) (hn : vs.size ≤ sizeLine)
    (hS : st.heap.get? S = some { cls := .type "list", data := .seq #[] })
    (k : ∀ (h' : Heap) (tk : Nat) (acc : Array Value) (c' : Nat), (∀ b o, b ≠ S → b ≠ it → st.heap.get? b = some o → h'.get? b = some o) → h'.get? S = some { cls := .type "list", dict := none, data := .seq acc c', slots := #[] } →
      ItemsOf (fun i v => vs[vs.size - 1 - i]? = some v) acc vs.size → R (.ok (.ret .none)) { st with heap := h', toks := tk }) :
    wpAny (model pr wd) Ar.in1 (Builtin.«list.__init__» ⟨[.ref S, .ref it], []⟩) (fun fin z => match fin with | .done f => R (.ok f) z | .again c' => c'.quiet = true ∧ codeAny (model pr wd) Ar c' R z) (fun e z => R (.error e) z) st := by
  show wpAny _ _ (Builtin.List.listItems (.ref S) >>= fun old => Builtin.List.listUpdate (.ref S) (fun _ => #[]) >>= fun _ => letGo old.toList.reverse >>= fun _ => Builtin.List.listExtendWith (.ref S) (.ref it) .none) _ _ st
  refine wpAny_bind ?_
  unfold Builtin.List.listItems
  refine wpAny_bind (wpAny_seqItems hS rfl (wpAny_pure (wpAny_bind ?_)))
  show wpAny _ _ (updateSeq S fun _ => #[]) _ _ _
  have kept : ∀ b o, b ≠ S → st.heap.get? b = some o → (st.heap.update S (Obj.mapSeq fun _ => (#[] : Array Value))).get? b = some o := fun b o hb e => (Heap.get?_update_other _ _ (Ne.symm hb)).trans e
  refine wpAny_updateSeq hS rfl (wpAny_bind (wpAny_letGo ?_))
  exact ext_rev hh (hit.at fun o e => kept it o (Ne.symm n2) e) (hl.at fun o e => kept l o (Ne.symm n3) e) n1 n2 n3 hn .none _ (Heap.get?_update_self (Obj.mapSeq fun _ => (#[] : Array Value)) hS rfl) fun h' tk acc c' q => k h' tk acc c' fun b o b1 b2 e => q b o b1 b2 (kept b o b1 e)
theorem call_list_rev {Q : Value → Shared → Prop} {it l : Addr} {vs : Array Value} (hh : Ar.handled = none) (hit : st.heap.IsRevIter it l ((vs.size : Int) - 1)) (hl : st.heap.IsList l vs) (n1 : l ≠ it) (hn : vs.size ≤ sizeLine)
    (k : ∀ (h' : Heap) (tk : Nat) (acc : Array Value) (c' : Nat), (∀ b o, b ≠ it → st.heap.get? b = some o → h'.get? b = some o) → h'.get? st.heap.objs.size = some { cls := .type "list", dict := none, data := .seq acc c', slots := #[] } →
      ItemsOf (fun i v => vs[vs.size - 1 - i]? = some v) acc vs.size → Q (.ref st.heap.objs.size) { st with heap := h', toks := tk }) : wpAny (model pr wd) Ar (call (.type "list") [.ref it]) Q Er st := by
  obtain ⟨oi, hoi, _⟩ := id hit
  obtain ⟨ol, hol, _⟩ := id hl
  refine callType_codes (Q₁ := fun u z => u = .ref st.heap.objs.size ∧ z = { st with heap := st.heap.push { cls := .type "list", data := .seq #[] } }) F.called_list (F.typeCall_list_1 _) F.entry_list_init (code_list_new _ ⟨rfl, rfl⟩) ?_
  rintro u z ⟨rfl, rfl⟩
  have hS : (st.heap.push { cls := .type "list", data := .seq #[] }).get? st.heap.objs.size = some { cls := .type "list", data := .seq #[] } := Heap.get?_push_size _ rfl
  refine ⟨⟨_, hS, rfl⟩, F.args_list_init_2 _ _, list_init_rev (Ar := Ar.in1) (it := it) (l := l) (vs := vs) hh (hit.at fun o e => Heap.get?_push_of_some _ e) (hl.push _) n1 (Nat.ne_of_gt (Heap.lt_size hoi)) (Nat.ne_of_gt (Heap.lt_size hol)) hn hS fun h' tk acc c' q hz hi => ⟨rfl, ?_⟩⟩
  exact k h' tk acc c' (fun b o hb e => q b o (Nat.ne_of_lt (Heap.lt_size e)) hb (Heap.get?_push_of_some _ e)) hz hi
end
/-- list(reversed(e)), e a list -/
def tLstRev (K : PySem.W.Frag) (te : TE) : TE := fun σ H Q => te σ H fun x H1 => ∃ (a : Addr) (xs : List V), x = .ref a ∧ SqL K H1 a xs ∧ ∀ p, H1 p = none → Q (.ref p) (upd H1 p (.lst xs.reverse))
section
variable {X : Cx}
theorem pe_lstRev {e : Expr} {te : TE} {q1 q2 c1 c2 : Pos} (hc : X.calm = true) (g1 : Gl X "list") (m1 : X.mg "list" = none) (g2 : Gl X "reversed") (m2 : X.mg "reversed" = none) (he : PE X e te)
    (h1 : starEach [e] X.env = (false, eval e X.env) :: starEach [] X.env := by rfl)
    (h2 : starEach [.Call (.Name "reversed" q2) [e] [] c2] X.env = (false, eval (.Call (.Name "reversed" q2) [e] [] c2) X.env) :: starEach [] X.env := by rfl) :
    PE X (.Call (.Name "list" q1) [.Call (.Name "reversed" q2) [e] [] c2] [] c1) (tLstRev X.K te) := by
  refine ⟨fun pins s σ H Q I h => ?_⟩
  refine Call_ (ld_blt I g1 m1 boot_list (PyProof.Rows.callWith_type1 (args_cons ?_ h2) h2 rfl))
  refine Call_ (ld_blt I g2 m2 PyProof.Rows.boot_reversed (PyProof.Rows.callWith_type1 (args_cons ?_ h1) h1 rfl))
  refine thn (he.run pins s σ H _ I h) fun u s1 ⟨v, H1, I1, r1, a, xs, ev, hq, q⟩ => args_nil ?_
  subst ev
  obtain rfl : u = Value.ref a := r1
  obtain ⟨its, rv, pl, hz⟩ := I1.list hq
  have il := pl.isList
  obtain ⟨ol, hol, _⟩ := id il
  refine call_reversed_list il (args_nil ?_)
  have I2 : Inv X pins σ H1 { s1 with heap := s1.heap.push (revObj a ((its.toArray.size : Int) - 1)) } := I1.kept (t' := s1.toks) fun b o e => Heap.get?_push_of_some _ e
  obtain ⟨f0, f1, f2, f3, f4, f5⟩ := I1.fpOk (H' := H1) (b := s1.heap.objs.size) (Nat.le_refl _) (I1.hok.fresh (Nat.le_refl _))
  have small : its.toArray.size ≤ sizeLine := by rw [List.size_toArray, ← rv.length]; exact hz
  refine call_list_rev (st := { s1 with heap := s1.heap.push (revObj a ((its.toArray.size : Int) - 1)) }) (it := s1.heap.objs.size) (l := a) (vs := its.toArray) (I1.ok.hd hc) ⟨_, Heap.get?_push_size _ rfl, rfl, rfl⟩ (il.push _) (Nat.ne_of_lt (Heap.lt_size hol)) small fun h' tk acc c' hk hz' hi => ?_
  have all : ∀ b o, s1.heap.get? b = some o → h'.get? b = some o := fun b o e => hk b o (Nat.ne_of_lt (Heap.lt_size e)) (Heap.get?_push_of_some _ e)
  have lo : s1.heap.objs.size ≤ (s1.heap.push (revObj a ((its.toArray.size : Int) - 1))).objs.size := by
    show s1.heap.objs.size ≤ (s1.heap.objs.push _).size
    rw [Array.size_push]; omega
  exact ⟨.ref _, upd H1 _ (.lst xs.reverse), I1.laid (t' := tk) all lo (show ObjOk X.prog X.w _ _ _ (.lst xs.reverse) from ⟨by rw [List.length_reverse]; exact hz, acc.toList, c', vals_rev rv hi, by rw [Array.toArray_toList]; exact hz'⟩), rfl, q _ (I1.hok.fresh lo)⟩
end
end Ssb

/-! f"{i:x}" of an int. -/
namespace Ssb
open PySem PySem.Spec PyProof.Rows Builtin Float
/-- an int in hex signs -/
def hexT (a : Int) : Str := ⟨((if a < 0 then [45] else []) ++ (Nat.toDigits 16 a.natAbs).map Char.toNat).toArray⟩
def fX : FormatSpec := { fill := 32, align := 62, type := some 120 }
theorem fX_ok : parseFormatSpec ("x" : Str).cps.toList "int" 62 = .ok fX := by kernel_rfl
section
variable {prog : Program} {w : World} {A : Around} {E : Value → Shared → Prop} {s : Shared}
theorem hexT_len (a : Int) : (hexT a).length ≤ 1 + (Nat.toDigits 16 a.natAbs).length := by
  show (((if a < 0 then [45] else []) ++ (Nat.toDigits 16 a.natAbs).map Char.toNat).toArray).size ≤ _
  rw [List.size_toArray, List.length_append, List.length_map]
  split <;> simp
theorem hex_field {f : FormatSpec} (hw : f.width = none) (hgr : f.grouping = none) (hsg : f.sign = none) (hfi : f.fill = 32) (hli : f.align = 62) (neg : Bool) (ds : List Nat) : intField' f neg [] ds [] 4 = ⟨((if neg = true then [45] else []) ++ ds).toArray⟩ := by
  have e : (if ds.isEmpty = true then ([] : List Nat) else List.replicate ((0 : Int).toNat - ds.length) 48 ++ ds) = ds := by
    cases ds with
    | nil => rfl
    | cons d ds => simp
  unfold intField'
  simp only [hw, hgr, hsg, hfi, hli]
  rw [if_neg (show ¬ ((32 : Nat) == 48 && (62 : Nat) == 61) = true by decide), e, if_neg (show ¬ ((62 : Nat) == 60) = true by decide), if_neg (show ¬ ((62 : Nat) == 94) = true by decide), if_neg (show ¬ ((62 : Nat) == 61) = true by decide)]
  have hp : ∀ k m : Nat, (-1 - ((k : Int) + (([] : List Nat).length : Int) + (([] : List Nat).length : Int)) - (m : Int)).toNat = 0 := fun k m => by
    rw [Int.toNat_eq_zero]
    simp only [List.length_nil]
    omega
  simp only [hp]
  cases neg <;> simp
theorem formatField_hex {a : Int} {t : Tok} {Q : Value → Shared → Prop} (hd : (Nat.toDigits 16 a.natAbs).length ≤ 100000) (h : Q (.str (hexT a) (s.toks + 1)) { s with toks := s.toks + 1 + 1 }) : wpAny (model prog w) A (formatField (.int a t) "x") Q E s := by
  have hlen : (hexT a).length ≤ sizeLine := by
    have := hexT_len a
    rw [sizeLine_eq]; omega
  have hne : (("x" : Str).length == 0) = false := by kernel_rfl
  have hasc : ((("x" : Str).cps.toList.drop 1).any (· ≥ 128) || (("x" : Str).cps.getD 0 0 ≥ 128 && !([60, 62, 61, 94] : List Nat).contains (("x" : Str).cps.getD 1 0))) = false := by kernel_rfl
  have hp := fX_ok
  show wpAny _ _ (holding [.int a t] (pyFormat (.int a t) ("x" : Str))) Q E s
  generalize hx : ("x" : Str) = spec at hne hasc hp ⊢
  have hsz : spec.length ≤ sizeLine := by rw [← hx]; decide
  refine wpAny_holding ?_
  unfold pyFormat
  refine wpAny_bind (wpAny_mkStr ?_ hsz)
  refine wpAny_bind (m := callSpecial? (.int a t) (Str.ofString "__format__") [.str spec s.toks]) (wpAny_callSpecial?_slot (name := Str.ofString "__format__") (typeIs_int _ a t) slot_int_format ?_)
  refine wpAny_call (codeAny_call_builtin slot_int_format.plain entry_int_format (slot_int_format.check _ _ _ _ _ _ _ _ (typeIs_int _ a t) (args_int_format _ _) ?_))
  unfold Builtin.«int.__format__»
  simp only [selfAndOne, noKeywords, Int.intOfSelf, asInt?, asStr?, List.isEmpty_nil, if_true, pure_bind, bind_pure, bind_assoc, hne, hasc, Bool.false_eq_true, if_false,
    show (Value.str spec s.toks == Value.none) = false from rfl]
  refine wpAny_bind (wpAny_typeNameOf (T := "str") (typeIs_str _ _ _) (by decide) fun _ => ?_)
  first | refine wpAny_bind (wpAny_typeNameOfCut_int ?_) | refine wpAny_bind (wpAny_typeNameOf_int ?_)
  simp only [hp]
  have hty : ∀ d, fX.type.getD d = 120 := fun _ => rfl
  have hpr : fX.precision = none := rfl
  have hz : fX.noNeg0 = false := rfl
  have hal : fX.alt = false := rfl
  have hw : fX.width = none := rfl
  have hgr : fX.grouping = none := rfl
  have hsg : fX.sign = none := rfl
  have hfi : fX.fill = 32 := rfl
  have hli : fX.align = 62 := rfl
  clear hp
  generalize fX = f at hty hpr hz hal hw hgr hsg hfi hli ⊢
  simp only [hty]
  rw [if_pos (by decide)]
  show wpAny _ _ (if _ then _ else _) _ _ _
  rw [if_neg (by simp [hpr])]
  show wpAny _ _ (if _ then _ else _) _ _ _
  rw [if_neg (by simp [hz])]
  show wpAny _ _ (if _ then _ else _) _ _ _
  rw [if_neg (by decide)]
  show wpAny _ _ (if _ then _ else _) _ _ _
  rw [if_neg (by decide)]
  show wpAny _ _ (if _ then _ else _) _ _ _
  rw [if_neg (by simp [hw])]
  show wpAny _ _ (retStr _) _ _ _
  unfold retStr
  have ez : intField' f (decide (a < 0)) [] ((Nat.toDigits 16 a.natAbs).map Char.toNat) [] 4 = hexT a := by
    rw [hex_field hw hgr hsg hfi hli]
    unfold hexT
    by_cases c : a < 0
    · rw [if_pos (decide_eq_true c), if_pos c]
    · rw [if_neg (by rw [decide_eq_false c]; exact Bool.false_ne_true), if_neg c]
  have hl2 : (intField' f (decide (a < 0)) [] ((Nat.toDigits 16 a.natAbs).map fun c => c.toNat) [] 4).length ≤ sizeLine := by
    have := hlen
    rw [← ez] at this
    exact this
  have hq2 : Q (.str (intField' f (decide (a < 0)) [] ((Nat.toDigits 16 a.natAbs).map fun c => c.toNat) [] 4) (s.toks + 1)) { s with toks := s.toks + 1 + 1 } := by
    have := h
    rw [← ez] at this
    exact this
  clear h hlen ez
  refine wpAny_bind (wpAny_mkStr (wpAny_pure ?_) ?hs2)
  case hs2 =>
    simp only [hal, Bool.false_eq_true, if_false, show ((120 : Nat) == 88) = false by decide, show ((16 : Nat) == 10) = false by decide]
    conv => lhs; arg 1; whnf
    simp only [intField', hgr, hsg] at hl2 ⊢
    exact hl2
  dsimp only
  refine wpAny_bind (wpAny_isInstance (typeIs_str _ _ _) isSubtype_str_str (wpAny_pure ?_))
  simp only [hal, Bool.false_eq_true, if_false, show ((120 : Nat) == 88) = false by decide, show ((16 : Nat) == 10) = false by decide]
  conv => arg 1; arg 1; whnf
  simp only [intField', hgr, hsg] at hq2 ⊢
  exact hq2
end
end Ssb

/-! list.index with a start; a slice assigned; a field in hex. -/
namespace PySem
namespace SeqAt
open AutoSeq1 (wpAny_loadPart')
open MeetsSeq MeetsSeq2 MeetsSeq3 SeqRoads2
theorem list_indexFrom (l : Addr) (items : Array Value) (n : Nat) (dd : Option Addr) (sl : Array (Option Value)) (x : Value) (e : Value → Bool) (a : Nat) (ta : Tok) (j : Nat) (hj : j < items.size) (haj : a ≤ j) (hsmall : (j : Int) < 2 ^ 63 - 1)
    (hit : e items[j] = true) (hno : ∀ m (hm : m < items.size), a ≤ m → m < j → e items[m] = false) :
    Meets (Builtin.«list.index» ⟨[.ref l, x, .int a ta], []⟩)
      (fun A R s => s.heap.get? l = some { cls := .type "list", dict := dd, data := .seq items n, slots := sl } ∧ (∀ y, y ∈ items → EqAt A.in1 s y x (e y)) ∧ R (.ok (.ret (.int j s.toks))) { s with toks := s.toks + 1 }) := by
  intro prog w A R s h
  obtain ⟨hp, g, d, tk, os⟩ := s; obtain ⟨hl, he, h⟩ := h
  wp_walk using wpAny_loadPart' hl
  have a1 : ((fun i : Int => if i < 0 then max 0 (i + (items.size : Int)) else i) ((some (a : Int)).getD 0)) = (a : Int) := by
    show (if (a : Int) < 0 then max 0 ((a : Int) + (items.size : Int)) else (a : Int)) = (a : Int)
    rw [if_neg (by omega)]
  have a2 : ((fun i : Int => if i < 0 then max 0 (i + (items.size : Int)) else i) ((none : Option Int).getD (2 ^ 63 - 1))) = 2 ^ 63 - 1 := by simp
  rw [a1, a2]
  exact ⟨plainId_quiet plain_index_loop _, codeAny_builtin entry_index_loop (by
    rw [Around.under_plainId plain_index_loop _]
    exact index_loopAt l items n dd sl x e (2 ^ 63 - 1) j hj hsmall hit _ a rfl haj hno prog w A R _ ⟨hl, he, h⟩)⟩
end SeqAt
end PySem
namespace Ssb
open PySem PySem.Spec PyProof.Rows L2
section
variable {X : Cx}
/-- xs.index(y, a) -/
def rIndexF (K : PySem.W.Frag) : V → List V → Hp → VK → Prop := fun x xs H Q => ∃ (l : Addr) (ys : List V) (y : V) (a j : Nat) (z : V), x = V.ref l ∧ xs = [y, .int a] ∧ SqL K H l ys ∧ flatV y = true ∧ ys.all flatV = true ∧ a ≤ j ∧ ys[j]? = some z ∧ eqV z y = true ∧
  (∀ (m : Nat) (z' : V), a ≤ m → m < j → ys[m]? = some z' → eqV z' y = false) ∧ Q (.int (j : Nat)) H
theorem mt_indexF : MtR X "list.index" (rIndexF X.K) := by
  intro pins s σ H x xs v us Q I rx rxs h
  obtain ⟨l, ys, y, a, j, z, rfl, rfl, hs, fy, fys, haj, hz, hzj, hno, q⟩ := h
  cases rx
  cases rxs with
  | cons ry rt =>
    rename_i uy ut
    cases rt with
    | cons ra rt2 =>
    rename_i ua ut2
    cases rt2
    obtain ⟨ta, rfl⟩ := ra
    obtain ⟨its, rv, ⟨⟨cls, dd, data, sl⟩, n, ho, hc, hdn, hd⟩, hlen⟩ := I.list hs
    simp only at hc hd
    subst hc hd
    obtain ⟨u, hu, ru⟩ := rv.get hz
    obtain ⟨hjl, hje⟩ := List.getElem?_eq_some_iff.mp hu
    have hvl := rv.length
    have hj : j < its.toArray.size := by simpa using hjl
    have hsl := sizeLine_eq
    refine call_meets PySem.F.slot_list_index ⟨_, ho, rfl⟩ PySem.F.entry_list_index (PySem.F.args_list_index_3 _ _ _)
      (SeqAt.list_indexFrom l its.toArray n dd sl uy (eqU y) a ta j hj haj (by omega) ?_ ?_) ⟨ho, fun u' hu' => mem_eqAt ry fy rv fys u' (by simpa using hu'), ?_⟩
    · have e1 : its.toArray[j] = u := by simpa using hje
      rw [e1, eqU_of ru (flat_at fys hz)]
      exact hzj
    · intro m hm ham hmj
      have hml : m < its.length := by simpa using hm
      have hmy : m < ys.length := by omega
      have hy' : ys[m]? = some ys[m] := List.getElem?_eq_getElem hmy
      obtain ⟨u2, hu2, ru2⟩ := rv.get hy'
      obtain ⟨_, hme⟩ := List.getElem?_eq_some_iff.mp hu2
      have e1 : its.toArray[m] = u2 := by simpa using hme
      rw [e1, eqU_of ru2 (flat_at fys hy')]
      exact hno m _ ham hmj hy'
    · exact ⟨.int (j : Nat), H, I.tok _, ⟨_, rfl⟩, q⟩
/-- {x:x} of an int -/
def tHex (te : TE) : TE := fun σ H Q => te σ H fun x H1 => ∃ i : Int, x = .int i ∧ (Nat.toDigits 16 i.natAbs).length ≤ 100000 ∧ Q (.str (hexT i)) H1
theorem pe_hex {e : Expr} {te : TE} {pos p2 : Pos} {p1 : Nat} {p3 : Pos} (he : PE X e te) : PE X (.FormattedValue e (-1) (some (.JoinedStr [.Constant (.str "x") p1 p3] p2)) pos) (tHex te) := by
  refine ⟨fun pins s σ H Q I h => ?_⟩
  refine wpAny_FormattedValue_spec (thn (he.run pins s σ H _ I h) fun v s1 ⟨x, H1, I1, r1, q1⟩ => ?_)
  obtain ⟨i, rfl, hz, q⟩ := q1
  obtain ⟨t, rfl⟩ := r1
  have p0 : PE X (.JoinedStr [.Constant (.str "x") p1 p3] p2) (tC (.str "x")) := pe_joined1 pe_str
  refine thn (p0.run pins s1 σ H1 (fun v H2 => v = .str "x" ∧ H2 = H1) I1 ⟨rfl, rfl⟩) fun v2 s2 ⟨x2, H2, I2, r2, q2⟩ => ?_
  obtain ⟨rfl, rfl⟩ := q2
  obtain ⟨t2, rfl⟩ := r2
  exact ⟨_, _, rfl, formatField_hex hz ⟨.str (hexT i), H2, I2.tok _, ⟨_, rfl⟩, q⟩⟩
theorem signs_at {z : Str} : ∀ {us : List Value} {cs : List Nat} {k : Nat}, us.length = cs.length → (∀ (j : Nat) (v : Value), us[j]? = some v → SignAt z (k + j) v) → (∀ j, cs[j]? = z.cps[k + j]?) → Vals (cs.map fun c => V.str ⟨#[c]⟩) us
  | [], [], _, _, _, _ => .nil
  | [], _ :: _, _, h, _, _ => by simp at h
  | _ :: _, [], _, h, _, _ => by simp at h
  | u :: us, c :: cs, k, hl, h, hc => by
    obtain ⟨d, t, e1, e2⟩ := h 0 u rfl
    have e3 := hc 0
    rw [e1] at e3
    have e4 : c = d := Option.some.inj e3
    subst e4
    rw [List.map_cons]
    refine .cons ⟨t, e2⟩ (signs_at (z := z) (k := k + 1) (by simpa using hl) (fun j v e => ?_) fun j => ?_)
    · have := h (j + 1) v (by simpa using e)
      rw [show k + (j + 1) = k + 1 + j by omega] at this
      exact this
    · have := hc (j + 1)
      rw [show k + (j + 1) = k + 1 + j by omega] at this
      rw [← this]; rfl
/-- list(a text) -/
def rListStr : List V → Hp → VK → Prop := fun xs H Q => ∃ z : Str, xs = [.str z] ∧ z.length ≤ sizeLine ∧ ∀ p, H p = none → Q (.ref p) (upd H p (.lst (z.cps.toList.map fun c => V.str ⟨#[c]⟩)))
theorem call_listS (hcalm : X.calm = true) : CallR X (.type "list") rListStr := by
  intro pins s σ H xs us Q I r q
  obtain ⟨z, ex, hz, q⟩ := q
  subst ex
  obtain ⟨u, eu, rx⟩ := vals1 r
  subst eu
  obtain ⟨t, rfl⟩ := rx
  refine call_list_str (I.ok.hd hcalm) z t (fun h' tk acc c' hk hD hacc => ?_) hz
  have hv : Vals (z.cps.toList.map fun c => V.str ⟨#[c]⟩) acc.toList := by
    refine signs_at (z := z) (k := 0) (by rw [Array.length_toList, Array.length_toList]; exact hacc.1) (fun j v e => ?_) fun j => by rw [Nat.zero_add, Array.getElem?_toList]
    rw [Nat.zero_add]
    exact hacc.2 j v (by rw [← Array.getElem?_toList]; exact e)
  exact ⟨.ref s.heap.objs.size, upd H s.heap.objs.size (.lst (z.cps.toList.map fun c => V.str ⟨#[c]⟩)), I.laid (t' := tk) hk (Nat.le_refl _)
    (show ObjOk X.prog X.w _ _ _ (.lst _) from ⟨by rw [List.length_map]; exact hz, acc.toList, c', hv, by rw [Array.toArray_toList]; exact hD⟩), rfl, q _ (I.hok.fresh (Nat.le_refl _))⟩
end
end Ssb

/-! xs[a:a + 1] = [..]. -/
namespace Ssb
open PySem PySem.Spec PyProof.Rows L2
open AutoSeq1 (wpAny_loadPart')
open MeetsSeq MeetsSeq2 MeetsSeq3 SeqRoads2 Builtin
/-- the ends of xs[a:a + 1] where a is the list's length or less -/
theorem ends_at {a n : Nat} (ha : a ≤ n) : sliceBounds (some (a : Int)) (some ((a : Int) + 1)) none n = ((a : Int), ((min (a + 1) n : Nat) : Int), 1) := by
  unfold sliceBounds
  have h1 : ¬ ((a : Int) < 0) := by omega
  have h2 : ¬ ((a : Int) + 1 < 0) := by omega
  simp only [Option.getD_none, h1, h2, if_false, show (1 : Int) > 0 from by decide, if_true, Prod.mk.injEq, and_true]
  omega
theorem meets_put (l b sl : Addr) (items new : Array Value) (n n2 : Nat) (a : Nat) (ta tb : Tok) (ha : a ≤ items.size) (hne : l ≠ b) (hsz : items.size + new.size ≤ sizeLine) :
    Meets (Builtin.«list.__setitem__» ⟨[.ref l, .ref sl, .ref b], []⟩)
      (fun A R s => s.heap.get? l = some { cls := .type "list", data := .seq items n } ∧ s.heap.get? b = some { cls := .type "list", data := .seq new n2 } ∧ s.heap.IsSliceOf sl (.int a ta) (.int ((a : Int) + 1) tb) .none ∧
        R (.ok (.ret .none)) { s with heap := s.heap.update l (Obj.mapSeq fun xs => xs.extract 0 a ++ new ++ xs.extract (min (a + 1) items.size) xs.size) }) := by
  intro prog w A R s h
  obtain ⟨hl, hb, hs, h⟩ := h
  obtain ⟨os, ho, hc, hd⟩ := id hs
  have ty : s.TypeIs (.ref sl) "slice" := ⟨os, ho, hc⟩
  have one : Builtin.List.listSubscript? (.ref sl) = Builtin.List.listSubscript? (.ref sl) := rfl
  wp_walk using wpAny_loadPart' hl, wpAny_loadPart' hb
  rw [slice_no_index]
  wp_walk
  rw [hd]
  wp_walk using wpAny_loadPart' hl, wpAny_loadPart' hb
  rw [hd]
  wp_walk using wpAny_loadPart' hl, wpAny_loadPart' hb
  rw [PySem.F.slot_int_index.lookup]
  wp_walk using wpAny_loadPart' hl, wpAny_loadPart' hb
  rw [hd]
  wp_walk using wpAny_loadPart' hl, wpAny_loadPart' hb
  rw [PySem.F.slot_int_index.lookup]
  wp_walk using wpAny_loadPart' hl, wpAny_loadPart' hb
  have same : ¬ Builtin.List.listSameRef (.ref l) (.ref b) = true := by simp [Builtin.List.listSameRef, hne]
  rw [if_neg same]
  wp_walk using wpAny_loadPart' hl, wpAny_loadPart' hb
  have tl : ¬ Builtin.List.listTooLong (items.size + new.size) = true := by rw [notLongL hsz]; exact Bool.false_ne_true
  rw [if_neg tl]
  have z1 : (Max.max 0 (Min.min (if (a : Int) < 0 then (a : Int) + (items.size : Int) else (a : Int)) (items.size : Int))) = (a : Int) := by
    rw [if_neg (by omega)]; omega
  have z2 : (Max.max 0 (Min.min (if (a : Int) + 1 < 0 then (a : Int) + 1 + (items.size : Int) else (a : Int) + 1) (items.size : Int))) = ((min (a + 1) items.size : Nat) : Int) := by
    rw [if_neg (by omega)]; omega
  rw [z1, z2, show (Max.max (a : Int) ((min (a + 1) items.size : Nat) : Int)).toNat = min (a + 1) items.size by omega, Int.toNat_natCast]
  wp_walk using wpAny_loadPart' hl, wpAny_loadPart' hb
  have pl : (Obj.mapSeq (fun xs => xs.extract 0 a ++ new ++ xs.extract (min (a + 1) items.size)) { cls := .type "list", data := .seq items n }).data.pastItsLine = none :=
    pastItsLine_seq (by show (items.extract 0 a ++ new ++ items.extract (min (a + 1) items.size)).size ≤ _; simp only [Array.size_append, Array.size_extract]; omega)
  rw [pl]
  wp_walk
  exact h
section
variable {X : Cx}
/-- o[a:a + 1] = [..], a the list's length or less -/
def gSlice1 (to tl th : TE) : TG := fun v σ H Q => to σ H fun o H1 => tl σ H1 fun x H2 => th σ H2 fun y H3 => ∃ (l b : Addr) (xs ys : List V) (a : Nat), o = .ref l ∧ v = .ref b ∧ x = .int (a : Int) ∧ y = .int ((a : Int) + 1) ∧ H3 l = some (.lst xs) ∧ H3 b = some (.lst ys) ∧ l ≠ b ∧ a ≤ xs.length ∧ xs.length + ys.length ≤ sizeLine ∧
  Q σ (upd H3 l (.lst (xs.take a ++ ys ++ xs.drop (a + 1))))
theorem pg_slice1 {o lo hi : Expr} {to tl th : TE} {p2 pos : Pos} (ho : PE X o to) (hl : PE X lo tl) (hh : PE X hi th) : PG X (.Subscript o (.Slice (some lo) (some hi) none p2) pos) (gSlice1 to tl th) := by
  refine ⟨fun pins s σ H v u Q I r h => ?_⟩
  rw [arm_assign_Subscript]
  refine wpAny_bind (wpAny_holding (thn (ho.run pins s σ H _ I h) fun ov s1 ⟨x, H1, I1, r1, q1⟩ => ?_))
  refine wpAny_bind (wpAny_holding (wpAny_Slice ?_))
  rw [evalPart_some, evalPart_some, evalPart_none]
  refine thn (hl.run pins s1 σ H1 _ I1 q1) fun vl s2 ⟨xl, H2, I2, pl, q2⟩ => thn (hh.run pins s2 σ H2 _ I2 q2) fun vu s3 ⟨xh, H3, I3, pu, q3⟩ => wpAny_pure ?_
  obtain ⟨l, b, xs, ys, a, rfl, rfl, rfl, rfl, hx, hb, hne, ha, hz, q⟩ := q3
  cases r1
  cases r
  obtain ⟨ta, rfl⟩ := pl
  obtain ⟨tb, rfl⟩ := pu
  have I4 : Inv X pins σ H3 { s3 with heap := s3.heap.push { cls := .type "slice", data := .fields #[.int (a : Int) ta, .int ((a : Int) + 1) tb, .none] } } := I3.kept (t' := s3.toks) fun b ob q => Heap.get?_push_of_some _ q
  obtain ⟨_, its, n, rv, hl, e⟩ := I4.lstM hx
  obtain ⟨_, its2, n2, rv2, hl2, e2⟩ := I4.lstM hb
  refine wpAny_bind (wpAny_standAt (wpAny_bind (wpAny_holding ?_)))
  have IL := PySem.IsL.isList e
  refine wpAny_holding (wpAny_bind (wpAny_sequenceKey IL.typeIs (by decide) (wpAny_bind (wpAny_callSpecial?_slot (name := "__setitem__") IL.typeIs slot_list_setitem (call_meets slot_list_setitem IL.typeIs entry_list_setitem (args_list_setitem _ _ _)
    (meets_put l b _ its.toArray its2.toArray n n2 a ta tb (by rw [List.size_toArray]; omega) hne (by rw [List.size_toArray, List.size_toArray]; omega)) ⟨e, e2, Heap.IsSliceOf.new .., ?_⟩)))))
  refine wpAny_pure (wpAny_release ⟨σ, _, I4.lset (its' := its.take a ++ its2 ++ its.drop (a + 1)) (t' := _) hx e ?_ (Vals.append (Vals.append (rv.take _) rv2) (rv.drop _)) ?_, q⟩)
  · have := splice_eq its its2 a (min (a + 1) its.length)
    have dm : its.drop (min (a + 1) its.length) = its.drop (a + 1) := by
      rcases Nat.le_total (a + 1) its.length with c | c
      · rw [Nat.min_eq_left c]
      · rw [Nat.min_eq_right c, List.drop_eq_nil_of_le (Nat.le_refl _), List.drop_eq_nil_of_le c]
    rw [dm] at this
    rw [List.size_toArray] at this ⊢
    exact this
  · rw [List.length_append, List.length_append, List.length_take, List.length_drop]
    omega
end
end Ssb

/-! name = {k: v for ..}, the name a local. -/
namespace Ssb
open PySem PySem.Spec PyProof.Rows L2
abbrev Blk (X : Cx) (scope : Scope) (F : Cx → Prop) : Prop := ∀ (s : Shared) (H : Hp) (C : Addr) (cl : List (Str × Addr)) (fp : List Addr), F (X.blk s H scope (compEnvC scope cl C X.env) fp)
section
variable {X : Cx} {i : Nat} {y : Str} {py pos spos : Pos} {kx vx tg iter : Expr} {ifs : List Expr} {scope : Scope} {own : List (Str × Nat)} {wi : TI} {g : TG} {tt : TT} {tk tv : TE}
theorem ps_setDc (hc : X.calm = true) (hN : X.N.Nodup) (hy : X.N[i]? = some y) (hyl : X.env.scope.names.lookup y = some .local) (hsw : swapsWith (.DictComp kx vx [⟨tg, iter, ifs, 0⟩] scope pos) (some (.Name y py)) spos.line X.env = pure true)
    (hi : PI X tg iter wi) (ok : BlkOk X.N X.env.scope scope own) (hg : Blk X scope fun B => PG B tg g) (ht : Blk X scope fun B => PTs B ifs tt) (hk : Blk X scope fun B => PE B kx tk) (he : Blk X scope fun B => PE B vx tv)
    (hs : ∀ x, foldedSetIterable iter X.env x = pure x := by intro _; rfl) : PS X (.Assign [.Name y py] (.DictComp kx vx [⟨tg, iter, ifs, 0⟩] scope pos) spos) (tAsg (tDc wi g tt tk tv (own.map (·.2))) (gName i)) := by
  refine ⟨fun pins s σ H D I h => ?_⟩
  rw [exec_Assign_Name_used _ _ _ _ hsw]
  have h : tDc wi g tt tk tv (own.map (·.2)) σ H (fun x H1 => gName i x σ H1 D.nx) := h
  refine wpAny_bind (wpAny_standAt (wpAny_bind ?_))
  show wpAny _ X.A (do let _ ← comprehension (.DictComp kx vx [⟨tg, iter, ifs, 0⟩] scope pos) scope X.env (firstIterPos [⟨tg, iter, ifs, 0⟩] pos) newDict false (eval iter X.env) (some (assign (.Name y py) X.env))) _ _ s
  refine wpAny_bind (thn (dc_core (Qf := fun _ s' => SP X pins D .next s') hc hN I hi ok hg ht hk he hs h fun L C s' m H' I' q hn f => ?_) fun _ s' hq => wpAny_pure (wpAny_pure hq))
  show wpAny _ _ (assign (.Name y py) X.env (.ref L)) _ _ _
  refine wpAny_assign_Name (store_ok2 (v := V.ref L) I' hN hy (.inl hyl) rfl (fun s2 I2 ⟨a, sb, ha⟩ => ?_) (.inr hyl))
  obtain ⟨z0, z1, z3, z4, z5⟩ : _ ∧ _ ∧ _ ∧ _ ∧ _ := ⟨f.1, f.2.1, f.2.2.2.1, f.2.2.2.2.1, f.2.2.2.2.2⟩
  have ne : C ≠ a := by
    rcases ha with z | z
    · rw [z]; exact z1
    · exact fun e => z4 y a z e.symm
  exact ⟨m, hn.sameBut sb ne, fun h3 sb3 => ⟨_, H', I2.turned (t' := s2.toks) (fun b o hb e => (sb3.2 b hb).trans e) z0 z1 z3 z4 z5, q⟩⟩
theorem sw_trueD {gs : List Comprehension} {l : Nat} {env : Env} (hk : env.scope.kind = .function) (hy : env.scope.names.lookup y = some .local) (hl : (py.line == pos.line) = true) (ha : (scope.names.any fun (n, k) => n == y && (k == .local || k == .cell)) = false) :
    swapsWith (.DictComp kx vx gs scope pos) (some (.Name y py)) l env = pure true := by
  have e1 : env.kindOf y = some .local := hy
  have e2 : env.blockKind = .function := by
    unfold Env.blockKind
    rw [hk]; rfl
  unfold swapsWith
  simp only [e2, e1, ha, Expr.pos, hl]
  rfl
end
end Ssb

/-! x in a tuple of any data; a sign n times. -/
namespace Ssb
open PySem PySem.Spec PyProof.Rows L2
section
variable {X : Cx}
/-- x in (..), x not in (..): deep -/
def rInU (K : PySem.W.Frag) (neg : Bool) : R2 := fun x y H Q => ∃ d ds, Dp K H x d ∧ Dp K H y (.tuple ds) ∧ SeqAt.shaped d = true ∧ SeqAt.shaped (.tuple ds) = true ∧ Q (.bl (if neg then !ds.any (fun z => PyData.eqv z d) else ds.any fun z => PyData.eqv z d)) H
theorem op_inU (hu : X.A.units + 65 < cLine) : OpR X (compareOp .In) (rInU X.K false) := by
  rintro pins s σ H x y v u Q I rx ry ⟨d, ds, hd, he, sd, se, q⟩
  obtain ⟨bs, r2⟩ := Dp.reads I (.tuple ds) y u he ry
  obtain ⟨as, r1⟩ := Dp.reads I d x v hd rx
  exact SeqAt.in_tuple_reads r2 r1 (SeqAt.canLay_of_shaped se) (SeqAt.canLay_of_shaped sd) (room_in_shaped sd hu) ⟨.bl _, H, I, rfl, q⟩
theorem op_notInU (hu : X.A.units + 65 < cLine) : OpR X (compareOp .NotIn) (rInU X.K true) := by
  rintro pins s σ H x y v u Q I rx ry ⟨d, ds, hd, he, sd, se, q⟩
  obtain ⟨bs, r2⟩ := Dp.reads I (.tuple ds) y u he ry
  obtain ⟨as, r1⟩ := Dp.reads I d x v hd rx
  exact SeqAt.notIn_tuple_reads r2 r1 (SeqAt.canLay_of_shaped se) (SeqAt.canLay_of_shaped sd) (room_in_shaped sd hu) ⟨.bl _, H, I, rfl, q⟩
/-- "c" * n -/
def rMulS : R2 := fun x y H Q => ∃ (c : Nat) (n : Int), x = .str ⟨#[c]⟩ ∧ y = .int n ∧ 1 ≤ n ∧ n ≤ 1000 ∧ Q (.str ⟨(List.replicate n.toNat c).toArray⟩) H
theorem rep_sign (c : Nat) : ∀ (n : Nat) (acc : Array Nat), (List.replicate n #[c]).foldl (· ++ ·) acc = acc ++ (List.replicate n c).toArray
  | 0, acc => by simp
  | n + 1, acc => by
    rw [List.replicate_succ, List.foldl_cons, rep_sign c n, List.replicate_succ]
    apply Array.toList_inj.mp
    simp
theorem op_mulS : OpR X (binaryOp .Mult) rMulS := by
  rintro pins s σ H x y v u Q I rx ry ⟨c, n, rfl, rfl, n1, n2, q⟩
  obtain ⟨t, rfl⟩ := rx
  obtain ⟨t2, rfl⟩ := ry
  obtain ⟨k, rfl⟩ := Int.eq_ofNat_of_zero_le (show 0 ≤ n by omega)
  rw [Int.toNat_natCast] at q
  have l1 : (⟨#[c]⟩ : Str).length = 1 := rfl
  refine P.mul_str (by simp; omega) (fun _ _ => ?_) (fun _ _ => ?_) ?_
  · rw [l1]
    have : 1 ≤ ((2 : Int) ^ 63 - 1) / (k : Int) := (Int.le_ediv_iff_mul_le (by omega)).mpr (by omega)
    omega
  · rw [l1, Nat.one_mul, Int.toNat_natCast]
    unfold Builtin.Str.tooLong
    rw [sizeLine_eq]
    exact decide_eq_false (by omega)
  · rw [if_neg (by omega)]
    by_cases h1 : k = 1
    · subst h1
      rw [if_pos (by rfl)]
      exact ⟨.str _, H, I, ⟨t, rfl⟩, q⟩
    · rw [if_neg (by rw [l1]; simp; omega), Int.toNat_natCast, rep_sign, Array.empty_append]
      exact ⟨by show (List.replicate k c).toArray.size ≤ _; rw [List.size_toArray, List.length_replicate, sizeLine_eq]; omega, .str _, H, I.tok _, ⟨_, rfl⟩, q⟩
end
end Ssb

/-! tuples of the module: a constant that is a tuple of tuples of texts and ints -/
namespace Ssb
open PySem PySem.Spec PyProof.Rows L2
def lkTup (K : PySem.W.Frag) (a : Addr) (xs : List V) : Prop := ∃ (o : Obj) (its : Array Value) (n : Nat), K.lookup a = some o ∧ o.cls = .type "tuple" ∧ o.data = .seq its n ∧ its.size ≤ sizeLine ∧ Vals xs its.toList
theorem lkTup.sq {K : PySem.W.Frag} {a : Addr} {xs : List V} (h : lkTup K a xs) (H : Hp) : SqT K H a xs := .inr h
/-- the datum of the module at v -/
def RepK (K : PySem.W.Frag) : Nat → D → V → Prop
  | _ + 1, .int i, v => v = .int i
  | _ + 1, .str s, v => v = .str s
  | n + 1, .tup l, v => ∃ a xs, v = .ref a ∧ lkTup K a xs ∧ Paired (fun d x => RepK K n d x) l xs
  | _, _, _ => False
def TupK (K : PySem.W.Frag) (a : Addr) (l : List D) : Prop := ∃ xs, lkTup K a xs ∧ Paired (fun d x => RepK K 3 d x) l xs
theorem tup_mk {K : PySem.W.Frag} {a a1 a2 a3 : Addr} {s1 s2 s3 : Str} {i1 i2 i3 : Int} {k1 k2 k3 t1 t2 t3 : Tok} {d0 d1 d2 d3 : Option Addr} {n0 n1 n2 n3 : Nat} {l0 l1 l2 l3 : Array (Option Value)}
    (h0 : K.lookup a = some ⟨.type "tuple", d0, .seq #[.ref a1, .ref a2, .ref a3] n0, l0⟩)
    (h1 : K.lookup a1 = some ⟨.type "tuple", d1, .seq #[.str s1 k1, .int i1 t1] n1, l1⟩)
    (h2 : K.lookup a2 = some ⟨.type "tuple", d2, .seq #[.str s2 k2, .int i2 t2] n2, l2⟩)
    (h3 : K.lookup a3 = some ⟨.type "tuple", d3, .seq #[.str s3 k3, .int i3 t3] n3, l3⟩) : TupK K a [.tup [.str s1, .int i1], .tup [.str s2, .int i2], .tup [.str s3, .int i3]] :=
  have two : ∀ {b : Addr} {s : Str} {i : Int} {k t : Tok} {d : Option Addr} {n : Nat} {l : Array (Option Value)}, K.lookup b = some ⟨.type "tuple", d, .seq #[.str s k, .int i t] n, l⟩ → RepK K 3 (.tup [.str s, .int i]) (.ref b) := fun h =>
    ⟨_, [.str _, .int _], rfl, ⟨_, _, _, h, rfl, rfl, by show 2 ≤ sizeLine; decide, .cons ⟨_, rfl⟩ (.cons ⟨_, rfl⟩ .nil)⟩, .cons rfl (.cons rfl .nil)⟩
  ⟨[.ref a1, .ref a2, .ref a3], ⟨_, _, _, h0, rfl, rfl, by show 3 ≤ sizeLine; decide, .cons rfl (.cons rfl (.cons rfl .nil))⟩, .cons (two h1) (.cons (two h2) (.cons (two h3) .nil))⟩
end Ssb

/-! a text against a dict; (x, n) in a tuple of (text, int)s, x of any kind -/
namespace Ssb
open PySem PySem.Spec PyProof.Rows L2 PySem.SeqAt
open AutoSeq1 (wpAny_loadPart')
open MeetsSeq
theorem str_eq_declines_dict (b : Str) (u : Tok) (l : Addr) (c : Value) (es : Array DictEntry) (ep : Nat) (dd : Option Addr) (sl : Array (Option Value)) :
    Meets (Builtin.«str.__eq__» ⟨[.str b u, .ref l], []⟩) (fun _ R s => s.heap.get? l = some { cls := c, dict := dd, data := .dict es ep, slots := sl } ∧ R (.ok (.ret .notImplemented)) s) :=
  .of_wp fun prog w A R s h => by obtain ⟨hp, g, d, tk, os⟩ := s; obtain ⟨hl, h⟩ := h; wp_walk using wpAny_loadPart' hl, wpAny_load hl; exact ⟨_, rfl, h⟩
theorem dict_eq_declines_str (l : Addr) (es : Array DictEntry) (ep : Nat) (dd : Option Addr) (sl : Array (Option Value)) (b : Str) (u : Tok) :
    Meets (Builtin.«dict.__eq__» ⟨[.ref l, .str b u], []⟩) (fun _ R s => s.heap.get? l = some { cls := .type "dict", dict := dd, data := .dict es ep, slots := sl } ∧ R (.ok (.ret .notImplemented)) s) :=
  .of_wp fun prog w A R s h => by
    obtain ⟨hl, h⟩ := h
    unfold Builtin.«dict.__eq__»
    refine wpAny_bind ?_
    unfold Builtin.Dict.dictSlotArgs
    refine wpAny_bind (wpAny_notOrdered_dict ⟨_, hl, rfl⟩ ?_)
    show wpAny _ _ (pure (Value.ref l, Value.str b u)) _ _ s
    refine wpAny_pure ?_
    obtain ⟨hp, g, d, tk, os⟩ := s
    have f1 := F.sub_str_dict
    wp_walk using wpAny_loadPart' hl, wpAny_load hl
    exact ⟨_, rfl, h⟩
section
variable {A : Around} {s : Shared}
theorem RcAt.str_dict {l : Addr} {es : Array DictEntry} {ep : Nat} {dd : Option Addr} {sl : Array (Option Value)} (b : Str) (u : Tok) (ho : s.heap.get? l = some { cls := .type "dict", dict := dd, data := .dict es ep, slots := sl }) (hu : A.units < cLine) : RcAt A s (.str b u) (.ref l) false := fun prog w E Q h =>
  rc_eq_decline_or (k := false) (typeIs_str s b u) ⟨_, ho, rfl⟩ (by decide) F.sub_dict_str F.slot_str_eq F.slot_dict_eq_refl
    (fun _ hq => call_meets F.slot_str_eq (typeIs_str s b u) F.entry_str_eq (F.args_str_eq_2 _ _) (str_eq_declines_dict b u l (.type "dict") es ep dd sl) ⟨ho, hq⟩)
    (fun _ hq => call_meets F.slot_dict_eq_refl ⟨_, ho, rfl⟩ F.entry_dict_eq (F.args_dict_eq_2 _ _) (dict_eq_declines_str l es ep dd sl b u) ⟨ho, hq⟩)
    (fun _ hq => wpAny_of_eq (rfl : isSame (.str b u) (.ref l) = pure false) hq) (.inr hu) h
theorem EqAt.str_dict {l : Addr} {es : Array DictEntry} {ep : Nat} {dd : Option Addr} {sl : Array (Option Value)} (b : Str) (u : Tok) (ho : s.heap.get? l = some { cls := .type "dict", dict := dd, data := .dict es ep, slots := sl }) (hu : A.units < cLine) : EqAt A s (.str b u) (.ref l) false := fun prog w E Q h => by
  unfold eqBool
  refine wpAny_holding ?_
  refine wpAny_ite_split (fun hab => absurd (eq_of_beq hab) nofun) (fun _ => ?_)
  exact wpAny_bind (RcAt.str_dict b u ho hu prog w E _ (wpAny_truthy_bool h))
end
/-- of any kind: flat, or a list, a tuple, a dict -/
inductive Kd (H : Hp) : V → Prop
  | flat {x : V} : flatV x = true → Kd H x
  | lst {a : Addr} {xs : List V} : H a = some (.lst xs) → Kd H (.ref a)
  | tup {a : Addr} {xs : List V} : H a = some (.tup xs) → Kd H (.ref a)
  | dic {a : Addr} {es : List (Key × V)} : H a = some (.dK es) → Kd H (.ref a)
section
variable {X : Cx} {pins : List (Addr × Obj)} {σ : L2.St} {H : Hp} {sh : Shared}
theorem eqAt_str (I : Inv X pins σ H sh) {A : Around} {x : V} {v : Value} {s0 : Str} {t : Tok} (h : Kd H x) (rx : RelV x v) (hu : A.units < cLine) : SeqAt.EqAt A sh (.str s0 t) v (decide (x = .str s0)) := by
  cases h with
  | flat f =>
    have := eqAt_V (A := A) (s := sh) (y := .str s0) (u := .str s0 t) ⟨t, rfl⟩ rx rfl f
    have e : eqV (.str s0) x = decide (x = .str s0) := by
      cases x with
      | str z => show (s0 == z) = _; rw [Bool.eq_iff_iff, beq_iff_eq, decide_eq_true_eq]; exact ⟨fun e => by rw [e], fun e => by cases e; rfl⟩
      | non => rfl
      | bl b => rfl
      | int i => rfl
      | _ => cases f
    rw [← e]; exact this
  | lst ha =>
    cases rx
    obtain ⟨its, _, ⟨o, n, e, c, _, d⟩, _⟩ := I.list (.of ha)
    exact EqAt.str_list s0 t ⟨o, e, c, n, d⟩ hu
  | tup ha =>
    cases rx
    obtain ⟨its, _, p, _⟩ := I.tuple (.of ha)
    exact EqAt.str_tuple s0 t p hu
  | dic ha =>
    cases rx
    obtain ⟨_, ya, va, ra, da⟩ := (show ObjOk X.prog X.w H sh.heap _ (.dK _) from I.hok _ _ ha)
    obtain ⟨⟨cls, dd, data, sl⟩, es, ep, ho, hc, hdat, _⟩ := id da
    have hcls : cls = .type "dict" := hc.1
    simp only at hdat
    subst hcls hdat
    exact EqAt.str_dict s0 t ho hu
end
theorem lk_inj {K : PySem.W.Frag} {a : Addr} {xs ys : List V} (h : lkTup K a xs) (h2 : lkTup K a ys) : xs = ys := by
  obtain ⟨o, its, n, e, _, d, _, r⟩ := h
  obtain ⟨o', its', n', e', _, d', _, r'⟩ := h2
  rw [e] at e'; cases e'; rw [d] at d'; cases d'
  exact r.inj r'
theorem vals_refs : ∀ {cs : List Addr} {us : List Value}, Vals (cs.map V.ref) us → us = cs.map Value.ref
  | [], us, h => by cases h; rfl
  | c :: cs, us, h => by
    cases h with
    | cons a b => cases a; rw [vals_refs b]; rfl
theorem any_refs {e : Value → Bool} {g : Str × Int → Bool} {R : Str × Int → Addr → Prop} : ∀ {fs : List (Str × Int)} {cs : List Addr}, Paired R fs cs → (∀ p c, c ∈ cs → R p c → e (.ref c) = g p) → (cs.map Value.ref).any e = fs.any g
  | _, _, .nil, _ => rfl
  | _, _, .cons h t, k => by
    rw [List.map_cons, List.any_cons, List.any_cons, k _ _ List.mem_cons_self h, any_refs t fun p c hc r => k p c (List.mem_cons_of_mem _ hc) r]
/-- (x, n) in the module's tuple of (text, int)s -/
def rInF (K : PySem.W.Frag) : R2 := fun x y H Q => ∃ (a : Addr) (v0 : V) (n : Int) (c : Addr) (cs : List Addr) (fs : List (Str × Int)), x = .ref a ∧ H a = some (.tup [v0, .int n]) ∧ Kd H v0 ∧ y = .ref c ∧ lkTup K c (cs.map V.ref) ∧
  Paired (fun p a => lkTup K a [.str p.1, .int p.2]) fs cs ∧ Q (.bl (fs.any fun p => decide (v0 = .str p.1) && decide (p.2 = n))) H
theorem op_inF {X : Cx} (hu : X.A.units + 65 < cLine) : OpR X (compareOp .In) (rInF X.K) := by
  rintro pins s σ H x y v u Q I rx ry ⟨a, v0, n, c, cs, fs, rfl, ha, kd, rfl, hc, hfs, q⟩
  cases rx; cases ry
  obtain ⟨its, r1, p1, _⟩ := I.tuple (.of ha)
  obtain ⟨us, r2, p2, _⟩ := I.tuple (hc.sq H)
  have eus := vals_refs r2
  subst eus
  have hits : ∃ w0 t, its = [w0, .int n t] ∧ RelV v0 w0 := by
    cases r1 with
    | cons r0 r =>
      cases r with
      | cons r1 r => cases r; obtain ⟨t, rfl⟩ := r1; exact ⟨_, t, rfl, r0⟩
  obtain ⟨w0, t, rfl, r0⟩ := hits
  have key : ∀ (p : Str × Int) (b : Addr), lkTup X.K b [.str p.1, .int p.2] → SeqAt.EqAt X.A.in1 s (.ref b) (.ref a) (decide (v0 = .str p.1) && decide (p.2 = n)) := fun p b hb => by
    by_cases e : b = a
    · subst e
      have := I.tuple_inj (hb.sq H) (.of ha)
      simp only [List.cons.injEq, V.int.injEq, and_true] at this
      rw [← this.1, this.2, decide_eq_true rfl, decide_eq_true rfl]
      exact SeqAt.EqAt.same _
    · obtain ⟨ws, r3, p3, _⟩ := I.tuple (hb.sq H)
      have hws : ∃ t1 t2, ws = [.str p.1 t1, .int p.2 t2] := by
        cases r3 with
        | cons r0 r =>
          cases r with
          | cons r1 r => cases r; obtain ⟨t1, rfl⟩ := r0; obtain ⟨t2, rfl⟩ := r1; exact ⟨t1, t2, rfl⟩
      obtain ⟨t1, t2, rfl⟩ := hws
      have := SeqAt.RcAt.tuples (A := X.A.in1) (e := fun j => if j = 0 then decide (v0 = .str p.1) else decide (p.2 = n)) p3 p1 (by show X.A.units + 1 < cLine; omega) fun j h1 h2 => by
        have h1 : j < 2 := h1
        match j, h1 with
        | 0, _ => exact eqAt_str I kd r0 (by show X.A.units + 1 + 1 < cLine; omega)
        | 1, _ =>
          have := SeqAt.EqAt.int_int (A := X.A.in1.in1) (s := s) p.2 t2 n t
          rw [show (p.2 == n) = decide (p.2 = n) by rw [Bool.eq_iff_iff, beq_iff_eq, decide_eq_true_eq]] at this
          exact this
      have h2 := SeqAt.EqAt.of_refs e this
      have e2 : ((List.range (min #[Value.str p.1 t1, Value.int p.2 t2].size #[w0, Value.int n t].size)).all (fun j => if j = 0 then decide (v0 = .str p.1) else decide (p.2 = n)) && #[Value.str p.1 t1, Value.int p.2 t2].size == #[w0, Value.int n t].size) = (decide (v0 = .str p.1) && decide (p.2 = n)) := by
        show ((List.range 2).all _ && true) = _
        simp [List.range_succ]
      rw [e2] at h2
      exact h2
  classical
  let e : Value → Bool := fun z => decide (∃ (p : Str × Int) (b : Addr), z = Value.ref b ∧ lkTup X.K b [.str p.1, .int p.2] ∧ (decide (v0 = .str p.1) && decide (p.2 = n)) = true)
  have he : ∀ (p : Str × Int) (b : Addr), lkTup X.K b [.str p.1, .int p.2] → e (.ref b) = (decide (v0 = .str p.1) && decide (p.2 = n)) := fun p b hb => by
    show decide _ = _
    rw [Bool.eq_iff_iff, decide_eq_true_eq]
    refine ⟨fun ⟨p2, b2, eb, h2, h3⟩ => ?_, fun h => ⟨p, b, rfl, hb, h⟩⟩
    cases eb
    have := lk_inj hb h2
    simp only [List.cons.injEq, V.str.injEq, V.int.injEq, and_true] at this
    rw [this.1, this.2]; exact h3
  refine SeqAt.in_tupleAt (e := e) p2 (fun z hz => ?_) ?_
  · have hz : z ∈ cs.map Value.ref := by simpa using hz
    obtain ⟨b, hb, rfl⟩ := List.mem_map.mp hz
    obtain ⟨i, hi⟩ := List.mem_iff_getElem?.mp hb
    obtain ⟨p, _, hp⟩ := pair_back hfs hi
    rw [he p b hp]
    exact key p b hp
  · have := any_refs (e := e) (g := fun p => decide (v0 = .str p.1) && decide (p.2 = n)) hfs fun p b _ hp => he p b hp
    rw [List.any_toArray, this]
    exact ⟨.bl _, H, I, rfl, q⟩
/-- the forms of a constant -/
theorem TupK.forms {K : PySem.W.Frag} {c : Addr} {fs : List (Str × Int)} (h : TupK K c (fs.map fun p => .tup [.str p.1, .int p.2])) : ∃ cs : List Addr, lkTup K c (cs.map V.ref) ∧ Paired (fun p a => lkTup K a [.str p.1, .int p.2]) fs cs := by
  obtain ⟨xs, hx, pr⟩ := h
  have : ∀ {fs : List (Str × Int)} {xs : List V}, Paired (fun d x => RepK K 3 d x) (fs.map fun p => D.tup [.str p.1, .int p.2]) xs → ∃ cs : List Addr, xs = cs.map V.ref ∧ Paired (fun p a => lkTup K a [.str p.1, .int p.2]) fs cs := by
    intro fs
    induction fs with
    | nil => intro xs h; cases h; exact ⟨[], rfl, .nil⟩
    | cons p fs ih =>
      intro xs h
      cases h with
      | cons h t =>
        obtain ⟨cs, rfl, pc⟩ := ih t
        obtain ⟨a, ys, rfl, ha, py⟩ := h
        refine ⟨a :: cs, rfl, .cons ?_ pc⟩
        cases py with
        | cons h1 t1 =>
          cases t1 with
          | cons h2 t2 =>
            cases t2
            have h1 : _ = V.str p.1 := h1
            have h2 : _ = V.int p.2 := h2
            subst h1 h2
            exact ha
  obtain ⟨cs, rfl, pc⟩ := this pr
  exact ⟨cs, hx, pc⟩
end Ssb

/-! try: .. except C0: .. except C as e: .. (C0 does not fit; e is not kept behind the suite). -/
namespace Ssb
open PySem PySem.Spec L2 PyProof.Rows
section
variable {X : Cx} {x0 x n : Str} {c0 c : Value} {i : Nat} {body suite suite0 : List Stmt} {b0 b₀ : Stmt} {np0 np pos pos0 pos' : Pos} {tb : WX → TS} {ts : Addr → Value → Option Addr → TS} {Wout : WX}
/-- the first clause is asked and does not fit -/
def wSkp (K : PySem.W.Frag) (c0 : Value) (W : WX) : WX := fun cls d σ H => PySem.W.exmOne K cls c0 = some false ∧ W cls d σ H
theorem ps_try_as2 (hs : X.stack = X.env :: X.outer) (hf : X.env.frame = some X.env.locals) (hN : X.N.Nodup) (hi : X.N[i]? = some n) (hln : X.env.kindOf n = some .local) (hc0 : Names X x0 c0) (hc : Names X x c) (tk : Takes X Wout)
    (hb : ∀ (W : WX) (pn : List (Addr × Obj)) (xe : Value → Shared → Prop), Takes (X.tr pn xe) W → PassesOwn (model X.prog X.w) X.A X.env xe → PSs (X.tr pn xe) body (tb W))
    (hsu : ∀ (a : Addr) (oe : Obj) (cls : Value) (d : Option Addr) (pn : List (Addr × Obj)), Zc cls d oe → (∃ vs, oe.data = .fields vs) → PSs (X.suite a ((a, oe) :: pn)) (b₀ :: suite) (ts a cls d)) :
    PS X (.Try body [.ExceptHandler (some (.Name x0 np0)) none (b0 :: suite0) pos0, .ExceptHandler (some (.Name x np)) (some n) (b₀ :: suite) pos'] [] [] pos) (fun D σ H => tb (wSkp X.K c0 (wAs X.K c i ts Wout D)) D σ H) := by
  refine ⟨fun pins s σ H D I h => ?_⟩
  have ok := I.ok
  have fr0 : X.A.frames = some (X.env :: X.outer) := by rw [ok.frames, hs]
  refine wpAny_Try_except (wpAny_mono ((hb (wSkp X.K c0 (wAs X.K c i ts Wout D)) (X.pn ++ pins) (fun e s₁ => wpAny (model X.prog X.w) X.A (noteFrame e X.env) (fun _ s₂ => wpAny (model X.prog X.w) X.A (setFlight e none) (fun _ s₃ => wpAny (model X.prog X.w) X.A (handleBy e X.env [.ExceptHandler (some (.Name x0 np0)) none (b0 :: suite0) pos0, .ExceptHandler (some (.Name x np)) (some n) (b₀ :: suite) pos']) (SP X pins D) X.xe s₃) X.xe s₂) X.xe s₁) (fun u s' xx => ?_) PassesOwn.looking).run [] s σ H D (I.toTry _) h) (fun f s1 hsp => ?_) (fun e s1 he => he))
  · obtain ⟨a, B, sI, pins', σ1, HH, cls, d, rfl, J0, nb, up, sky, na, os, ag, hb0, b, hb1, hyes, hno⟩ := xx
    have J : Inv X pins σ1 HH sI := J0.ofTry ok
    rw [show (X.tr (X.pn ++ pins) _).stack = X.env :: X.outer from hs] at sky
    refine Sky.land Zc.steady fr0 hf sky fun h3 fl3 up3 => ?_
    have J3 : Inv X pins σ1 HH { s' with heap := h3 } := J.landed nb fl3.1 (up.trans up3) os ag
    obtain ⟨oe3, vs3, he3, hz3, hd3⟩ := fl3.there
    have nfr : a ∉ frs (X.env :: X.outer) := fun hm => by
      obtain ⟨_, o', e', hnf⟩ := fl3.2.2.1.mem hm
      rw [he3] at e'; cases e'; exact hnf _ hd3
    have nL : a ≠ X.env.locals := fun z => nfr (List.mem_filterMap.mpr ⟨X.env, List.mem_cons_self, (by rw [hf, z])⟩)
    have nF : a ∉ X.fs := fun hm => (List.mem_filterMap.mp hm).elim fun e he => nfr (List.mem_filterMap.mpr ⟨e, List.mem_cons_of_mem _ he.1, he.2⟩)
    have young : sI.heap.get? a = none := by
      cases hg : sI.heap.get? a with
      | none => rfl
      | some o =>
        have := nb a o hg (by rw [show (X.tr (X.pn ++ pins) _).stack = X.env :: X.outer from hs]; exact nfr)
        rw [fl3.2.1] at this; cases this
    have n0 : ∀ b o, X.s_0.heap.get? b = some o → b ∉ X.ex → b ≠ a := fun b o q hx z => by
      obtain ⟨o', h'⟩ := J.base.there b o q hx
      rw [z, young] at h'; cases h'
    have np0 : ∀ p ∈ X.pn ++ pins, p.1 ≠ a := fun p hp z => by
      have := (J.pin p hp).1
      rw [z, young] at this; cases this
    have S3 := J3.suite he3 hd3 na nL nF
    have looks : PySem.W.Looks (model X.prog X.w) h3 (typeOf (.ref a)) cls := fun A Q E s k q => wpAny_typeOf_ref (k _ _ he3) (by rw [hz3.1]; exact q)
    have LM := PySem.W.exm_one (M := model X.prog X.w) J3.kIn looks hb1
    have LM0 := PySem.W.exm_one (M := model X.prog X.w) J3.kIn looks hb0
    have ask : ∀ {y : Str} {cy : Value} {npy : Pos}, Names X y cy → ∀ {Q : Value → Shared → Prop} {E : Value → Shared → Prop}, Q cy { s' with heap := h3 } → wpAny (model X.prog X.w) (X.A.mark (some (.ref a))) (eval (.Name y npy) X.env) Q E { s' with heap := h3 } := fun {y cy npy} hy {Q E} q => by
      obtain ⟨hg, hdb, hm | ⟨hm, hv, hnn⟩⟩ := hy
      · exact ld_glob S3 hg hm q hdb
      · exact ld_blt S3 hg hm hv q hnn hdb
    refine wpAny_handleBy_cons (codeAny_handlers_test (ask hc0 (LM0.here ?_))) (by intro q; cases q)
    show wpAny _ X.A (handleBy (.ref a) X.env [.ExceptHandler (some (.Name x np)) (some n) (b₀ :: suite) pos']) _ _ _
    refine wpAny_handleBy_cons (codeAny_handlers_test (ask hc (LM.here ?_))) (by intro q; cases q)
    cases b with
    | true =>
      refine codeAny_handlers_suite_as (HandSPX.lands_againZ fl3 fun h4 fl4 up4 => ?_)
      have J4 : Inv X pins σ1 HH { s' with heap := h4 } := J.landed nb fl4.1 ((up.trans up3).trans up4) os ag
      obtain ⟨oe4, vs4, he4, hz4, hd4⟩ := fl4.there
      refine store_ok (X := X.suite a ((a, oe4) :: (X.pn ++ pins))) (v := .ref a) (J4.suite he4 hd4 na nL nF) hN hi (.inl hln) rfl (fun s5 S5 => ?_) (.inr hln)
      refine wpAny_mono ((hsu a oe4 cls d (X.pn ++ pins) hz4 ⟨_, hd4⟩).run [] s5 _ HH _ S5 (hyes rfl a na)) (fun f s6 hsp => ?_) (fun _ _ z => False.elim z)
      have fin : ∀ {σ6 : L2.St} {H6 : Hp} {Q : Shared → Prop}, Inv (X.suite a ((a, oe4) :: (X.pn ++ pins))) [] σ6 H6 s6 → (∀ s7, Inv X pins (σ6.set i none) H6 s7 → Q s7) →
          wpAny (model X.prog X.w) X.A (do bindName X.env n .none; unbindBehindTheSuite X.env n pos') (fun _ s7 => Q s7) X.xe s6 := fun {σ6 H6 Q} S6 hq => gone_ok (S6.unsuite ok) hN hi hln hq
      cases f with
      | ret u => obtain ⟨v6, σ6, H6, S6, r6, q6⟩ := hsp; exact fin S6 fun s7 J7 => ⟨_, _, _, J7, r6, q6⟩
      | next => obtain ⟨σ6, H6, S6, q6⟩ := hsp; exact fin S6 fun s7 J7 => ⟨_, _, J7, q6⟩
      | brk => obtain ⟨σ6, H6, S6, q6⟩ := hsp; exact fin S6 fun s7 J7 => ⟨_, _, J7, q6⟩
      | cont => obtain ⟨σ6, H6, S6, q6⟩ := hsp; exact fin S6 fun s7 J7 => ⟨_, _, J7, q6⟩
    | false =>
      show wpAny _ X.A (handleBy (.ref a) X.env []) _ _ _
      obtain ⟨k1, k2, k3, oe, vs, T, oT, ts', he, hz, hd, h1, hr⟩ := id fl3
      refine wpAny_handleBy_nil ?_
      unfold PySem.passOn
      refine wpAny_bind (wpAny_field he hd h1 ?_)
      rw [if_neg (show ¬ ((Value.ref T == Value.none) = true) by simp)]
      have go : wpAny (model X.prog X.w) X.A (setFlight (.ref a) X.env.frame) (fun _ s4 => wpAny (model X.prog X.w) X.A (throw (.ref a) : Sem Flow) (SP X pins D) X.xe s4) X.xe { s' with heap := h3 } := by
        rw [hf]
        exact HandSPX.setFlight_upZ fl3 fun h4 hh4 up4 => wpAny_throw (tk _ _ ⟨a, B, sI, pins, σ1, HH, cls, d, rfl, J, nb, (up.trans up3).trans up4, .inr (.inr (by rw [hs]; exact hh4)), na, os, ag, hno rfl⟩)
      first
        | exact wpAny_bind go
        | exact wpAny_bind (wpAny_pure (wpAny_bind go))
  · cases f with
    | ret u => obtain ⟨v, σ1, HH, J, r, q⟩ := hsp; exact ⟨v, σ1, HH, J.ofTry ok, r, q⟩
    | next => obtain ⟨σ1, HH, J, q⟩ := hsp; exact wpAny_execs_nil ⟨σ1, HH, J.ofTry ok, q⟩
    | brk => obtain ⟨σ1, HH, J, q⟩ := hsp; exact ⟨σ1, HH, J.ofTry ok, q⟩
    | cont => obtain ⟨σ1, HH, J, q⟩ := hsp; exact ⟨σ1, HH, J.ofTry ok, q⟩
end
end Ssb

namespace Pk
open PySem PySem.Spec PyProof.Rows L2 Ssb
/-- the i-th statement of the text -/
def topS (i : Nat) : Stmt := PySem.Challenge.pw_statestay_k81_deeds_at_the_row_limit.main.body.getD i (.Pass ⟨0, 0, 0, 0⟩)
abbrev s_fresh : Stmt := topS 1
theorem sc_fresh : FnScope ["value", "one", "key"] ["value"] (defScope s_fresh) := ⟨rfl, rfl, rfl, by decide +kernel, rfl, by decide +kernel, by decide +kernel⟩
abbrev s_LimitExceeded_init : Stmt := inClass (topS 7) 0
theorem sc_LimitExceeded_init : FnScope ["self", "limit"] ["self", "limit"] (defScope s_LimitExceeded_init) := ⟨rfl, rfl, rfl, by decide +kernel, rfl, by decide +kernel, by decide +kernel⟩
abbrev s_InvalidDeed_init : Stmt := inClass (topS 8) 0
theorem sc_InvalidDeed_init : FnScope ["self", "reason"] ["self", "reason"] (defScope s_InvalidDeed_init) := ⟨rfl, rfl, rfl, by decide +kernel, rfl, by decide +kernel, by decide +kernel⟩
abbrev s_is_word : Stmt := topS 10
theorem sc_is_word : FnScope ["value", "letter"] ["value"] (defScope s_is_word) := ⟨rfl, rfl, rfl, by decide +kernel, rfl, by decide +kernel, by decide +kernel⟩
abbrev s_are_words : Stmt := topS 11
theorem sc_are_words : FnScope ["values", "least", "most", "value"] ["values", "least", "most"] (defScope s_are_words) := ⟨rfl, rfl, rfl, by decide +kernel, rfl, by decide +kernel, by decide +kernel⟩
abbrev s_is_integer : Stmt := topS 12
theorem sc_is_integer : FnScope ["value", "least", "most"] ["value", "least", "most"] (defScope s_is_integer) := ⟨rfl, rfl, rfl, by decide +kernel, rfl, by decide +kernel, by decide +kernel⟩
abbrev s_has_names : Stmt := topS 13
theorem sc_has_names : FnScope ["value", "names", "name"] ["value", "names"] (defScope s_has_names) := ⟨rfl, rfl, rfl, by decide +kernel, rfl, by decide +kernel, by decide +kernel⟩
abbrev s_is_named : Stmt := topS 14
theorem sc_is_named : FnScope ["value", "most", "key"] ["value", "most"] (defScope s_is_named) := ⟨rfl, rfl, rfl, by decide +kernel, rfl, by decide +kernel, by decide +kernel⟩
abbrev s_has_form : Stmt := topS 15
theorem sc_has_form : FnScope ["value", "forms"] ["value", "forms"] (defScope s_has_form) := ⟨rfl, rfl, rfl, by decide +kernel, rfl, by decide +kernel, by decide +kernel⟩
abbrev s_wrong_part : Stmt := topS 17
theorem sc_wrong_part : FnScope ["flags", "lists", "rows", "name", "parent", "fields"] ["flags", "lists"] (defScope s_wrong_part) := ⟨rfl, rfl, rfl, by decide +kernel, rfl, by decide +kernel, by decide +kernel⟩
abbrev s_are_lists : Stmt := topS 18
theorem sc_are_lists : FnScope ["lists", "outer", "inner"] ["lists"] (defScope s_are_lists) := ⟨rfl, rfl, rfl, by decide +kernel, rfl, by decide +kernel, by decide +kernel⟩
abbrev s_are_list_shapes : Stmt := topS 19
theorem sc_are_list_shapes : FnScope ["lists", "most", "one"] ["lists", "most"] (defScope s_are_list_shapes) := ⟨rfl, rfl, rfl, by decide +kernel, rfl, by decide +kernel, by decide +kernel⟩
abbrev s_list_rows : Stmt := topS 20
theorem sc_list_rows : FnScope ["lists", "rows", "name", "outer", "deep", "inner"] ["lists"] (defScope s_list_rows) := ⟨rfl, rfl, rfl, by decide +kernel, rfl, by decide +kernel, by decide +kernel⟩
abbrev s_are_fields : Stmt := topS 21
theorem sc_are_fields : FnScope ["fields", "words"] ["fields"] (defScope s_are_fields) := ⟨rfl, rfl, rfl, by decide +kernel, rfl, by decide +kernel, by decide +kernel⟩
abbrev s_Shape_init : Stmt := inClass (topS 25) 0
theorem sc_Shape_init : FnScope ["self", "flags", "lists", "part", "name", "parent", "fields"] ["self", "flags", "lists"] (defScope s_Shape_init) := ⟨rfl, rfl, rfl, by decide +kernel, rfl, by decide +kernel, by decide +kernel⟩
abbrev s_Shape_outer : Stmt := inClass (topS 25) 2
theorem sc_Shape_outer : FnScope ["self"] ["self"] (defScope s_Shape_outer) := ⟨rfl, rfl, rfl, by decide +kernel, rfl, by decide +kernel, by decide +kernel⟩
abbrev s_Shape_inner : Stmt := inClass (topS 25) 3
theorem sc_Shape_inner : FnScope ["self", "name"] ["self", "name"] (defScope s_Shape_inner) := ⟨rfl, rfl, rfl, by decide +kernel, rfl, by decide +kernel, by decide +kernel⟩
abbrev s_Shape_fields : Stmt := inClass (topS 25) 4
theorem sc_Shape_fields : FnScope ["self", "name"] ["self", "name"] (defScope s_Shape_fields) := ⟨rfl, rfl, rfl, by decide +kernel, rfl, by decide +kernel, by decide +kernel⟩
abbrev s_Shape_lists_in : Stmt := inClass (topS 25) 6
theorem sc_Shape_lists_in : FnScope ["self", "parent", "name"] ["self", "parent"] (defScope s_Shape_lists_in) := ⟨rfl, rfl, rfl, by decide +kernel, rfl, by decide +kernel, by decide +kernel⟩
abbrev s_Shape_need_list : Stmt := inClass (topS 25) 7
theorem sc_Shape_need_list : FnScope ["self", "name"] ["self", "name"] (defScope s_Shape_need_list) := ⟨rfl, rfl, rfl, by decide +kernel, rfl, by decide +kernel, by decide +kernel⟩
abbrev s_check : Stmt := topS 26
theorem sc_check : FnScope ["shape", "data", "flag"] ["shape", "data"] (defScope s_check) := ⟨rfl, rfl, rfl, by decide +kernel, rfl, by decide +kernel, by decide +kernel⟩
abbrev s_check_words : Stmt := topS 27
theorem sc_check_words : FnScope ["chosen", "choices", "place", "name"] ["chosen", "choices", "place"] (defScope s_check_words) := ⟨rfl, rfl, rfl, by decide +kernel, rfl, by decide +kernel, by decide +kernel⟩
abbrev s_is_choice : Stmt := topS 28
theorem sc_is_choice : FnScope ["value", "several"] ["value", "several"] (defScope s_is_choice) := ⟨rfl, rfl, rfl, by decide +kernel, rfl, by decide +kernel, by decide +kernel⟩
abbrev s_check_lists : Stmt := topS 29
theorem sc_check_lists : FnScope ["shape", "lists", "names", "place", "name"] ["shape", "lists", "names", "place"] (defScope s_check_lists) := ⟨rfl, rfl, rfl, by decide +kernel, rfl, by decide +kernel, by decide +kernel⟩
abbrev s_check_rows : Stmt := topS 30
theorem sc_check_rows : FnScope ["shape", "name", "rows", "place", "earlier", "index", "row"] ["shape", "name", "rows", "place"] (defScope s_check_rows) := ⟨rfl, rfl, rfl, by decide +kernel, rfl, by decide +kernel, by decide +kernel⟩
abbrev s_check_row : Stmt := topS 31
theorem sc_check_row : FnScope ["shape", "name", "row", "earlier", "here"] ["shape", "name", "row", "earlier", "here"] (defScope s_check_row) := ⟨rfl, rfl, rfl, by decide +kernel, rfl, by decide +kernel, by decide +kernel⟩
abbrev s_rows_in : Stmt := topS 32
theorem sc_rows_in : FnScope ["data", "rows", "row"] ["data"] (defScope s_rows_in) := ⟨rfl, rfl, rfl, by decide +kernel, rfl, by decide +kernel, by decide +kernel⟩
abbrev s_wrong_reason : Stmt := topS 35
theorem sc_wrong_reason : FnScope ["shape", "data", "deed", "name", "rows"] ["shape", "data", "deed"] (defScope s_wrong_reason) := ⟨rfl, rfl, rfl, by decide +kernel, rfl, by decide +kernel, by decide +kernel⟩
abbrev s_list_at : Stmt := topS 36
theorem sc_list_at : FnScope ["shape", "data", "where", "row"] ["shape", "data", "where"] (defScope s_list_at) := ⟨rfl, rfl, rfl, by decide +kernel, rfl, by decide +kernel, by decide +kernel⟩
abbrev s_rows_at : Stmt := topS 37
theorem sc_rows_at : FnScope ["data", "where", "rows", "row"] ["data", "where"] (defScope s_rows_at) := ⟨rfl, rfl, rfl, by decide +kernel, rfl, by decide +kernel, by decide +kernel⟩
abbrev s_indexes_fit : Stmt := topS 38
theorem sc_indexes_fit : FnScope ["deed", "many"] ["deed", "many"] (defScope s_indexes_fit) := ⟨rfl, rfl, rfl, by decide +kernel, rfl, by decide +kernel, by decide +kernel⟩
abbrev s_row_fits : Stmt := topS 39
theorem sc_row_fits : FnScope ["shape", "data", "name", "rows", "row", "other"] ["shape", "data", "name", "rows", "row"] (defScope s_row_fits) := ⟨rfl, rfl, rfl, by decide +kernel, rfl, by decide +kernel, by decide +kernel⟩
abbrev s_after_deed : Stmt := topS 41
theorem sc_after_deed : FnScope ["data", "deed", "result", "rows"] ["data", "deed"] (defScope s_after_deed) := ⟨rfl, rfl, rfl, by decide +kernel, rfl, by decide +kernel, by decide +kernel⟩
abbrev s_apply : Stmt := topS 43
theorem sc_apply : FnScope ["shape", "data", "deed", "reason"] ["shape", "data", "deed"] (defScope s_apply) := ⟨rfl, rfl, rfl, by decide +kernel, rfl, by decide +kernel, by decide +kernel⟩
abbrev s__law_open : Stmt := topS 45
theorem sc__law_open : FnScope ["_law_script", "_law_cell"] ["_law_script"] (defScope s__law_open) := ⟨rfl, rfl, rfl, by decide +kernel, rfl, by decide +kernel, by decide +kernel⟩
abbrev s__law_mixed : Stmt := topS 46
theorem sc__law_mixed : FnScope ["_law_one", "_law_two"] ["_law_one"] (defScope s__law_mixed) := ⟨rfl, rfl, rfl, by decide +kernel, rfl, by decide +kernel, by decide +kernel⟩
abbrev s__law_draw : Stmt := topS 47
theorem sc__law_draw : FnScope ["_law_state", "_law_many", "_law_digit", "_law_cell"] ["_law_state", "_law_many"] (defScope s__law_draw) := ⟨rfl, rfl, rfl, by decide +kernel, rfl, by decide +kernel, by decide +kernel⟩
abbrev s__law_copy : Stmt := topS 48
theorem sc__law_copy : FnScope ["_law_value", "_law_result", "_law_name", "_law_part"] ["_law_value"] (defScope s__law_copy) := ⟨rfl, rfl, rfl, by decide +kernel, rfl, by decide +kernel, by decide +kernel⟩
abbrev s__law_list_at : Stmt := topS 49
theorem sc__law_list_at : FnScope ["_law_data", "_law_where", "_law_rows", "_law_row"] ["_law_data", "_law_where"] (defScope s__law_list_at) := ⟨rfl, rfl, rfl, by decide +kernel, rfl, by decide +kernel, by decide +kernel⟩
abbrev s__law_applied : Stmt := topS 50
theorem sc__law_applied : FnScope ["_law_data", "_law_deed", "_law_table", "_law_rows", "_law_row", "_law_fields"] ["_law_data", "_law_deed"] (defScope s__law_applied) := ⟨rfl, rfl, rfl, by decide +kernel, rfl, by decide +kernel, by decide +kernel⟩
abbrev s__law_big_rows : Stmt := topS 51
theorem sc__law_big_rows : FnScope ["_law_state", "_law_total", "_law_nested", "_law_start", "_law_many", "_law_at", "_law_rows", "_law_k", "_law_below", "_law_j"] ["_law_state", "_law_total", "_law_nested"] (defScope s__law_big_rows) := ⟨rfl, rfl, rfl, by decide +kernel, rfl, by decide +kernel, by decide +kernel⟩
abbrev s__law_big_shape : Stmt := topS 52
theorem sc__law_big_shape : FnScope ["_law_nested", "_law_inner"] ["_law_nested"] (defScope s__law_big_shape) := ⟨rfl, rfl, rfl, by decide +kernel, rfl, by decide +kernel, by decide +kernel⟩
abbrev s__law_row_count : Stmt := topS 53
theorem sc__law_row_count : FnScope ["_law_lists", "_law_total", "_law_name", "_law_row"] ["_law_lists"] (defScope s__law_row_count) := ⟨rfl, rfl, rfl, by decide +kernel, rfl, by decide +kernel, by decide +kernel⟩
abbrev s__law_told : Stmt := topS 54
theorem sc__law_told : FnScope ["_law_shape", "_law_data", "_law_deed", "e"] ["_law_shape", "_law_data", "_law_deed"] (defScope s__law_told) := ⟨rfl, rfl, rfl, by decide +kernel, rfl, by decide +kernel, by decide +kernel⟩
abbrev s__law_big_deed : Stmt := topS 55
theorem sc__law_big_deed : FnScope ["_law_state", "_law_data", "_law_nested", "_law_where", "_law_rows", "_law_fresh", "_law_row", "_law_below", "_law_pick", "_law_k"] ["_law_state", "_law_data", "_law_nested"] (defScope s__law_big_deed) := ⟨rfl, rfl, rfl, by decide +kernel, rfl, by decide +kernel, by decide +kernel⟩
abbrev s_law : Stmt := topS 56
theorem sc_law : FnScope ["_law_script", "_law_state", "_law_total", "_law_nested", "_law_spec", "_law_data", "_law_deed", "_law_after", "_law_due", "_law_shape", "_law_given", "_law_given_deed"] ["_law_script"] (defScope s_law) := ⟨rfl, rfl, rfl, by decide +kernel, rfl, by decide +kernel, by decide +kernel⟩
/-- what the module says of built-ins, constants and classes -/
structure Txt (K : PySem.W.Frag) (mg : Str → Option Value) (C_Shape : Addr) (C_LimitExceeded : Addr) (C_InvalidDeed : Addr) (C_StayError : Addr) (C_FORMS : Addr) : Prop where
  abs : mg "abs" = none
  all : mg "all" = none
  enumerate : mg "enumerate" = none
  int : mg "int" = none
  str : mg "str" = none
  bool : mg "bool" = none
  isinstance : mg "isinstance" = none
  len : mg "len" = none
  list : mg "list" = none
  range : mg "range" = none
  sorted : mg "sorted" = none
  sum : mg "sum" = none
  tuple : mg "tuple" = none
  set : mg "set" = none
  dict : mg "dict" = none
  g_MOST_ROWS : ∃ t, mg "MOST_ROWS" = some (.int 300 t)
  g_GREATEST_ID : ∃ t, mg "GREATEST_ID" = some (.int 1000000 t)
  cl_Shape : Cls K C_Shape
  mk_Shape : PySem.W.makesIn K C_Shape = true
  kp_Shape : PySem.W.keepIn K (.ref C_Shape) = true
  at_Shape : mg "Shape" = some (.ref C_Shape)
  no_Shape_flags : NoAttr K C_Shape "flags"
  no_Shape_table : NoAttr K C_Shape "table"
  ox_LimitExceeded : OexE K C_LimitExceeded
  at_LimitExceeded : mg "LimitExceeded" = some (.ref C_LimitExceeded)
  xk_LimitExceeded : ExK K C_LimitExceeded
  own_LimitExceeded : PySem.W.exmOne K (.ref C_LimitExceeded) (.ref C_LimitExceeded) = some true
  no_LimitExceeded_limit : PySem.W.findIn K (.ref C_LimitExceeded) "limit" = some none
  is_LimitExceeded_StayError : PySem.W.kitOne K (.ref C_LimitExceeded) (.ref C_StayError) = some true
  ex_LimitExceeded_StayError : PySem.W.exmOne K (.ref C_LimitExceeded) (.ref C_StayError) = some true
  se_LimitExceeded : PySem.W.kitOne K (.ref C_LimitExceeded) (.ref C_LimitExceeded) = some true
  ox_InvalidDeed : OexE K C_InvalidDeed
  at_InvalidDeed : mg "InvalidDeed" = some (.ref C_InvalidDeed)
  xk_InvalidDeed : ExK K C_InvalidDeed
  own_InvalidDeed : PySem.W.exmOne K (.ref C_InvalidDeed) (.ref C_InvalidDeed) = some true
  no_InvalidDeed_reason : PySem.W.findIn K (.ref C_InvalidDeed) "reason" = some none
  is_InvalidDeed_StayError : PySem.W.kitOne K (.ref C_InvalidDeed) (.ref C_StayError) = some true
  ex_InvalidDeed_StayError : PySem.W.exmOne K (.ref C_InvalidDeed) (.ref C_StayError) = some true
  ex_InvalidDeed_LimitExceeded : PySem.W.exmOne K (.ref C_InvalidDeed) (.ref C_LimitExceeded) = some false
  se_InvalidDeed : PySem.W.kitOne K (.ref C_InvalidDeed) (.ref C_InvalidDeed) = some true
  at_FORMS : mg "FORMS" = some (.ref C_FORMS)
  tu_FORMS : TupK K C_FORMS [(D.tup [D.str "append", D.int 3]), (D.tup [D.str "cut", D.int 2]), (D.tup [D.str "insert", D.int 4]), (D.tup [D.str "remove", D.int 3]), (D.tup [D.str "move", D.int 4]), (D.tup [D.str "field", D.int 5]), (D.tup [D.str "flag", D.int 2])]
  at_StayError : mg "StayError" = some (.ref C_StayError)
  kp_StayError : PySem.W.keepIn K (.ref C_StayError) = true
/-- a def as it stands -/
def Here (K : PySem.W.Frag) (mg : Str → Option Value) (nm : Str) (st : Stmt) : Prop := ∃ f fd, mg nm = some (.ref f) ∧ Fun K nm nm st f fd ∧ PySem.W.keepIn K (.ref f) = true
def HereM (K : PySem.W.Frag) (C : Addr) (nm qual : Str) (st : Stmt) : Prop := ∃ f fd, Fun K nm qual st f fd ∧ PySem.W.findIn K (.ref C) nm = some (some (.ref f)) ∧ PySem.W.isFn K (.ref f) = true ∧ PySem.W.keepIn K (.ref f) = true
structure Prg (K : PySem.W.Frag) (mg : Str → Option Value) (C_Shape : Addr) (C_LimitExceeded : Addr) (C_InvalidDeed : Addr) (C_StayError : Addr) (C_FORMS : Addr) : Prop where
  fresh : Here K mg "fresh" s_fresh
  LimitExceeded_init : HereM K C_LimitExceeded "__init__" "LimitExceeded.__init__" s_LimitExceeded_init
  InvalidDeed_init : HereM K C_InvalidDeed "__init__" "InvalidDeed.__init__" s_InvalidDeed_init
  is_word : Here K mg "is_word" s_is_word
  are_words : Here K mg "are_words" s_are_words
  is_integer : Here K mg "is_integer" s_is_integer
  has_names : Here K mg "has_names" s_has_names
  is_named : Here K mg "is_named" s_is_named
  has_form : Here K mg "has_form" s_has_form
  wrong_part : Here K mg "wrong_part" s_wrong_part
  are_lists : Here K mg "are_lists" s_are_lists
  are_list_shapes : Here K mg "are_list_shapes" s_are_list_shapes
  list_rows : Here K mg "list_rows" s_list_rows
  are_fields : Here K mg "are_fields" s_are_fields
  Shape_init : HereM K C_Shape "__init__" "Shape.__init__" s_Shape_init
  Shape_outer : HereM K C_Shape "outer" "Shape.outer" s_Shape_outer
  Shape_inner : HereM K C_Shape "inner" "Shape.inner" s_Shape_inner
  Shape_fields : HereM K C_Shape "fields" "Shape.fields" s_Shape_fields
  Shape_lists_in : HereM K C_Shape "lists_in" "Shape.lists_in" s_Shape_lists_in
  Shape_need_list : HereM K C_Shape "need_list" "Shape.need_list" s_Shape_need_list
  check : Here K mg "check" s_check
  check_words : Here K mg "check_words" s_check_words
  is_choice : Here K mg "is_choice" s_is_choice
  check_lists : Here K mg "check_lists" s_check_lists
  check_rows : Here K mg "check_rows" s_check_rows
  check_row : Here K mg "check_row" s_check_row
  rows_in : Here K mg "rows_in" s_rows_in
  wrong_reason : Here K mg "wrong_reason" s_wrong_reason
  list_at : Here K mg "list_at" s_list_at
  rows_at : Here K mg "rows_at" s_rows_at
  indexes_fit : Here K mg "indexes_fit" s_indexes_fit
  row_fits : Here K mg "row_fits" s_row_fits
  after_deed : Here K mg "after_deed" s_after_deed
  apply : Here K mg "apply" s_apply
  _law_open : Here K mg "_law_open" s__law_open
  _law_mixed : Here K mg "_law_mixed" s__law_mixed
  _law_draw : Here K mg "_law_draw" s__law_draw
  _law_copy : Here K mg "_law_copy" s__law_copy
  _law_list_at : Here K mg "_law_list_at" s__law_list_at
  _law_applied : Here K mg "_law_applied" s__law_applied
  _law_big_rows : Here K mg "_law_big_rows" s__law_big_rows
  _law_big_shape : Here K mg "_law_big_shape" s__law_big_shape
  _law_row_count : Here K mg "_law_row_count" s__law_row_count
  _law_told : Here K mg "_law_told" s__law_told
  _law_big_deed : Here K mg "_law_big_deed" s__law_big_deed
  law : Here K mg "law" s_law
theorem here_mk {K : PySem.W.Frag} {h : Heap} {mg : Str → Option Value} (X : K.In h) (G : h.Ns mainGlobals mg) {nm : Str} {st : Stmt} {f : Addr} {oc : Value} {od an : Option Addr} {sl : Array (Option Value)} {kV dc pm cd ct : Value}
    (a : PySem.W.nsIn K mainGlobals nm = some (some (.ref f))) (l : K.lookup f = some ⟨oc, od, .func (PySem.W.fnOf nm nm (defArgs st) (defBody st) (defScope st) .none kV dc pm an cd ct), sl⟩) (c : PySem.W.codeIn K cd nm = true) (k : PySem.W.keepIn K (.ref f) = true) : Here K mg nm st :=
  ⟨f, _, PySem.W.mg_of X G a, fun_mk (st := st) l c k, k⟩
theorem hereM_mk {K : PySem.W.Frag} {C : Addr} {nm qual : Str} {st : Stmt} {f : Addr} {oc : Value} {od an : Option Addr} {sl : Array (Option Value)} {kV dc pm cd ct : Value}
    (a : PySem.W.findIn K (.ref C) nm = some (some (.ref f))) (i : PySem.W.isFn K (.ref f) = true) (l : K.lookup f = some ⟨oc, od, .func (PySem.W.fnOf nm qual (defArgs st) (defBody st) (defScope st) .none kV dc pm an cd ct), sl⟩) (c : PySem.W.codeIn K cd qual = true) (k : PySem.W.keepIn K (.ref f) = true) : HereM K C nm qual st :=
  ⟨f, _, fun_mk (st := st) l c k, a, i, k⟩
def spLaw (K : PySem.W.Frag) : Sp := fun vs H Q _ => ∃ (a : Addr) (ns : List Int), vs = [.ref a] ∧ SqL K H a (ns.map V.int) ∧ ns.length ≤ 63 ∧ ∀ H', Q (.bl true) H'

end Pk

namespace Pk
open PySem PySem.Spec PyProof.Rows L2 Ssb
open Evl (Ex Ev EvT EvL EvA EvU)
/-! ### promises of defs that hand back True -/
/-- where pre holds, z comes back, and only objects are made -/
def spV (z : V) (pre : List V → Hp → Prop) : Sp := fun vs H Q _ => pre vs H ∧ ∀ H', Ex H H' → Q z H'
theorem spV_ev {z : V} {pre : List V → Hp → Prop} {vs : List V} {ta : TA} {σ : L2.St} {H : Hp} (h : EvA ta σ H vs) (hp : ∀ H1, Ex H H1 → pre vs H1) : Ev (tCall (spV z pre) [] E0 ta) σ H z := ev_fn h fun H1 e Q q => ⟨hp H1 e, q⟩
/-- a word -/
def isW (s : Str) : Prop := 1 ≤ s.length ∧ s.length ≤ 8 ∧ ∀ c ∈ s.cps.toList, 97 ≤ c ∧ c ≤ 122
theorem lt_one {a b : Nat} (h : a ≤ b) : (!decide ([b] < [a])) = true := by
  have : ¬ ([b] < [a]) := by
    intro z
    rcases List.cons_lt_cons_iff.mp z with z | z
    · omega
    · exact absurd z.2 (by simp)
  simp [this]
section
variable {P : Program} {w : World} {K : PySem.W.Frag} {mg : Str → Option Value} {base : Heap} {C_Shape C_LimitExceeded C_InvalidDeed C_StayError C_FORMS : Addr}
def preWord : List V → Hp → Prop := fun vs _ => ∃ s, vs = [.str s] ∧ isW s
theorem ok_is_word (T : Txt K mg C_Shape C_LimitExceeded C_InvalidDeed C_StayError C_FORMS) (R : Prg K mg C_Shape C_LimitExceeded C_InvalidDeed C_StayError C_FORMS) : ∃ f fd, Fn P w K mg base "is_word" 1 ["value"] (spV (.bl true) preWord) f fd := by
  obtain ⟨f, fd, at_, F, kp⟩ := R.is_word
  refine ⟨f, fd, F.ok sc_is_word (fun vs H Q E h => ?_) (fun cdv A outer s H vs Q E hr h => ?_), at_, kp, F.binds (fun _ _ _ _ _ _ us hl => match us, hl with | [_], _ => rfl)⟩
  · obtain ⟨⟨s, rfl, _⟩, _⟩ := h; rfl
  · obtain ⟨⟨x, rfl, h1, h8, hc⟩, k⟩ := h
    refine ⟨_, (pss_cons (ps_if (PW.pt (pw_or (pt_not (pt_val (pe_callB (r := rIsi K) call_isi (by rfl) T.isinstance (by decide +kernel) (pa_cons (pv 0) (pa_cons (pe_bltn (v := .ty "str") (by rfl) T.str boot_str rfl) pa_nil))))) (pw_or1 (pt_not (pt_chain op_le op_le pe_int (pe_callB (r := rLenA K) call_len (by rfl) T.len (by decide +kernel) (pa_cons (pv 0) pa_nil)) pe_int))))) pss_never pss_nil)
  (pss_one (ps_ret (pe_callB (r := rAll K) (cr_all rfl) (by rfl) T.all (by decide +kernel) (pa_cons (pe_lc (own := [("letter", 1)]) rfl sc_is_word.nd (pi_str (pv 0)) (blkOk_by (own := [("letter", 1)]) (N := ["value", "letter"]) (sc := defScope s_is_word) (by decide +kernel)) (fun _ _ _ _ _ => (pg_name (i := 1) sc_is_word.nd rfl (Or.inl rfl))) (fun _ _ _ _ _ => pts_nil) (fun _ _ _ _ _ => (pe_chain op_le_str op_le_str pe_str (pv 1) pe_str))) pa_nil))))), ?_⟩
    refine Evl.q_when (b := false) (Evl.et_or (a := false) (b := false) (Evl.et_not (a := true) (Evl.et_B (ev_isi (Evl.ev_var rfl) (fun H1 _ => .base (.str x)) (kit_ty (by decide +kernel))))) fun _ => Evl.et_not (a := true) (Evl.et_test ?_)) (fun h => nomatch h) fun _ H1 e1 => ?_
    · refine Evl.ev_is (ev_chain Evl.ev_c (ev_lenS (Evl.ev_var rfl) (by omega)) Evl.ev_c Evl.rv_I0 Evl.rv_I0) ?_
      rw [decide_eq_true (by omega : (1 : Int) ≤ (x.length : Int)), decide_eq_true (by omega : (x.length : Int) ≤ 8)]
      rfl
    · refine Evl.s_ret (ev_allT (n := x.length) (el_lcS (Evl.ev_var rfl) (by omega) (fun _ => rfl) fun i c hi H2 e2 => ?_)) fun H2 e2 => k H2 (e1.trans e2)
      obtain ⟨ha, hz⟩ := hc c (by rw [← Array.getElem?_toList] at hi; exact List.mem_of_getElem? hi)
      refine Evl.ev_is (ev_chain (b1 := true) (b2 := true) Evl.ev_c (Evl.ev_var rfl) Evl.ev_c ?_ ?_) rfl
      · exact fun H1 _ Q q => ⟨_, _, rfl, rfl, by rw [show (!decide ((⟨#[c]⟩ : Str).cps.toList < ("a" : Str).cps.toList)) = true from lt_one ha]; exact q H1 (Ex.refl _)⟩
      · exact fun H1 _ Q q => ⟨_, _, rfl, rfl, by rw [show (!decide (("z" : Str).cps.toList < (⟨#[c]⟩ : Str).cps.toList)) = true from lt_one hz]; exact q H1 (Ex.refl _)⟩

/-! ### are_words, of a list and of a tuple -/
def preWords (t : Bool) (K : PySem.W.Frag) : List V → Hp → Prop := fun vs H => ∃ (a : Addr) (xs : List Str) (lo hi : Int), vs = [.ref a, .int lo, .int hi] ∧ (if t = true then SqT K H a (xs.map V.str) else SqL K H a (xs.map V.str)) ∧ xs.length ≤ 1000 ∧ lo ≤ xs.length ∧ (xs.length : Int) ≤ hi ∧ (∀ x ∈ xs, isW x) ∧ xs.Nodup
theorem ok_are_wordsL (T : Txt K mg C_Shape C_LimitExceeded C_InvalidDeed C_StayError C_FORMS) (R : Prg K mg C_Shape C_LimitExceeded C_InvalidDeed C_StayError C_FORMS) : ∃ f fd, Fn P w K mg base "are_words" 2 ["values", "least", "most"] (spV (.bl true) (preWords false K)) f fd := by
  obtain ⟨_, _, G_is_word⟩ := ok_is_word (P := P) (w := w) (base := base) T R
  obtain ⟨f, fd, at_, F, kp⟩ := R.are_words
  refine ⟨f, fd, F.ok sc_are_words (fun vs H Q E h => ?_) (fun cdv A outer s H vs Q E hr h => ?_), at_, kp, F.binds (fun _ _ _ _ _ _ us hl => match us, hl with | [_, _, _], _ => rfl)⟩
  · obtain ⟨⟨a, xs, lo, hi, rfl, _⟩, _⟩ := h; rfl
  · obtain ⟨⟨a, xs, lo, hi, rfl, hs, few, hlo, hhi, hw, hn⟩, k⟩ := h
    have hs : SqL K H a (xs.map V.str) := hs
    refine ⟨_, (pss_cons (ps_if (PW.pt (pw_or (pt_not (pt_chain op_le op_le (pv 1) (pe_callB (r := rLenA K) call_len (by rfl) T.len (by decide +kernel) (pa_cons (pv 0) pa_nil)) (pv 2))) (pw_or1 (pt_not (pt_val (pe_callB (r := rAll K) (cr_all rfl) (by rfl) T.all (by decide +kernel) (pa_cons (pe_lc (own := [("value", 3)]) rfl sc_are_words.nd (show PI _ _ _ (iList K _) from pi_list (pv 0)) (blkOk_by (own := [("value", 3)]) (N := ["values", "least", "most", "value"]) (sc := defScope s_are_words) (by decide +kernel)) (fun _ _ _ _ _ => (pg_name (i := 3) sc_are_words.nd rfl (Or.inl rfl))) (fun _ _ _ _ _ => pts_nil) (fun _ _ _ _ _ => (pcl G_is_word hr (pa_cons (pv 3) pa_nil)))) pa_nil))))))) pss_never pss_nil)
  (pss_one (ps_ret (pe_cmpR op_eq (pe_callB call_lenTxs (by rfl) T.len (by decide +kernel) (pa_cons (pe_callTy (r := rSetS K P w) (cr_setS rfl) (by rfl) T.set (by decide +kernel) (pa_cons (pv 0) pa_nil)) pa_nil)) (pe_callB (r := rLenA K) call_len (by rfl) T.len (by decide +kernel) (pa_cons (pv 0) pa_nil)) (nomark _))))), ?_⟩
    refine Evl.q_when (b := false) (Evl.et_or (a := false) (b := false) (Evl.et_not (a := true) (Evl.et_test ?_)) fun _ => Evl.et_not (a := true) (Evl.et_B (ev_allT (el_lcA (Evl.ev_var rfl) hs (by rw [List.length_map]; omega) (fun _ => rfl) fun i x hx H2 e2 => ?_)))) (fun h => nomatch h) fun _ H1 e1 => Evl.s_ret (Evl.ev_is (Evl.ev_op (ev_lenSet (Evl.ev_var rfl) (.inl (Evl.ex_l e1 hs)) few) (ev_lenL (Evl.ev_var rfl) (.inl (Evl.ex_l e1 hs))) (Evl.rv_eq rfl)) ?_) fun H2 e2 => k H2 (e1.trans e2)
    · refine Evl.ev_is (ev_chain (Evl.ev_var rfl) (ev_lenL (Evl.ev_var rfl) (.inl hs)) (Evl.ev_var rfl) Evl.rv_I0 Evl.rv_I0) ?_
      rw [List.length_map, decide_eq_true hlo, decide_eq_true hhi]; rfl
    · obtain ⟨z, hz, rfl⟩ : ∃ z, xs[i]? = some z ∧ x = .str z := by
        rw [List.getElem?_map] at hx
        cases e : xs[i]? with
        | none => rw [e] at hx; cases hx
        | some z => rw [e] at hx; exact ⟨z, rfl, (Option.some.inj hx).symm⟩
      exact spV_ev (Evl.ea_cons (Evl.ev_var rfl) Evl.ea_nil) fun H3 _ => ⟨z, rfl, hw z (List.mem_of_getElem? hz)⟩
    · rw [met_nodup xs [] hn, List.length_map]; simp
theorem ok_are_wordsT (T : Txt K mg C_Shape C_LimitExceeded C_InvalidDeed C_StayError C_FORMS) (R : Prg K mg C_Shape C_LimitExceeded C_InvalidDeed C_StayError C_FORMS) : ∃ f fd, Fn P w K mg base "are_words" 2 ["values", "least", "most"] (spV (.bl true) (preWords true K)) f fd := by
  obtain ⟨_, _, G_is_word⟩ := ok_is_word (P := P) (w := w) (base := base) T R
  obtain ⟨f, fd, at_, F, kp⟩ := R.are_words
  refine ⟨f, fd, F.ok sc_are_words (fun vs H Q E h => ?_) (fun cdv A outer s H vs Q E hr h => ?_), at_, kp, F.binds (fun _ _ _ _ _ _ us hl => match us, hl with | [_, _, _], _ => rfl)⟩
  · obtain ⟨⟨a, xs, lo, hi, rfl, _⟩, _⟩ := h; rfl
  · obtain ⟨⟨a, xs, lo, hi, rfl, hs, few, hlo, hhi, hw, hn⟩, k⟩ := h
    have hs : SqT K H a (xs.map V.str) := hs
    refine ⟨_, (pss_cons (ps_if (PW.pt (pw_or (pt_not (pt_chain op_le op_le (pv 1) (pe_callB (r := rLenA K) call_len (by rfl) T.len (by decide +kernel) (pa_cons (pv 0) pa_nil)) (pv 2))) (pw_or1 (pt_not (pt_val (pe_callB (r := rAll K) (cr_all rfl) (by rfl) T.all (by decide +kernel) (pa_cons (pe_lc (own := [("value", 3)]) rfl sc_are_words.nd (show PI _ _ _ (iTup K _) from pi_tup (pv 0)) (blkOk_by (own := [("value", 3)]) (N := ["values", "least", "most", "value"]) (sc := defScope s_are_words) (by decide +kernel)) (fun _ _ _ _ _ => (pg_name (i := 3) sc_are_words.nd rfl (Or.inl rfl))) (fun _ _ _ _ _ => pts_nil) (fun _ _ _ _ _ => (pcl G_is_word hr (pa_cons (pv 3) pa_nil)))) pa_nil))))))) pss_never pss_nil)
  (pss_one (ps_ret (pe_cmpR op_eq (pe_callB call_lenTxs (by rfl) T.len (by decide +kernel) (pa_cons (pe_callTy (r := rSetS K P w) (cr_setS rfl) (by rfl) T.set (by decide +kernel) (pa_cons (pv 0) pa_nil)) pa_nil)) (pe_callB (r := rLenA K) call_len (by rfl) T.len (by decide +kernel) (pa_cons (pv 0) pa_nil)) (nomark _))))), ?_⟩
    refine Evl.q_when (b := false) (Evl.et_or (a := false) (b := false) (Evl.et_not (a := true) (Evl.et_test ?_)) fun _ => Evl.et_not (a := true) (Evl.et_B (ev_allT (el_lcT (Evl.ev_var rfl) hs (by rw [List.length_map]; omega) (fun _ => rfl) fun i x hx H2 e2 => ?_)))) (fun h => nomatch h) fun _ H1 e1 => Evl.s_ret (Evl.ev_is (Evl.ev_op (ev_lenSet (Evl.ev_var rfl) (.inr (Evl.ex_t e1 hs)) few) (ev_lenL (Evl.ev_var rfl) (.inr (Evl.ex_t e1 hs))) (Evl.rv_eq rfl)) ?_) fun H2 e2 => k H2 (e1.trans e2)
    · refine Evl.ev_is (ev_chain (Evl.ev_var rfl) (ev_lenL (Evl.ev_var rfl) (.inr hs)) (Evl.ev_var rfl) Evl.rv_I0 Evl.rv_I0) ?_
      rw [List.length_map, decide_eq_true hlo, decide_eq_true hhi]; rfl
    · obtain ⟨z, hz, rfl⟩ : ∃ z, xs[i]? = some z ∧ x = .str z := by
        rw [List.getElem?_map] at hx
        cases e : xs[i]? with
        | none => rw [e] at hx; cases hx
        | some z => rw [e] at hx; exact ⟨z, rfl, (Option.some.inj hx).symm⟩
      exact spV_ev (Evl.ea_cons (Evl.ev_var rfl) Evl.ea_nil) fun H3 _ => ⟨z, rfl, hw z (List.mem_of_getElem? hz)⟩
    · rw [met_nodup xs [] hn, List.length_map]; simp

/-! ### has_names, is_named -/
def preNames (K : PySem.W.Frag) : List V → Hp → Prop := fun vs H => ∃ (v : V) (a : Addr) (n : Nat) (S : Addr → Prop) (l : List (Str × D)) (ns : List Str), vs = [v, .ref a] ∧ Rep H n S (.dic l) v ∧ SqL K H a (ns.map V.str) ∧ ns.length ≤ 1000 ∧ l.length = ns.length ∧ ∀ x ∈ ns, (l.lookup x).isSome = true
theorem ok_has_names (T : Txt K mg C_Shape C_LimitExceeded C_InvalidDeed C_StayError C_FORMS) (R : Prg K mg C_Shape C_LimitExceeded C_InvalidDeed C_StayError C_FORMS) : ∃ f fd, Fn P w K mg base "has_names" 1 ["value", "names"] (spV (.bl true) (preNames K)) f fd := by
  obtain ⟨f, fd, at_, F, kp⟩ := R.has_names
  refine ⟨f, fd, F.ok sc_has_names (fun vs H Q E h => ?_) (fun cdv A outer s H vs Q E hr h => ?_), at_, kp, F.binds (fun _ _ _ _ _ _ us hl => match us, hl with | [_, _], _ => rfl)⟩
  · obtain ⟨⟨v, a, n, S, l, ns, rfl, _⟩, _⟩ := h; rfl
  · obtain ⟨⟨v, a, n, S, l, ns, rfl, hv, ha, hn, hl, hk⟩, k⟩ := h
    cases n with
    | zero => exact hv.elim
    | succ n =>
    obtain ⟨d, es, rfl, _, hd, _, pr⟩ := hv
    have le : es.length = ns.length := (pair_len pr).symm.trans hl
    refine ⟨_, (pss_one (ps_ret (pe_and (pe_callB (r := rIsi K) call_isi (by rfl) T.isinstance (by decide +kernel) (pa_cons (pv 0) (pa_cons (pe_bltn (v := .ty "dict") (by rfl) T.dict boot_dict rfl) pa_nil))) (pe_and (pe_cmpR op_eq (pe_callB call_lenD (by rfl) T.len (by decide +kernel) (pa_cons (pv 0) pa_nil)) (pe_callB (r := rLenA K) call_len (by rfl) T.len (by decide +kernel) (pa_cons (pv 1) pa_nil)) (nomark _)) (pe_one (pe_callB (r := rAll K) (cr_all rfl) (by rfl) T.all (by decide +kernel) (pa_cons (pe_lc (own := [("name", 2)]) rfl sc_has_names.nd (show PI _ _ _ (iList K _) from pi_list (pv 1)) (blkOk_by (own := [("name", 2)]) (N := ["value", "names", "name"]) (sc := defScope s_has_names) (by decide +kernel)) (fun _ _ _ _ _ => (pg_name (i := 2) sc_has_names.nd rfl (Or.inl rfl))) (fun _ _ _ _ _ => pts_nil) (fun _ _ _ _ _ => (pe_cmp (pc_din (hu_of hr) (pv 2) (pv 0)) rfl))) pa_nil))))))), ?_⟩
    refine Evl.s_ret (Evl.ev_is (Evl.ev_andV (a := true) (b := true) (ev_isi (Evl.ev_var rfl) (fun H1 e1 => .base (.dK (e1 _ _ hd))) (kit_ty (by decide +kernel))) fun _ => Evl.ev_is (Evl.ev_andV (a := true) (b := true) (Evl.ev_is (Evl.ev_op (ev_lenK (Evl.ev_var rfl) hd) (ev_lenL (Evl.ev_var rfl) (.inl ha)) (Evl.rv_eq rfl)) ?_) fun _ => ev_allT (el_lcA (Evl.ev_var rfl) ha (by rw [List.length_map]; omega) (fun _ => rfl) fun i x hx H2 e2 => ?_)) rfl) rfl) fun H2 e2 => k H2 e2
    · rw [List.length_map, le]; simp
    · obtain ⟨z, hz, rfl⟩ : ∃ z, ns[i]? = some z ∧ x = .str z := by
        rw [List.getElem?_map] at hx
        cases e : ns[i]? with
        | none => rw [e] at hx; cases hx
        | some z => rw [e] at hx; exact ⟨z, rfl, (Option.some.inj hx).symm⟩
      refine Evl.ev_is (ev_din (Evl.ev_var rfl) (Evl.ev_var rfl) (.inl (e2 _ _ hd))) ?_
      have q := hk z (List.mem_of_getElem? hz)
      cases e : l.lookup z with
      | none => rw [e] at q; cases q
      | some d0 =>
        obtain ⟨v0, hv0, _⟩ := pair_lk pr e
        rw [hv0]; rfl
def preNamed : List V → Hp → Prop := fun vs H => ∃ (v : V) (m : Int) (n : Nat) (S : Addr → Prop) (l : List (Str × D)), vs = [v, .int m] ∧ Rep H n S (.dic l) v ∧ (l.length : Int) ≤ m ∧ ∀ p ∈ l, isW p.1
theorem ok_is_named (T : Txt K mg C_Shape C_LimitExceeded C_InvalidDeed C_StayError C_FORMS) (R : Prg K mg C_Shape C_LimitExceeded C_InvalidDeed C_StayError C_FORMS) : ∃ f fd, Fn P w K mg base "is_named" 2 ["value", "most"] (spV (.bl true) preNamed) f fd := by
  obtain ⟨_, _, G_is_word⟩ := ok_is_word (P := P) (w := w) (base := base) T R
  obtain ⟨f, fd, at_, F, kp⟩ := R.is_named
  refine ⟨f, fd, F.ok sc_is_named (fun vs H Q E h => ?_) (fun cdv A outer s H vs Q E hr h => ?_), at_, kp, F.binds (fun _ _ _ _ _ _ us hl => match us, hl with | [_, _], _ => rfl)⟩
  · obtain ⟨⟨v, m, n, S, l, rfl, _⟩, _⟩ := h; rfl
  · obtain ⟨⟨v, m, n, S, l, rfl, hv, hm, hk⟩, k⟩ := h
    cases n with
    | zero => exact hv.elim
    | succ n =>
    obtain ⟨d, es, rfl, _, hd, h5, pr⟩ := hv
    have le : l.length = es.length := pair_len pr
    refine ⟨_, (pss_one (ps_ret (pe_and (pe_callB (r := rIsi K) call_isi (by rfl) T.isinstance (by decide +kernel) (pa_cons (pv 0) (pa_cons (pe_bltn (v := .ty "dict") (by rfl) T.dict boot_dict rfl) pa_nil))) (pe_and (pe_cmpR op_le (pe_callB call_lenD (by rfl) T.len (by decide +kernel) (pa_cons (pv 0) pa_nil)) (pv 1) (nomark _)) (pe_one (pe_callB (r := rAll K) (cr_all rfl) (by rfl) T.all (by decide +kernel) (pa_cons (pe_lock (pe_lc (own := [("key", 2)]) rfl sc_is_named.nd (pi_keys (pv 0)) (blkOk_by (own := [("key", 2)]) (N := ["value", "most", "key"]) (sc := defScope s_is_named) (by decide +kernel)) (fun _ _ _ _ _ => (pg_name (i := 2) sc_is_named.nd rfl (Or.inl rfl))) (fun _ _ _ _ _ => pts_nil) (fun _ _ _ _ _ => (pcl G_is_word hr (pa_cons (pv 2) pa_nil))))) pa_nil))))))), ?_⟩
    refine Evl.s_ret (Evl.ev_is (Evl.ev_andV (a := true) (b := true) (ev_isi (Evl.ev_var rfl) (fun H1 e1 => .base (.dK (e1 _ _ hd))) (kit_ty (by decide +kernel))) fun _ => Evl.ev_is (Evl.ev_andV (a := true) (b := true) (Evl.ev_is (Evl.ev_op (ev_lenK (Evl.ev_var rfl) hd) (Evl.ev_var rfl) Evl.rv_I0) ?_) fun _ => ev_allT (el_lcK (fun H1 => Evl.ev_var rfl) hd (by omega) (fun _ => rfl) fun i x v hx od H1 H2 e1 e2 => ?_)) rfl) rfl) fun H2 e2 => k H2 e2
    · rw [decide_eq_true (by omega : (es.length : Int) ≤ m)]
    · obtain ⟨p, hp, hx1, _⟩ := pair_back pr hx
      have hx1 : x = Sum.inr p.1 := hx1
      subst hx1
      exact spV_ev (Evl.ea_cons (Evl.ev_var rfl) Evl.ea_nil) fun H3 _ => ⟨p.1, rfl, hk p (List.mem_of_getElem? hp)⟩
end
end Pk

namespace Pk
open PySem PySem.Spec PyProof.Rows L2 Ssb
open Evl (Ex Ev EvT EvL EvA EvU)
/-! ### shapes as data -/
abbrev Fl := List (Str × List Str)
def flD (f : Fl) : D := .dic (f.map fun p => (p.1, .tup (p.2.map .str)))
def okFl (f : Fl) : Prop := f.length ≤ 2 ∧ (f.map (·.1)).Nodup ∧ ∀ p ∈ f, isW p.1 ∧ 2 ≤ p.2.length ∧ p.2.length ≤ 3 ∧ (∀ x ∈ p.2, isW x) ∧ p.2.Nodup
abbrev Sh := List (Str × Fl × List (Str × Fl))
def ls0 (d : D) (f : Fl) : Prop := ∃ l, d = .dic l ∧ l.length = 2 ∧ l.lookup ("fields" : Str) = some (flD f) ∧ l.lookup ("inner" : Str) = some (.dic [])
def ls1 (d : D) (f : Fl) (i : List (Str × Fl)) : Prop := ∃ l e, d = .dic l ∧ l.length = 2 ∧ l.lookup ("fields" : Str) = some (flD f) ∧ l.lookup ("inner" : Str) = some (.dic e) ∧ Paired (fun (p : Str × D) (q : Str × Fl) => p.1 = q.1 ∧ ls0 p.2 q.2) e i
def shD (d : D) (s : Sh) : Prop := ∃ l, d = .dic l ∧ Paired (fun (p : Str × D) (q : Str × Fl × List (Str × Fl)) => p.1 = q.1 ∧ ls1 p.2 q.2.1 q.2.2) l s
/-- the rows: a name, the name around it, the fields -/
abbrev Ro := Str × Option Str × Fl
def rowsOf (p : Str × Fl × List (Str × Fl)) : List Ro := (p.1, none, p.2.1) :: p.2.2.map fun q => (q.1, some p.1, q.2)
def rowsS (s : Sh) : List Ro := s.flatMap rowsOf
def okSh (s : Sh) : Prop := s.length ≤ 2 ∧ ((rowsS s).map (·.1)).Nodup ∧ ∀ p ∈ s, isW p.1 ∧ okFl p.2.1 ∧ p.2.2.length ≤ 1 ∧ ∀ q ∈ p.2.2, isW q.1 ∧ okFl q.2
def oV : Option Str → V
  | none => .non
  | some x => .str x
theorem rep_strs {H : Hp} {n : Nat} {S : Addr → Prop} : ∀ {ws : List Str} {xs : List V}, Paired (fun d x => Rep H n S d x) (ws.map D.str) xs → xs = ws.map V.str
  | [], _, .nil => rfl
  | y :: ws, _, .cons h t => by
    cases n with
    | zero => exact h.elim
    | succ n =>
    have h : _ = V.str y := h
    rw [rep_strs t, h]; rfl
theorem rep_words {H : Hp} {n : Nat} {S : Addr → Prop} {ws : List Str} {v : V} (h : Rep H n S (.tup (ws.map .str)) v) : ∃ a, v = .ref a ∧ H a = some (.tup (ws.map V.str)) := by
  cases n with
  | zero => exact h.elim
  | succ n =>
  obtain ⟨a, xs, e, ha, _, pr⟩ := h
  exact ⟨a, e, by rw [ha, rep_strs pr]⟩
/-- within a lock of d -/
theorem rep_in {H1 H2 : Hp} {n : Nat} {S : Addr → Prop} {x : D} {v : V} {d : Addr} {es : List (Key × V)} {u : HO} (hd : H1 d = some (.dK es)) (e2 : Ex (upd H1 d u) H2) (h : Rep H1 n (fun b => S b ∧ b ≠ d) x v) : Rep H2 n (fun b => S b ∧ b ≠ d) x v :=
  rep_ex e2 (rep_lock hd (fun _ z => z.2) h)
section
variable {P : Program} {w : World} {K : PySem.W.Frag} {mg : Str → Option Value} {base : Heap} {C_Shape C_LimitExceeded C_InvalidDeed C_StayError C_FORMS : Addr}
def preFields : List V → Hp → Prop := fun vs H => ∃ (v : V) (n : Nat) (S : Addr → Prop) (f : Fl), vs = [v] ∧ Rep H n S (flD f) v ∧ okFl f
theorem ok_are_fields (T : Txt K mg C_Shape C_LimitExceeded C_InvalidDeed C_StayError C_FORMS) (R : Prg K mg C_Shape C_LimitExceeded C_InvalidDeed C_StayError C_FORMS) : ∃ f fd, Fn P w K mg base "are_fields" 3 ["fields"] (spV (.bl true) preFields) f fd := by
  obtain ⟨_, _, G_is_named⟩ := ok_is_named (P := P) (w := w) (base := base) T R
  obtain ⟨_, _, G_are_words⟩ := ok_are_wordsT (P := P) (w := w) (base := base) T R
  obtain ⟨f, fd, at_, F, kp⟩ := R.are_fields
  refine ⟨f, fd, F.ok sc_are_fields (fun vs H Q E h => ?_) (fun cdv A outer s H vs Q E hr h => ?_), at_, kp, F.binds (fun _ _ _ _ _ _ us hl => match us, hl with | [_], _ => rfl)⟩
  · obtain ⟨⟨v, n, S, f, rfl, _⟩, _⟩ := h; rfl
  · obtain ⟨⟨v, n, S, f, rfl, hv, h2, hnd, hf⟩, k⟩ := h
    cases n with
    | zero => exact hv.elim
    | succ n =>
    obtain ⟨d, es, rfl, _, hd, h5, pr⟩ := id hv
    have le : f.length = es.length := by rw [← pair_len pr, List.length_map]
    refine ⟨_, (pss_cons (ps_if (pt_not (pt_val (pcl G_is_named hr (pa_cons (pv 0) (pa_cons pe_int pa_nil))))) pss_never pss_nil)
  (pss_one (ps_ret (pe_callB (r := rAll K) (cr_all rfl) (by rfl) T.all (by decide +kernel) (pa_cons (pe_lock (pe_lc (own := [("words", 1)]) rfl sc_are_fields.nd (pi_values (pv 0)) (blkOk_by (own := [("words", 1)]) (N := ["fields", "words"]) (sc := defScope s_are_fields) (by decide +kernel)) (fun _ _ _ _ _ => (pg_name (i := 1) sc_are_fields.nd rfl (Or.inl rfl))) (fun _ _ _ _ _ => pts_nil) (fun _ _ _ _ _ => (pe_and (pe_callB (r := rIsi K) call_isi (by rfl) T.isinstance (by decide +kernel) (pa_cons (pv 1) (pa_cons (pe_bltn (v := .ty "tuple") (by rfl) T.tuple boot_tuple rfl) pa_nil))) (pe_one (pcl G_are_words hr (pa_cons (pv 1) (pa_cons pe_int (pa_cons pe_int pa_nil))))))))) pa_nil))))), ?_⟩
    refine Evl.q_when (b := false) (Evl.et_not (a := true) (Evl.et_B (spV_ev (Evl.ea_cons (Evl.ev_var rfl) (Evl.ea_cons Evl.ev_c Evl.ea_nil)) fun H1 e1 => ⟨_, 2, n + 1, S, _, rfl, rep_ex e1 hv, by rw [List.length_map]; omega, fun p hp => ?_⟩))) (fun h => nomatch h) fun _ H1 e1 => Evl.s_ret (ev_allT (el_lcV (fun _ _ _ => Evl.ev_var rfl) (e1 _ _ hd) (by omega) (fun _ => rfl) fun i x v hx od H2 H3 e2 e3 => ?_)) fun H2 e2 => k H2 (e1.trans e2)
    · obtain ⟨q, hq, rfl⟩ := List.mem_map.mp hp
      exact (hf q hq).1
    · obtain ⟨p, hp, _, hr1⟩ := pair_back pr hx
      rw [List.getElem?_map] at hp
      cases ef : f[i]? with
      | none => rw [ef] at hp; cases hp
      | some q =>
        rw [ef] at hp
        cases hp
        obtain ⟨_, ha2, ha3, hw, hn⟩ := hf q (List.mem_of_getElem? ef)
        obtain ⟨a, rfl, ha⟩ := rep_words (rep_in ((e1.trans e2) _ _ hd) e3 (rep_ex (e1.trans e2) hr1))
        exact Evl.ev_is (Evl.ev_andV (a := true) (b := true) (ev_isi (Evl.ev_var rfl) (fun H4 e4 => .base (.tup (e4 _ _ ha))) (kit_ty (by decide +kernel))) fun _ => spV_ev (Evl.ea_cons (Evl.ev_var rfl) (Evl.ea_cons Evl.ev_c (Evl.ea_cons Evl.ev_c Evl.ea_nil))) fun H4 e4 => ⟨a, q.2, 2, 3, rfl, Evl.st_of (e4 _ _ ha), by omega, by omega, by omega, hw, hn⟩) rfl
def preLs : List V → Hp → Prop := fun vs H => ∃ (v : V) (m : Int) (n : Nat) (S : Addr → Prop) (l : List (Str × D)), vs = [v, .int m] ∧ Rep H n S (.dic l) v ∧ (l.length : Int) ≤ m ∧ ∀ p ∈ l, isW p.1 ∧ ∃ l', p.2 = .dic l' ∧ l'.length = 2 ∧ (l'.lookup ("fields" : Str)).isSome = true ∧ (l'.lookup ("inner" : Str)).isSome = true
theorem ok_are_list_shapes (T : Txt K mg C_Shape C_LimitExceeded C_InvalidDeed C_StayError C_FORMS) (R : Prg K mg C_Shape C_LimitExceeded C_InvalidDeed C_StayError C_FORMS) : ∃ f fd, Fn P w K mg base "are_list_shapes" 3 ["lists", "most"] (spV (.bl true) preLs) f fd := by
  obtain ⟨_, _, G_is_named⟩ := ok_is_named (P := P) (w := w) (base := base) T R
  obtain ⟨_, _, G_has_names⟩ := ok_has_names (P := P) (w := w) (base := base) T R
  obtain ⟨f, fd, at_, F, kp⟩ := R.are_list_shapes
  refine ⟨f, fd, F.ok sc_are_list_shapes (fun vs H Q E h => ?_) (fun cdv A outer s H vs Q E hr h => ?_), at_, kp, F.binds (fun _ _ _ _ _ _ us hl => match us, hl with | [_, _], _ => rfl)⟩
  · obtain ⟨⟨v, m, n, S, l, rfl, _⟩, _⟩ := h; rfl
  · obtain ⟨⟨v, m, n, S, l, rfl, hv, hm, hl⟩, k⟩ := h
    cases n with
    | zero => exact hv.elim
    | succ n =>
    obtain ⟨d, es, rfl, _, hd, h5, pr⟩ := id hv
    have le : l.length = es.length := pair_len pr
    refine ⟨_, (pss_cons (ps_if (pt_not (pt_val (pcl G_is_named hr (pa_cons (pv 0) (pa_cons (pv 1) pa_nil))))) pss_never pss_nil)
  (pss_one (ps_ret (pe_callB (r := rAll K) (cr_all rfl) (by rfl) T.all (by decide +kernel) (pa_cons (pe_lock (pe_lc (own := [("one", 2)]) rfl sc_are_list_shapes.nd (pi_values (pv 0)) (blkOk_by (own := [("one", 2)]) (N := ["lists", "most", "one"]) (sc := defScope s_are_list_shapes) (by decide +kernel)) (fun _ _ _ _ _ => (pg_name (i := 2) sc_are_list_shapes.nd rfl (Or.inl rfl))) (fun _ _ _ _ _ => pts_nil) (fun _ _ _ _ _ => (pcl G_has_names hr (pa_cons (pv 2) (pa_cons (pe_lst (pa_cons pe_str (pa_cons pe_str pa_nil))) pa_nil)))))) pa_nil))))), ?_⟩
    refine Evl.q_when (b := false) (Evl.et_not (a := true) (Evl.et_B (spV_ev (Evl.ea_cons (Evl.ev_var rfl) (Evl.ea_cons (Evl.ev_var rfl) Evl.ea_nil)) fun H1 e1 => ⟨_, m, n + 1, S, l, rfl, rep_ex e1 hv, hm, fun p hp => (hl p hp).1⟩))) (fun h => nomatch h) fun _ H1 e1 => Evl.s_ret (ev_allT (el_lcV (fun _ _ _ => Evl.ev_var rfl) (e1 _ _ hd) (by omega) (fun _ => rfl) fun i x v hx od H2 H3 e2 e3 => ?_)) fun H2 e2 => k H2 (e1.trans e2)
    obtain ⟨p, hp, _, hr1⟩ := pair_back pr hx
    obtain ⟨_, l', e', hl', hf', hi'⟩ := hl p (List.mem_of_getElem? hp)
    rw [e'] at hr1
    refine ev_fnL (Evl.ev_var rfl) (Evl.el_lst (Evl.ea_cons Evl.ev_c (Evl.ea_cons Evl.ev_c Evl.ea_nil)) (by decide)) fun a H4 e4 ha Q q => ⟨⟨v, a, n, _, l', ["fields", "inner"], rfl, rep_ex e4 (rep_in ((e1.trans e2) _ _ hd) e3 (rep_ex (e1.trans e2) hr1)), Evl.sq_of ha, by decide, hl', fun z hz => ?_⟩, q⟩
    rcases List.mem_cons.mp hz with rfl | hz
    · exact hf'
    · rw [List.mem_singleton.mp hz]; exact hi'
theorem ls0_in {l : List (Str × D)} {i : List (Str × Fl)} (pr : Paired (fun (p : Str × D) (q : Str × Fl) => p.1 = q.1 ∧ ls0 p.2 q.2) l i) (hw : ∀ q ∈ i, isW q.1) : ∀ p ∈ l, isW p.1 ∧ ∃ l', p.2 = .dic l' ∧ l'.length = 2 ∧ (l'.lookup ("fields" : Str)).isSome = true ∧ (l'.lookup ("inner" : Str)).isSome = true := fun p hp => by
  obtain ⟨j, hj, ej⟩ := List.mem_iff_getElem.mp hp
  obtain ⟨q, hq, e1, l', e2, h2, h3, h4⟩ := pair_at pr (i := j) (a := p) (by rw [← ej]; exact List.getElem?_eq_getElem hj)
  exact ⟨e1 ▸ hw q (List.mem_of_getElem? hq), l', e2, h2, by rw [h3]; rfl, by rw [h4]; rfl⟩
theorem ls1_in {l : List (Str × D)} {s : Sh} (pr : Paired (fun (p : Str × D) (q : Str × Fl × List (Str × Fl)) => p.1 = q.1 ∧ ls1 p.2 q.2.1 q.2.2) l s) (hw : ∀ q ∈ s, isW q.1) : ∀ p ∈ l, isW p.1 ∧ ∃ l', p.2 = .dic l' ∧ l'.length = 2 ∧ (l'.lookup ("fields" : Str)).isSome = true ∧ (l'.lookup ("inner" : Str)).isSome = true := fun p hp => by
  obtain ⟨j, hj, ej⟩ := List.mem_iff_getElem.mp hp
  obtain ⟨q, hq, e1, l', e, e2, h2, h3, h4, _⟩ := pair_at pr (i := j) (a := p) (by rw [← ej]; exact List.getElem?_eq_getElem hj)
  exact ⟨e1 ▸ hw q (List.mem_of_getElem? hq), l', e2, h2, by rw [h3]; rfl, by rw [h4]; rfl⟩
/-- an entry of a dict of data -/
theorem rep_entry {H : Hp} {n : Nat} {S : Addr → Prop} {l : List (Str × D)} {k : Str} {d : D} {a : Addr} {es : List (Key × V)} (pr : Paired (fun (q : Str × D) (e : Key × V) => e.1 = Sum.inr q.1 ∧ Rep H n (fun b => S b ∧ b ≠ a) q.2 e.2) l es) (hk : l.lookup k = some d) :
    ∃ v, valV es (Sum.inr k : Key) = some v ∧ Rep H n (fun b => S b ∧ b ≠ a) d v := pair_lk (F := fun d v => Rep H n (fun b => S b ∧ b ≠ a) d v) pr hk
def preLists : List V → Hp → Prop := fun vs H => ∃ (v : V) (n : Nat) (S : Addr → Prop) (d : D) (s : Sh), vs = [v] ∧ Rep H n S d v ∧ shD d s ∧ okSh s
theorem ok_are_lists (T : Txt K mg C_Shape C_LimitExceeded C_InvalidDeed C_StayError C_FORMS) (R : Prg K mg C_Shape C_LimitExceeded C_InvalidDeed C_StayError C_FORMS) : ∃ f fd, Fn P w K mg base "are_lists" 4 ["lists"] (spV (.bl true) preLists) f fd := by
  obtain ⟨_, _, G_are_list_shapes⟩ := ok_are_list_shapes (P := P) (w := w) (base := base) T R
  obtain ⟨f, fd, at_, F, kp⟩ := R.are_lists
  refine ⟨f, fd, F.ok sc_are_lists (fun vs H Q E h => ?_) (fun cdv A outer s H vs Q E hr h => ?_), at_, kp, F.binds (fun _ _ _ _ _ _ us hl => match us, hl with | [_], _ => rfl)⟩
  · obtain ⟨⟨v, n, S, d, s, rfl, _⟩, _⟩ := h; rfl
  · obtain ⟨⟨v, n, S, _, z, rfl, hv, ⟨l, rfl, ps⟩, hz2, hznd, hz⟩, k⟩ := h
    cases n with
    | zero => exact hv.elim
    | succ n =>
    obtain ⟨d, es, rfl, _, hd, h5, pr⟩ := id hv
    have le : l.length = es.length := pair_len pr
    have lz : l.length = z.length := pair_len ps
    refine ⟨_, (pss_cons (ps_if (pt_not (pt_val (pcl G_are_list_shapes hr (pa_cons (pv 0) (pa_cons pe_int pa_nil))))) pss_never pss_nil)
  (pss_cons (ps_lock (ps_for PassesOwn.never rfl (pi_values (pv 0)) (pg_name (i := 1) sc_are_lists.nd rfl (Or.inl rfl))
    (pss_cons (ps_if (pt_not (pt_val (pcl G_are_list_shapes hr (pa_cons (pe_dget (hu_of hr) (pv 1) pe_str (fun _ _ => rfl)) (pa_cons pe_int pa_nil))))) pss_never pss_nil)
  (pss_one (ps_if (pt_not (pt_val (pe_callB (r := rAll K) (cr_all rfl) (by rfl) T.all (by decide +kernel) (pa_cons (pe_lock (pe_lc (own := [("inner", 2)]) rfl sc_are_lists.nd (pi_values (pe_dget (hu_of hr) (pv 1) pe_str (fun _ _ => rfl))) (blkOk_by (own := [("inner", 2)]) (N := ["lists", "outer", "inner"]) (sc := defScope s_are_lists) (by decide +kernel)) (fun _ _ _ _ _ => (pg_name (i := 2) sc_are_lists.nd rfl (Or.inl rfl))) (fun _ _ _ _ _ => pts_nil) (fun _ _ _ _ _ => (pcl G_are_list_shapes hr (pa_cons (pe_dget (hu_of hr) (pv 2) pe_str (fun _ _ => rfl)) (pa_cons pe_int pa_nil)))))) pa_nil)))) pss_never pss_nil)))))
  (pss_one (ps_ret pe_bl)))), ?_⟩
    refine Evl.q_when (b := false) (Evl.et_not (a := true) (Evl.et_B (spV_ev (Evl.ea_cons (Evl.ev_var rfl) (Evl.ea_cons Evl.ev_c Evl.ea_nil)) fun H1 e1 => ⟨_, 2, n + 1, S, l, rfl, rep_ex e1 hv, by omega, ls1_in ps fun q hq => (hz q hq).1⟩))) (fun h => nomatch h) fun _ H1 e1 => ?_
    have hd1 := e1 _ _ hd
    refine for_lock (J := fun od => Itd d od es) (xs := fun _ => none) hd1 (fun od R r => ⟨_, rfl, d, od, es, rfl, upd_same, r⟩) (fun od => walk_values) (fun od i σ' H' => ∃ o1, σ' = [some (.ref d), o1, none] ∧ Ex (upd H1 d (.frz od (.dK es))) H') (fun od => ⟨_, rfl, Ex.refl _⟩) (fun od i σ' H' _ ⟨_, _, e⟩ => e _ _ upd_same) (fun od i x σ' H' H2 hi ⟨o1, eσ, e⟩ y => ?_) fun od σ' H' ⟨_, _, e⟩ => k _ (e1.trans (unlock hd1 e))
    subst eσ
    obtain ⟨rfl, key, hx⟩ := y
    obtain ⟨p, hp, _, hr1⟩ := pair_back pr hx
    obtain ⟨q, hq, _, l1, e', ep, _, _, hin, pi⟩ := pair_at ps hp
    obtain ⟨_, _, hq1, hqw⟩ := hz q (List.mem_of_getElem? hq)
    rw [ep] at hr1
    have hr2 := rep_in hd1 e (rep_ex e1 hr1)
    cases n with
    | zero => exact hr2.elim
    | succ n =>
    obtain ⟨de, ee, rfl, ⟨_, nde⟩, hde, _, pe⟩ := id hr2
    obtain ⟨vi, hvi, hri⟩ := rep_entry pe hin
    refine Evl.q_when (b := false) (Evl.et_not (a := true) (Evl.et_B (spV_ev (Evl.ea_cons (ev_get (Evl.ev_var rfl) Evl.ev_c (.inl hde) hvi) (Evl.ea_cons Evl.ev_c Evl.ea_nil)) fun H4 e4 => ⟨_, 1, n, _, e', rfl, rep_ex e4 hri, by rw [pair_len pi]; omega, ls0_in pi fun q' hq' => (hqw q' hq').1⟩))) (fun h => nomatch h) fun _ H4 e4 => ?_
    cases n with
    | zero => exact hri.elim
    | succ n =>
    obtain ⟨di, ei, rfl, ⟨_, ndi⟩, hdi, hl5, pri⟩ := id hri
    have le' := pair_len pri
    refine Evl.s_when (b := false) (Evl.et_not (a := true) (Evl.et_B (ev_allT (el_lcV (fun H5 e5 od' => ?_) (e4 _ _ hdi) (by omega) (fun _ => rfl) fun i' x' v' hx' od' H5 H6 e5 e6 => ?_)))) (fun h => nomatch h) fun _ H5 e5 => ⟨_, rfl, e.trans (e4.trans e5)⟩
    · exact ev_get (Evl.ev_var rfl) Evl.ev_c (.inl (by rw [upd_ne ndi.symm]; exact (e4.trans e5) _ _ hde)) hvi
    · obtain ⟨p', hp', _, hr'⟩ := pair_back pri hx'
      obtain ⟨q', hq', _, l2, ep2, _, _, hin2⟩ := pair_at pi hp'
      rw [ep2] at hr'
      have hr3 := rep_in ((e4.trans e5) _ _ hdi) e6 (rep_ex (e4.trans e5) hr')
      cases n with
      | zero => exact hr3.elim
      | succ n =>
      obtain ⟨dj, ej, rfl, _, hdj, _, pj⟩ := id hr3
      obtain ⟨vj, hvj, hrj⟩ := rep_entry pj hin2
      exact spV_ev (Evl.ea_cons (ev_get (Evl.ev_var rfl) Evl.ev_c (.inl hdj) hvj) (Evl.ea_cons Evl.ev_c Evl.ea_nil)) fun H7 e7 => ⟨_, 0, n, _, [], rfl, rep_ex e7 hrj, by decide, fun _ hm => nomatch hm⟩
end
end Pk

namespace Pk
open PySem PySem.Spec PyProof.Rows L2 Ssb
open Evl (Ex Ev EvT EvL EvA EvU)
/-- a row's tuple at H', its fields as they stand at H -/
def RowAt (H H' : Hp) (n : Nat) (S : Addr → Prop) (r : Ro) (x : V) : Prop := ∃ a fv, x = .ref a ∧ H' a = some (.tup [.str r.1, oV r.2.1, fv]) ∧ Rep H n S (flD r.2.2) fv
theorem rowAt_to {H H' H2 : Hp} {n : Nat} {S : Addr → Prop} {r : Ro} {x : V} (k : ∀ a xs, H' a = some (.tup xs) → H2 a = some (.tup xs)) (h : RowAt H H' n S r x) : RowAt H H2 n S r x := by
  obtain ⟨a, fv, e, ha, hr⟩ := h; exact ⟨a, fv, e, k a _ ha, hr⟩
theorem ex_tup {H H' : Hp} (e : Ex H H') : ∀ a xs, H a = some (.tup xs) → H' a = some (.tup xs) := fun a xs h => e a _ h
theorem upd_tup {H : Hp} {d : Addr} {o u : HO} (hd : H d = some o) (no : ∀ xs, o ≠ .tup xs) : ∀ a xs, H a = some (.tup xs) → (upd H d u) a = some (.tup xs) := fun a xs h => by
  by_cases e : a = d
  · subst e; rw [hd] at h; exact absurd (Option.some.inj h) (no xs)
  · rw [upd_ne e]; exact h
section
variable {P : Program} {w : World} {K : PySem.W.Frag} {mg : Str → Option Value} {base : Heap} {C_Shape C_LimitExceeded C_InvalidDeed C_StayError C_FORMS : Addr}
def spRows : Sp := fun vs H Q _ => ∃ (v : V) (n : Nat) (S : Addr → Prop) (d : D) (s : Sh), vs = [v] ∧ Rep H n S d v ∧ shD d s ∧ okSh s ∧
  ∀ H' p xs, Ex H H' → H p = none → H' p = some (.lst xs) → Paired (RowAt H H' n S) (rowsS s) xs → Q (.ref p) H'
theorem ok_list_rows (T : Txt K mg C_Shape C_LimitExceeded C_InvalidDeed C_StayError C_FORMS) (R : Prg K mg C_Shape C_LimitExceeded C_InvalidDeed C_StayError C_FORMS) : ∃ f fd, Fn P w K mg base "list_rows" 1 ["lists"] spRows f fd := by
  obtain ⟨f, fd, at_, F, kp⟩ := R.list_rows
  refine ⟨f, fd, F.ok sc_list_rows (fun vs H Q E h => ?_) (fun cdv A outer s H vs Q E hr h => ?_), at_, kp, F.binds (fun _ _ _ _ _ _ us hl => match us, hl with | [_], _ => rfl)⟩
  · obtain ⟨v, n, S, d, s, rfl, _⟩ := h; rfl
  · obtain ⟨v, n0, S, _, z, rfl, hv, ⟨l, rfl, ps⟩, ⟨hz2, hznd, hz⟩, k⟩ := h
    cases n0 with
    | zero => exact hv.elim
    | succ n =>
    obtain ⟨d, es, rfl, _, hd, h5, pr⟩ := id hv
    have le : l.length = es.length := pair_len pr
    have lz : l.length = z.length := pair_len ps
    refine ⟨_, (pss_cons (ps_set (i := 1) sc_list_rows.nd rfl (Or.inl rfl) (pe_lst pa_nil))
  (pss_cons (ps_lock (ps_for PassesOwn.never rfl (pi_items (pv 0)) (show PG _ _ (gTup K 2 _) from pg_tup (n := 2) rfl (pgs_cons (pg_name (i := 2) sc_list_rows.nd rfl (Or.inl rfl)) (pgs_cons (pg_name (i := 3) sc_list_rows.nd rfl (Or.inl rfl)) pgs_nil)))
    (pss_cons (ps_expr (show PE _ _ (tBM K _ _ _ _) from pe_bm PySem.F.plainAttrs_list PySem.F.slot_list_append PySem.F.type_list_append mt_append (pv 1) (pa_cons (pe_tup (pa_cons (pv 2) (pa_cons pe_non (pa_cons (pe_dget (hu_of hr) (pv 3) pe_str (fun _ _ => rfl)) pa_nil)))) pa_nil)))
  (pss_one (ps_lock (ps_for PassesOwn.never rfl (pi_items (pe_dget (hu_of hr) (pv 3) pe_str (fun _ _ => rfl))) (show PG _ _ (gTup K 2 _) from pg_tup (n := 2) rfl (pgs_cons (pg_name (i := 4) sc_list_rows.nd rfl (Or.inl rfl)) (pgs_cons (pg_name (i := 5) sc_list_rows.nd rfl (Or.inl rfl)) pgs_nil)))
    (pss_one (ps_expr (show PE _ _ (tBM K _ _ _ _) from pe_bm PySem.F.plainAttrs_list PySem.F.slot_list_append PySem.F.type_list_append mt_append (pv 1) (pa_cons (pe_tup (pa_cons (pv 4) (pa_cons (pv 2) (pa_cons (pe_dget (hu_of hr) (pv 5) pe_str (fun _ _ => rfl)) pa_nil)))) pa_nil))))))))))
  (pss_one (ps_ret (pv 1))))), ?_⟩
    refine Evl.q_asgL (Evl.el_lst Evl.ea_nil (by decide)) fun r H1 hr0 e1 hr1 => ?_
    have hd1 := e1 _ _ hd
    have ndr : r ≠ d := fun e => by rw [e, hd] at hr0; cases hr0
    refine for_lock (J := fun od => Iti d od es) (xs := fun _ => none) hd1 (fun od G g => ⟨_, rfl, d, od, es, rfl, upd_same, g⟩) (fun od => walk_items)
      (fun od i σ' H' => ∃ x2 x3 x4 x5 acc, σ' = [some (.ref d), some (.ref r), x2, x3, x4, x5] ∧ Ex (upd H d (.frz od (.dK es))) H' ∧ H' r = some (.lst acc) ∧ acc.length ≤ 2 * i ∧ Paired (RowAt H H' (n + 1) S) (rowsS (z.take i)) acc)
      (fun od => ⟨_, _, _, _, [], rfl, fun a o ha => ?_, by rw [upd_ne ndr]; exact hr1, Nat.zero_le _, .nil⟩) (fun od i σ' H' _ ⟨_, _, _, _, _, _, e, _⟩ => e _ _ upd_same) (fun od i x σ' H' H2 hi ⟨x2, x3, x4, x5, acc, eσ, e, hacc, hlen, hrows⟩ y => ?_) fun od σ' H' ⟨x2, x3, x4, x5, acc, eσ, e, hacc, hlen, hrows⟩ => ?_
    · by_cases ed : a = d
      · subst ed; rw [upd_same] at ha ⊢; exact ha
      · rw [upd_ne ed] at ha ⊢; exact e1 a o ha
    · subst eσ
      obtain ⟨Tp, x1, v1, rfl, nT, rfl, hx1, hv1⟩ := y
      have hx1 : Option.map (fun kv : Key × V => kV kv.1) es[i]? = some x1 := hx1
      have hv1 : Option.map Prod.snd es[i]? = some v1 := hv1
      cases hes : es[i]? with
      | none => rw [hes] at hx1; cases hx1
      | some kv =>
      rw [hes] at hx1 hv1
      obtain ⟨key, vv⟩ := kv
      obtain ⟨p, hp, hk1, hr2⟩ := pair_back pr hes
      obtain ⟨q, hq, ek, l1, e', ep, _, hfl, hin, pi⟩ := pair_at ps hp
      obtain ⟨_, _, hq1, hqw⟩ := hz q (List.mem_of_getElem? hq)
      have hk1 : key = Sum.inr p.1 := hk1
      have ex1 : x1 = .str q.1 := by rw [← ek, ← Option.some.inj hx1, hk1]; rfl
      have ev1 : vv = v1 := Option.some.inj hv1
      subst ex1; subst ev1
      rw [ep] at hr2
      cases n with
      | zero => exact hr2.elim
      | succ n =>
      obtain ⟨de, ee, hde0, ⟨_, nde⟩, hde, _, pe⟩ := id hr2
      have hde0 : vv = .ref de := hde0
      subst hde0
      obtain ⟨vf, hvf, hrf⟩ := rep_entry pe hfl
      obtain ⟨vi, hvi, hri⟩ := rep_entry pe hin
      have step : ∀ {Hx : Hp}, Ex H' Hx → ∀ {a : Addr} {o : HO}, H a = some o → a ≠ d → Hx a = some o := fun ex a o ha hne => ex a o (e a o (by rw [upd_ne hne]; exact ha))
      have nTr : Tp ≠ r := fun z => by rw [z, hacc] at nT; cases nT
      refine ⟨Tp, [.str q.1, .ref de], rfl, Evl.st_of upd_same, rfl, _, _, rfl, _, _, rfl, rfl, ?_⟩
      have eT : Ex H' (upd H' Tp (.tup [.str q.1, .ref de])) := Ex.new nT
      refine Evl.q_appU (l := r) (eT _ _ hacc) (Evl.ev_var rfl) (Evl.eu_tup (Evl.ea_cons (Evl.ev_var rfl) (Evl.ea_cons Evl.ev_c (Evl.ea_cons (ev_get (Evl.ev_var rfl) Evl.ev_c (.inl (step eT hde nde)) hvf) Evl.ea_nil))) (by show 3 ≤ 100000; decide)) (by omega) fun tp H3 htp0 e3 htp => ?_
      have htr : tp ≠ r := fun z => by rw [z, eT _ _ hacc] at htp0; cases htp0
      have er0 : H r = none := hr0
      cases n with
      | zero => exact hri.elim
      | succ n =>
      obtain ⟨di, ei, hdi0, ⟨⟨_, ndi⟩, ndie⟩, hdi, hl5, pri⟩ := id hri
      have ndir : di ≠ r := fun z => by rw [z, er0] at hdi; cases hdi
      subst hdi0
      -- the heap behind the first append
      have e4 : Ex (upd H d (.frz od (.dK es))) (upd H3 r (.lst (acc ++ [.ref tp]))) := by
        refine Ex.mut (e.trans (eT.trans e3)) ?_
        rw [upd_ne ndr]; exact er0
      have hdi4 : (upd H3 r (.lst (acc ++ [.ref tp]))) di = some (.dK ei) := e4 _ _ (by rw [upd_ne ndi]; exact hdi)
      have hde4 : (upd H3 r (.lst (acc ++ [.ref tp]))) de = some (.dK ee) := e4 _ _ (by rw [upd_ne nde]; exact hde)
      have rows4 : Paired (RowAt H (upd H3 r (.lst (acc ++ [.ref tp]))) (n + 1 + 1 + 1) S) (rowsS (z.take i) ++ [(q.1, none, q.2.1)]) (acc ++ [.ref tp]) := by
        have tt : ∀ a xs, H3 a = some (.tup xs) → (upd H3 r (.lst (acc ++ [.ref tp]))) a = some (.tup xs) := upd_tup (e3 _ _ (eT _ _ hacc)) (fun xs h => nomatch h)
        refine pair_snoc (pair_imp hrows fun a b h => rowAt_to (fun a xs h => tt a xs (e3 _ _ (eT _ _ h))) h) ⟨tp, vf, rfl, tt _ _ htp, rep_up (rep_up (rep_S (fun b hb => hb.1.1) hrf))⟩
      have lei := pair_len pri
      have lepi := pair_len pi
      refine for_lock (J := fun od2 => Iti di od2 ei) (xs := fun _ => none) hdi4 (fun od2 G g => ⟨.ref de, rfl, de, .ref di, rfl, .inl ⟨ee, Sum.inr "inner", .inl (by rw [upd_ne ndie.symm]; exact hde4), rfl, hvi.symm⟩, di, od2, ei, rfl, upd_same, g⟩) (fun od2 => walk_items)
        (fun od2 j σ' H5 => ∃ y4 y5 acc2, σ' = [some (.ref d), some (.ref r), some (.str q.1), some (.ref de), y4, y5] ∧ Ex (upd (upd H d (.frz od (.dK es))) di (.frz od2 (.dK ei))) H5 ∧ H5 r = some (.lst acc2) ∧ acc2.length ≤ 2 * i + 1 + j ∧ Paired (RowAt H H5 (n + 1 + 1 + 1) S) (rowsS (z.take i) ++ (q.1, none, q.2.1) :: (q.2.2.take j).map fun g => (g.1, some q.1, g.2)) acc2)
        (fun od2 => ?_) (fun od2 j σ' H5 _ ⟨_, _, _, _, e5, _⟩ => e5 _ _ upd_same) (fun od2 j x σ' H5 H6 hj ⟨y4, y5, acc2, eσ, e5, hacc2, hlen2, hrows2⟩ y => ?_) fun od2 σ' H5 ⟨y4, y5, acc2, eσ, e5, hacc2, hlen2, hrows2⟩ => ?_
      · -- ahead of the inner loop
        refine ⟨_, _, acc ++ [.ref tp], rfl, fun a o ha => ?_, by rw [upd_ne ndir.symm, upd_same], by rw [List.length_append, List.length_singleton]; omega, pair_imp rows4 fun a b h => rowAt_to (upd_tup hdi4 (fun xs h => nomatch h)) h⟩
        by_cases ed : a = di
        · subst ed; rw [upd_same] at ha ⊢; exact ha
        · rw [upd_ne ed] at ha ⊢; exact e4 a o ha
      · -- a turn of the inner loop
        subst eσ
        obtain ⟨Tq, x1, v1, rfl, nT2, rfl, hx1, hv1⟩ := y
        have hx1 : Option.map (fun kv : Key × V => kV kv.1) ei[j]? = some x1 := hx1
        have hv1 : Option.map Prod.snd ei[j]? = some v1 := hv1
        cases hei : ei[j]? with
        | none => rw [hei] at hx1; cases hx1
        | some kv =>
        rw [hei] at hx1 hv1
        obtain ⟨key, vv⟩ := kv
        obtain ⟨p2, hp2, hk2, hr3⟩ := pair_back pri hei
        obtain ⟨q2, hq2, ek2, l2, ep2, _, hfl2, _⟩ := pair_at pi hp2
        have hk2 : key = Sum.inr p2.1 := hk2
        have ex2 : x1 = .str q2.1 := by rw [← ek2, ← Option.some.inj hx1, hk2]; rfl
        have ev2 : vv = v1 := Option.some.inj hv1
        subst ex2; subst ev2
        rw [ep2] at hr3
        cases n with
        | zero => exact hr3.elim
        | succ n =>
        obtain ⟨dj, ej, hdj0, ⟨⟨⟨_, ndj⟩, ndje⟩, ndji⟩, hdj, _, pj⟩ := id hr3
        have hdj0 : vv = .ref dj := hdj0
        subst hdj0
        obtain ⟨vg, hvg, hrg⟩ := rep_entry pj hfl2
        refine ⟨Tq, [.str q2.1, .ref dj], rfl, Evl.st_of upd_same, rfl, _, _, rfl, _, _, rfl, rfl, ?_⟩
        have eT2 : Ex H5 (upd H5 Tq (.tup [.str q2.1, .ref dj])) := Ex.new nT2
        refine Evl.s_appU (l := r) (eT2 _ _ hacc2) (Evl.ev_var rfl) (Evl.eu_tup (Evl.ea_cons (Evl.ev_var rfl) (Evl.ea_cons (Evl.ev_var rfl) (Evl.ea_cons (ev_get (Evl.ev_var rfl) Evl.ev_c (.inl (eT2 _ _ (e5 _ _ (by rw [upd_ne ndji, upd_ne ndj]; exact hdj)))) hvg) Evl.ea_nil))) (by show 3 ≤ 100000; decide)) (by omega) fun tq H7 htq0 e7 htq => ?_
        have r5 : (upd (upd H d (.frz od (.dK es))) di (.frz od2 (.dK ei))) r = none := by rw [upd_ne ndir.symm, upd_ne ndr]; exact er0
        refine ⟨_, _, acc2 ++ [.ref tq], rfl, Ex.mut (e5.trans (eT2.trans e7)) r5, upd_same, by rw [List.length_append, List.length_singleton]; omega, ?_⟩
        have tt : ∀ a xs, H7 a = some (.tup xs) → (upd H7 r (.lst (acc2 ++ [.ref tq]))) a = some (.tup xs) := upd_tup (e7 _ _ (eT2 _ _ hacc2)) (fun xs h => nomatch h)
        have ej2 : (q.2.2.take (j + 1)) = q.2.2.take j ++ [q2] := by rw [List.take_add_one, hq2]; rfl
        rw [ej2, List.map_append]
        have := pair_snoc (pair_imp hrows2 fun a b h => rowAt_to (fun a xs h => tt a xs (e7 _ _ (eT2 _ _ h))) h) (a := (q2.1, some q.1, q2.2)) (b := V.ref tq) ⟨tq, vg, rfl, tt _ _ htq, rep_up (rep_up (rep_up (rep_up (rep_S (fun b hb => hb.1.1.1.1) hrg))))⟩
        rw [List.append_assoc] at this
        exact this
      · -- behind the inner loop
        subst eσ
        refine ⟨_, _, _, _, acc2, rfl, ?_, by rw [upd_ne ndir.symm]; exact hacc2, by omega, ?_⟩
        · refine Ex.trans ?_ (unlock (u := .dK ei) (u' := .frz od2 (.dK ei)) ?_ e5)
          · exact Ex.refl _
          · rw [upd_ne ndi]; exact hdi
        · have ez : rowsS (z.take (i + 1)) = rowsS (z.take i) ++ (q.1, none, q.2.1) :: (q.2.2.take ei.length).map fun g => (g.1, some q.1, g.2) := by
            rw [List.take_add_one, hq]
            have et : q.2.2.take ei.length = q.2.2 := List.take_of_length_le (by omega)
            show (z.take i ++ [q]).flatMap rowsOf = _
            rw [List.flatMap_append, et]
            simp [rowsS, rowsOf]
          rw [ez]
          have hdi5 := e5 _ _ (upd_same (H := upd H d (.frz od (.dK es))))
          exact pair_imp hrows2 fun a b h => rowAt_to (upd_tup hdi5 (fun xs h => nomatch h)) h
    · subst eσ
      refine ⟨.ref r, rfl, k _ r acc (unlock hd e) hr0 (by rw [upd_ne ndr]; exact hacc) ?_⟩
      have ez : z.take es.length = z := List.take_of_length_le (by omega)
      rw [ez] at hrows
      have hd5 := e _ _ (upd_same (H := H))
      exact pair_imp hrows fun a b h => rowAt_to (upd_tup hd5 (fun xs h => nomatch h)) h
end
end Pk

namespace Pk
open PySem PySem.Spec PyProof.Rows L2 Ssb
open Evl (Ex Ev EvT EvL EvA EvU)
theorem okSh_rows {s : Sh} (h : okSh s) : (rowsS s).length ≤ 4 ∧ ∀ r ∈ rowsS s, isW r.1 ∧ okFl r.2.2 := by
  obtain ⟨h2, _, hz⟩ := h
  refine ⟨?_, fun r hr => ?_⟩
  · have key : ∀ l : Sh, (∀ p ∈ l, p.2.2.length ≤ 1) → (rowsS l).length ≤ 2 * l.length := by
      intro l
      induction l with
      | nil => intro _; exact Nat.le_refl _
      | cons p l ih =>
        intro hl
        have i1 := ih fun q hq => hl q (List.mem_cons_of_mem _ hq)
        have i2 := hl p List.mem_cons_self
        show (rowsOf p ++ rowsS l).length ≤ 2 * (l.length + 1)
        rw [List.length_append]
        have : (rowsOf p).length = p.2.2.length + 1 := by simp [rowsOf]
        omega
    have := key s fun p hp => (hz p hp).2.2.1
    omega
  · obtain ⟨p, hp, hr⟩ := List.mem_flatMap.mp hr
    obtain ⟨w1, f1, _, hq⟩ := hz p hp
    rcases List.mem_cons.mp hr with rfl | hr
    · exact ⟨w1, f1⟩
    · obtain ⟨q, hq1, rfl⟩ := List.mem_map.mp hr
      exact hq q hq1
/-- the three parts of a row go to their slots -/
theorem row_unp {H H' : Hp} {K : PySem.W.Frag} {n : Nat} {S : Addr → Prop} {r : Ro} {x : V} {i j k : Nat} (h : RowAt H H' n S r x) :
    ∃ fv, Rep H n S (flD r.2.2) fv ∧ ∀ {vs : List Nat} {σ : L2.St} (H2 : Hp), Ex H' H2 → (∀ y1 y2 y3, wipe ((((wipe σ vs).set i y1).set j y2).set k y3) vs = wipe σ vs) → Unp (gTup K 3 (gCons (gName i) (gCons (gName j) (gCons (gName k) gNil)))) vs σ ((((wipe σ vs).set i (some (.str r.1))).set j (some (oV r.2.1))).set k (some fv)) x H2 := by
  obtain ⟨a, fv, rfl, ha, hr⟩ := h
  exact ⟨fv, hr, fun H2 e2 hw => ⟨hw _ _ _, fun Kont q => ⟨a, _, rfl, Evl.st_of (e2 _ _ ha), rfl, _, _, rfl, _, _, rfl, _, _, rfl, rfl, q⟩⟩⟩
section
variable {P : Program} {w : World} {K : PySem.W.Frag} {mg : Str → Option Value} {base : Heap} {C_Shape C_LimitExceeded C_InvalidDeed C_StayError C_FORMS : Addr}
def preWrong : List V → Hp → Prop := fun vs H => ∃ (a : Addr) (fl : List Str) (v : V) (n : Nat) (S : Addr → Prop) (d : D) (s : Sh), vs = [.ref a, v] ∧ H a = some (.lst (fl.map V.str)) ∧ fl.length ≤ 2 ∧ (∀ x ∈ fl, isW x) ∧ fl.Nodup ∧ Rep H n S d v ∧ shD d s ∧ okSh s
theorem ok_wrong_part (T : Txt K mg C_Shape C_LimitExceeded C_InvalidDeed C_StayError C_FORMS) (R : Prg K mg C_Shape C_LimitExceeded C_InvalidDeed C_StayError C_FORMS) : ∃ f fd, Fn P w K mg base "wrong_part" 5 ["flags", "lists"] (spV .non preWrong) f fd := by
  obtain ⟨_, _, G_are_words⟩ := ok_are_wordsL (P := P) (w := w) (base := base) T R
  obtain ⟨_, _, G_are_lists⟩ := ok_are_lists (P := P) (w := w) (base := base) T R
  obtain ⟨_, _, G_are_fields⟩ := ok_are_fields (P := P) (w := w) (base := base) T R
  obtain ⟨_, _, G_list_rows⟩ := ok_list_rows (P := P) (w := w) (base := base) T R
  obtain ⟨f, fd, at_, F, kp⟩ := R.wrong_part
  refine ⟨f, fd, F.ok sc_wrong_part (fun vs H Q E h => ?_) (fun cdv A outer s H vs Q E hr h => ?_), at_, kp, F.binds (fun _ _ _ _ _ _ us hl => match us, hl with | [_, _], _ => rfl)⟩
  · obtain ⟨⟨a, fl, v, n, S, d, s, rfl, _⟩, _⟩ := h; rfl
  · obtain ⟨⟨a, fl, v, n, S, d, z, rfl, ha, f2, fw, fn, hv, hd, hz⟩, k⟩ := h
    obtain ⟨r4, rok⟩ := okSh_rows hz
    refine ⟨_, (pss_cons (ps_if (PW.pt (pw_or (pt_not (pt_val (pe_callB (r := rIsiT K) call_isiT (by rfl) T.isinstance (by decide +kernel) (pa_cons (pv 0) (pa_cons (pe_tup (pa_cons (pe_bltn (v := .ty "list") (by rfl) T.list boot_list rfl) (pa_cons (pe_bltn (v := .ty "tuple") (by rfl) T.tuple boot_tuple rfl) pa_nil))) pa_nil))))) (pw_or1 (pt_not (pt_val (pcl G_are_words hr (pa_cons (pv 0) (pa_cons pe_int (pa_cons pe_int pa_nil))))))))) pss_never pss_nil)
  (pss_cons (ps_if (pt_not (pt_val (pcl G_are_lists hr (pa_cons (pv 1) pa_nil)))) pss_never pss_nil)
  (pss_cons (ps_set (i := 2) sc_wrong_part.nd rfl (Or.inl rfl) (pcl G_list_rows hr (pa_cons (pv 1) pa_nil)))
  (pss_cons (ps_if (pt_not (pt_val (pe_callB (r := rAll K) (cr_all rfl) (by rfl) T.all (by decide +kernel) (pa_cons (pe_lc (own := [("name", 3), ("parent", 4), ("fields", 5)]) rfl sc_wrong_part.nd (show PI _ _ _ (iList K _) from pi_list (pv 2)) (blkOk_by (own := [("name", 3), ("parent", 4), ("fields", 5)]) (N := ["flags", "lists", "rows", "name", "parent", "fields"]) (sc := defScope s_wrong_part) (by decide +kernel)) (fun _ _ _ _ _ => (show PG _ _ (gTup K 3 _) from pg_tup (n := 3) rfl (pgs_cons (pg_name (i := 3) sc_wrong_part.nd rfl (Or.inl rfl)) (pgs_cons (pg_name (i := 4) sc_wrong_part.nd rfl (Or.inl rfl)) (pgs_cons (pg_name (i := 5) sc_wrong_part.nd rfl (Or.inl rfl)) pgs_nil))))) (fun _ _ _ _ _ => pts_nil) (fun _ _ _ _ _ => (pcl G_are_fields hr (pa_cons (pv 5) pa_nil)))) pa_nil)))) pss_never pss_nil)
  (pss_cons (ps_if (pt_cmpR op_lt (pe_callB call_lenTxs (by rfl) T.len (by decide +kernel) (pa_cons (pe_scT (own := [("name", 3), ("parent", 4), ("fields", 5)]) rfl sc_wrong_part.nd (show PI _ _ _ (iList K _) from pi_list (pv 2)) (blkOk_by (own := [("name", 3), ("parent", 4), ("fields", 5)]) (N := ["flags", "lists", "rows", "name", "parent", "fields"]) (sc := defScope s_wrong_part) (by decide +kernel)) (fun _ _ _ _ _ => (show PG _ _ (gTup K 3 _) from pg_tup (n := 3) rfl (pgs_cons (pg_name (i := 3) sc_wrong_part.nd rfl (Or.inl rfl)) (pgs_cons (pg_name (i := 4) sc_wrong_part.nd rfl (Or.inl rfl)) (pgs_cons (pg_name (i := 5) sc_wrong_part.nd rfl (Or.inl rfl)) pgs_nil))))) (fun _ _ _ _ _ => pts_nil) (fun _ _ _ _ _ => (pv 3))) pa_nil)) (pe_callB (r := rLenA K) call_len (by rfl) T.len (by decide +kernel) (pa_cons (pv 2) pa_nil)) (nomark _)) pss_never pss_nil)
  (pss_one (ps_ret pe_non))))))), ?_⟩
    refine Evl.q_when (b := false) (Evl.et_or (a := false) (b := false) (Evl.et_not (a := true) (Evl.et_B (ev_isi2 (Evl.ev_var rfl) (fun H1 e1 => .base (.lst (e1 _ _ ha))) (kitAny_cons (b := true) (kit_ty (by decide +kernel)) (fun h => nomatch h) fun _ => rfl)))) fun _ => Evl.et_not (a := true) (Evl.et_B (spV_ev (Evl.ea_cons (Evl.ev_var rfl) (Evl.ea_cons Evl.ev_c (Evl.ea_cons Evl.ev_c Evl.ea_nil))) fun H1 e1 => ⟨a, fl, 0, 2, rfl, Evl.sq_of (e1 _ _ ha), by omega, by omega, by omega, fw, fn⟩))) (fun h => nomatch h) fun _ H1 e1 => ?_
    refine Evl.q_when (b := false) (Evl.et_not (a := true) (Evl.et_B (spV_ev (Evl.ea_cons (Evl.ev_var rfl) Evl.ea_nil) fun H2 e2 => ⟨v, n, S, d, z, rfl, rep_ex (e1.trans e2) hv, hd, hz⟩))) (fun h => nomatch h) fun _ H2 e2 => ?_
    refine ⟨_, rfl, v, n, S, d, z, rfl, rep_ex (e1.trans e2) hv, hd, hz, fun H3 p xs e3 np hp hrows => ?_⟩
    have lx := pair_len hrows
    have row : ∀ (i : Nat) (x : V), xs[i]? = some x → ∃ r, (rowsS z)[i]? = some r ∧ RowAt H2 H3 n S r x := fun i x hx => pair_back hrows hx
    refine Evl.q_when (b := false) (Evl.et_not (a := true) (Evl.et_B (ev_allT (n := xs.length) (el_lcG (Evl.ev_var rfl) (Evl.sq_of hp) (by omega) fun i x hx H4 e4 => ?_)))) (fun h => nomatch h) fun _ H4 e4 => ?_
    · obtain ⟨r, hr1, hr2⟩ := row i x hx
      obtain ⟨fv, hf, hu⟩ := row_unp (K := K) hr2 (i := 3) (j := 4) (k := 5)
      exact ⟨_, hu H4 e4 (by intro _ _ _; rfl), fun H5 e5 => spV_ev (Evl.ea_cons (Evl.ev_var rfl) Evl.ea_nil) fun H6 e6 => ⟨fv, n, S, r.2.2, rfl, rep_ex (e3.trans (e5.trans e6)) hf, (rok r (List.mem_of_getElem? hr1)).2⟩⟩
    · refine Evl.q_when (b := false) (Evl.et_test (Evl.ev_is (Evl.ev_op (ex_scG (nms := (rowsS z).map (·.1)) (Evl.ev_var rfl) (Evl.sq_of (e4 _ _ hp)) (by rw [List.length_map]; exact lx) (by omega) fun i x hx => ?_) (ev_lenL (Evl.ev_var rfl) (.inl (Evl.sq_of (e4 _ _ hp)))) Evl.rv_I0) ?_)) (fun h => nomatch h) fun _ H5 e5 => Evl.s_ret Evl.ev_c fun H6 e6 => k H6 (e1.trans (e2.trans (e3.trans (e4.trans (e5.trans e6)))))
      · obtain ⟨r, hr1, hr2⟩ := row i x hx
        refine ⟨r.1, by rw [List.getElem?_map, hr1]; rfl, fun H5 e5 => ?_⟩
        obtain ⟨fv, hf, hu⟩ := row_unp (K := K) hr2 (i := 3) (j := 4) (k := 5)
        exact ⟨_, hu H5 (e4.trans e5) (by intro _ _ _; rfl), fun H6 e6 => Evl.ev_var rfl⟩
      · rw [met_nodup _ [] hz.2.1, List.nil_append, List.length_map, lx]
        simp
end
end Pk

namespace Pk
open PySem PySem.Spec PyProof.Rows L2 Ssb
open Evl (Ex Ev EvT EvL EvA EvU)
/-! ### a Shape as it stands -/
def oD : Option Str → D
  | none => .non
  | some x => .str x
def tabD (s : Sh) : D := .dic ((rowsS s).map fun r => (r.1, .tup [oD r.2.1, flD r.2.2]))
def shF (ft tb : Addr) : List (Str × V) := putF "table" (.ref tb) (putF "flags" (.ref ft) [])
theorem ne_tf : ¬ (("table" : Str) = "flags") := by decide +kernel
theorem ne_ft : ¬ (("flags" : Str) = "table") := by decide +kernel
theorem shF_flags (ft tb : Addr) : (shF ft tb).lookup ("flags" : Str) = some (.ref ft) := by
  unfold shF; rw [lookup_putF, if_neg ne_ft, lookup_putF, if_pos rfl]
theorem shF_table (ft tb : Addr) : (shF ft tb).lookup ("table" : Str) = some (.ref tb) := by
  unfold shF; rw [lookup_putF, if_pos rfl]
theorem shF_no (ft tb : Addr) {m : Str} (h1 : ¬ m = "flags") (h2 : ¬ m = "table") : (shF ft tb).lookup m = none := by
  unfold shF; rw [lookup_putF, if_neg h2, lookup_putF, if_neg h1]; rfl
/-- at p: the Shape with these flags (ascending) and these lists -/
def ShapeAt (C : Addr) (H : Hp) (p : Addr) (fl : List Str) (s : Sh) (S : Addr → Prop) : Prop := ∃ dx ft tb, H p = some (.ins C dx (shF ft tb)) ∧ H ft = some (.tup (fl.map V.str)) ∧ Rep H 5 S (tabD s) (.ref tb)
theorem ShapeAt.ex {C : Addr} {H H' : Hp} {p : Addr} {fl : List Str} {s : Sh} {S : Addr → Prop} (e : Ex H H') (h : ShapeAt C H p fl s S) : ShapeAt C H' p fl s S := by
  obtain ⟨dx, ft, tb, h1, h2, h3⟩ := h; exact ⟨dx, ft, tb, e _ _ h1, e _ _ h2, rep_ex e h3⟩
/-- fields in a new dict with the same entries -/
theorem fl_new {H : Hp} {n : Nat} {S : Addr → Prop} {f : Fl} {v : V} (h : Rep H n S (flD f) v) : ∃ a es, v = .ref a ∧ H a = some (.dK es) ∧ f.length ≤ 100000 ∧
    ∀ {H' : Hp} {S' : Addr → Prop} {b : Addr}, (∀ a xs, H a = some (.tup xs) → H' a = some (.tup xs)) → S' b → H' b = some (.dK es) → Rep H' 3 S' (flD f) (.ref b) := by
  cases n with
  | zero => exact h.elim
  | succ n =>
  obtain ⟨a, es, e, _, ha, hl, pr⟩ := h
  refine ⟨a, es, e, ha, by simpa using hl, fun {H' S' b} k sb hb => ⟨b, es, rfl, sb, hb, hl, ?_⟩⟩
  have key : ∀ (f : Fl) (es : List (Key × V)), Paired (fun (q : Str × D) (e : Key × V) => e.1 = Sum.inr q.1 ∧ Rep H n (fun b => S b ∧ b ≠ a) q.2 e.2) (f.map fun p => (p.1, D.tup (p.2.map .str))) es →
      Paired (fun (q : Str × D) (e : Key × V) => e.1 = Sum.inr q.1 ∧ Rep H' 2 (fun c => S' c ∧ c ≠ b) q.2 e.2) (f.map fun p => (p.1, D.tup (p.2.map .str))) es := by
    intro f
    induction f with
    | nil => intro es pr; cases pr; exact .nil
    | cons p f ih =>
      intro es pr
      cases pr with
      | cons h t =>
        refine .cons ⟨h.1, ?_⟩ (ih _ t)
        have h2 := h.2
        cases n with
        | zero => exact h2.elim
        | succ n =>
        obtain ⟨c, xs, e1, hc, hl1, p1⟩ := h2
        have ex := rep_strs p1
        subst ex
        refine ⟨c, _, e1, k c _ hc, hl1, ?_⟩
        have allS : ∀ ws : List Str, Paired (fun d x => Rep H' 1 (fun c => S' c ∧ c ≠ b) d x) (ws.map D.str) (ws.map V.str) := by
          intro ws
          induction ws with
          | nil => exact .nil
          | cons y ws ih => exact .cons rfl ih
        exact allS p.2
  exact key f es pr
theorem row_fresh {l : List Ro} {i : Nat} {r : Ro} {d0 : D} (hn : (l.map (·.1)).Nodup) (hr : l[i]? = some r) (hl : List.lookup r.1 ((l.map fun r => (r.1, D.tup [oD r.2.1, flD r.2.2])).take i) = some d0) : False := by
  have mem : ∀ {m : List (Str × D)} {k : Str} {d : D}, m.lookup k = some d → k ∈ m.map (·.1) := by
    intro m
    induction m with
    | nil => intro k d h; cases h
    | cons q m ih =>
      intro k d h
      obtain ⟨j, e⟩ := q
      rw [lk_cons] at h
      by_cases c : k = j
      · rw [c]; exact List.mem_cons_self
      · rw [if_neg c] at h
        exact List.mem_cons_of_mem _ (ih h)
  have h1 := mem hl
  rw [← List.map_take, List.map_map] at h1
  obtain ⟨r2, hr2, e2⟩ := List.mem_map.mp h1
  obtain ⟨j, hj, ej⟩ := List.mem_iff_getElem.mp hr2
  rw [List.length_take] at hj
  have hj2 : l[j]? = some r2 := by
    rw [← ej, List.getElem_take, List.getElem?_eq_getElem (by omega)]
  have a1 : (l.map (·.1))[j]? = some r.1 := by
    rw [List.getElem?_map, hj2]; exact congrArg some e2
  have a2 : (l.map (·.1))[i]? = some r.1 := by
    rw [List.getElem?_map, hr]; rfl
  have := nodup_ix hn a1 a2
  omega
section
variable {P : Program} {w : World} {K : PySem.W.Frag} {mg : Str → Option Value} {base : Heap} {C_Shape C_LimitExceeded C_InvalidDeed C_StayError C_FORMS : Addr}
/-- Shape(flags, lists), flags a list -/
def spInit (C : Addr) : Sp := fun vs H Q _ => ∃ (p dx a : Addr) (fl : List Str) (v : V) (n : Nat) (S : Addr → Prop) (d : D) (s : Sh), vs = [.ref p, .ref a, v] ∧ H p = some (.ins C dx []) ∧ H a = some (.lst (fl.map V.str)) ∧ fl.length ≤ 2 ∧ (∀ x ∈ fl, isW x) ∧ fl.Nodup ∧ Rep H n S d v ∧ shD d s ∧ okSh s ∧ ¬ S p ∧
  ∀ H' fl', (∀ b o, b ≠ p → H b = some o → H' b = some o) → fl'.Perm fl → sortedS fl' = true → ShapeAt C H' p fl' s (fun b => H b = none) → Q .non H'
theorem ok_Shape_init (T : Txt K mg C_Shape C_LimitExceeded C_InvalidDeed C_StayError C_FORMS) (R : Prg K mg C_Shape C_LimitExceeded C_InvalidDeed C_StayError C_FORMS) : ∃ f fd, Mt P w K mg base C_Shape "__init__" 6 ["self", "flags", "lists"] (spInit C_Shape) f fd := by
  obtain ⟨_, _, G_wrong_part⟩ := ok_wrong_part (P := P) (w := w) (base := base) T R
  obtain ⟨_, _, G_list_rows⟩ := ok_list_rows (P := P) (w := w) (base := base) T R
  obtain ⟨f, fd, F, fi, isf, kp⟩ := R.Shape_init
  refine ⟨f, fd, F.ok sc_Shape_init (fun vs H Q E h => ?_) (fun cdv A outer s H vs Q E hr h => ?_), ⟨fi, isf, kp⟩, F.binds (fun _ _ _ _ _ _ us hl => match us, hl with | [_, _, _], _ => rfl)⟩
  · obtain ⟨p, dx, a, fl, v, n, S, d, s, rfl, _⟩ := h; rfl
  · obtain ⟨p, dx, a, fl, v, n, S, d, z, rfl, hp, ha, f2, fw, fn, hv, hd, hz, nSp, k⟩ := h
    obtain ⟨r4, rok⟩ := okSh_rows hz
    refine ⟨_, (pss_cons (ps_set (i := 3) sc_Shape_init.nd rfl (Or.inl rfl) (pcl G_wrong_part hr (pa_cons (pv 1) (pa_cons (pv 2) pa_nil))))
  (pss_cons (ps_if (pt_cmpR op_notN (pv 3) pe_non (nomark _)) pss_never pss_nil)
  (pss_cons (ps_fld (pv 0) (pe_callTy (r := rTupA K) call_tuple_of (by rfl) T.tuple (by decide +kernel) (pa_cons (pe_callB (r := rSortedS K) cr_sortedS (by rfl) T.sorted (by decide +kernel) (pa_cons (pe_callTy (r := rListA K) call_list_of (by rfl) T.list (by decide +kernel) (pa_cons (pv 1) pa_nil)) pa_nil)) pa_nil)) rfl)
  (pss_one (ps_fld (pv 0) (pe_dc (own := [("name", 4), ("parent", 5), ("fields", 6)]) rfl sc_Shape_init.nd (show PI _ _ _ (iList K _) from pi_list (pcl G_list_rows hr (pa_cons (pv 2) pa_nil))) (blkOk_by (own := [("name", 4), ("parent", 5), ("fields", 6)]) (N := ["self", "flags", "lists", "part", "name", "parent", "fields"]) (sc := defScope s_Shape_init) (by decide +kernel)) (fun _ _ _ _ _ => (show PG _ _ (gTup K 3 _) from pg_tup (n := 3) rfl (pgs_cons (pg_name (i := 4) sc_Shape_init.nd rfl (Or.inl rfl)) (pgs_cons (pg_name (i := 5) sc_Shape_init.nd rfl (Or.inl rfl)) (pgs_cons (pg_name (i := 6) sc_Shape_init.nd rfl (Or.inl rfl)) pgs_nil))))) (fun _ _ _ _ _ => pts_nil) (fun _ _ _ _ _ => (pv 4)) (fun _ _ _ _ _ => (pe_tup (pa_cons (pv 5) (pa_cons (pe_callTy call_dictD (by rfl) T.dict (by decide +kernel) (pa_cons (pv 6) pa_nil)) pa_nil))))) rfl))))), ?_⟩
    -- part = wrong_part(flags, lists)
    refine ⟨_, rfl, _, rfl, ⟨a, fl, v, n, S, d, z, rfl, ha, f2, fw, fn, hv, hd, hz⟩, fun H1 e1 => ?_⟩
    refine Evl.q_when (b := false) (Evl.et_is (Evl.et_test (Evl.ev_op (Evl.ev_var rfl) Evl.ev_c rv_notN)) rfl) (fun h => nomatch h) fun _ H2 e2 => ?_
    have e12 := e1.trans e2
    -- self.flags = tuple(sorted(list(flags)))
    refine ⟨_, rfl, a, fl.map V.str, rfl, .inl (Evl.sq_of (e12 _ _ ha)), fun q hq => ?_⟩
    refine ⟨q, fl, rfl, Evl.sq_of upd_same, by omega, fun ys q2 perm so hq2 => ?_⟩
    refine ⟨q2, ys.map V.str, rfl, .inl ⟨Evl.sq_of upd_same, fun ft hft => ?_⟩⟩
    have e3 : Ex H2 (upd (upd (upd H2 q (.lst (fl.map V.str))) q2 (.lst (ys.map V.str))) ft (.tup (ys.map V.str))) := (Ex.new hq).trans ((Ex.new hq2).trans (Ex.new hft))
    have e03 := e12.trans e3
    have hft0 : (upd (upd (upd H2 q (.lst (fl.map V.str))) q2 (.lst (ys.map V.str))) ft (.tup (ys.map V.str))) ft = some (.tup (ys.map V.str)) := upd_same
    generalize (upd (upd (upd H2 q (.lst (fl.map V.str))) q2 (.lst (ys.map V.str))) ft (.tup (ys.map V.str))) = H3 at e3 e03 hft0 ⊢
    refine ⟨_, rfl, p, C_Shape, dx, [], rfl, e03 _ _ hp, T.cl_Shape, T.no_Shape_flags, (by show 0 < 1000; decide), ?_⟩
    have npft : ft ≠ p := fun e => by
      have := e03 _ _ hp
      rw [← e, hft0] at this; cases this
    -- the heap with the flags
    have e4 : ∀ b o, b ≠ p → H b = some o → (upd H3 p (.ins C_Shape dx (putF "flags" (.ref ft) []))) b = some o := fun b o nb hb => by rw [upd_ne nb]; exact e03 _ _ hb
    have hv4 : Rep (upd H3 p (.ins C_Shape dx (putF "flags" (.ref ft) []))) n S d v := rep_to (fun b o hb hs => e4 b o (fun e => by
      rcases hs with hs | ⟨xs, rfl⟩
      · rw [e] at hs; exact nSp hs
      · rw [e, hp] at hb; cases hb) hb) hv
    have hp4 : (upd H3 p (.ins C_Shape dx (putF "flags" (.ref ft) []))) p = some (.ins C_Shape dx (putF "flags" (.ref ft) [])) := upd_same
    have hft4 : (upd H3 p (.ins C_Shape dx (putF "flags" (.ref ft) []))) ft = some (.tup (ys.map V.str)) := by rw [upd_ne npft]; exact hft0
    have old4 : ∀ b, (upd H3 p (.ins C_Shape dx (putF "flags" (.ref ft) []))) b = none → H b = none := fun b hb => by
      cases e : H b with
      | none => rfl
      | some o =>
        have nb : b ≠ p := fun z => by rw [z, upd_same] at hb; cases hb
        rw [e4 b o nb e] at hb; cases hb
    generalize (upd H3 p (.ins C_Shape dx (putF "flags" (.ref ft) []))) = H4 at e4 hv4 hp4 hft4 old4 ⊢
    -- self.table = {..}
    refine ⟨_, rfl, v, n, S, d, z, rfl, hv4, hd, hz, fun H5 rp xs e5 nrp hrp hrows => ?_⟩
    have lx := pair_len hrows
    refine ⟨rp, rfl, ⟨xs, Evl.sq_of hrp⟩, fun Dl hD => ?_⟩
    refine ⟨fun i m H' => m = xs.length - i ∧ i ≤ xs.length ∧ Ex H5 H' ∧ ∃ es, H' Dl = some (.dK es) ∧ Paired (fun (q : Str × D) (e : Key × V) => e.1 = Sum.inr q.1 ∧ Rep H' 4 (fun b => H5 b = none ∧ b ≠ Dl) q.2 e.2) ((((rowsS z).map fun r => (r.1, D.tup [oD r.2.1, flD r.2.2]))).take i) es, ⟨xs.length, by simp, Nat.zero_le _, Ex.new hD, [], upd_same, .nil⟩, ?_⟩
    rintro i m H' ⟨rfl, hi, e6, es, hes, pes⟩
    have sq : SqL K H' rp xs := Evl.sq_of (e6 _ _ hrp)
    by_cases hlt : i < xs.length
    · refine .inr ⟨⟨xs, xs[i], sq, by simp [hlt]⟩, fun H' => Ex H5 H' ∧ ∃ es, H' Dl = some (.dK es) ∧ Paired (fun (q : Str × D) (e : Key × V) => e.1 = Sum.inr q.1 ∧ Rep H' 4 (fun b => H5 b = none ∧ b ≠ Dl) q.2 e.2) ((((rowsS z).map fun r => (r.1, D.tup [oD r.2.1, flD r.2.2]))).take (i + 1)) es, fun H' p' => ⟨xs.length - (i + 1), by omega, rfl, hlt, p'⟩, fun x H'' y => ?_⟩
      obtain ⟨rfl, y⟩ := y
      obtain ⟨r, hr1, ra, fv, rfl, hra, hfv⟩ := pair_back hrows (y xs sq)
      obtain ⟨fa, fes, rfl, hfa, fl5, mk⟩ := fl_new (rep_ex (e5.trans e6) hfv)
      refine ⟨ra, _, rfl, Evl.st_of (e6 _ _ hra), rfl, _, _, rfl, _, _, rfl, _, _, rfl, rfl, rfl, ?_⟩
      refine yes_go ?_
      refine ⟨_, rfl, _, rfl, _, rfl, fa, fes, rfl, .inl hfa, fun fb hfb => ⟨(by show 2 ≤ sizeLine; decide), fun tp htp => ?_⟩⟩
      have e7 : Ex H'' (upd (upd H'' fb (.dK fes)) tp (.tup [oV r.2.1, .ref fb])) := (Ex.new hfb).trans (Ex.new htp)
      have nfD : fb ≠ Dl := fun e => by rw [e, hes] at hfb; cases hfb
      have nft : fb ≠ tp := fun e => by rw [← e, upd_same] at htp; cases htp
      have nDt : Dl ≠ tp := fun e => by rw [← e, upd_ne (Ne.symm nfD), hes] at htp; cases htp
      have ntab : valV es (Sum.inr r.1 : Key) = none := by
        refine pair_no (F := fun d v => Rep H'' 4 (fun b => H5 b = none ∧ b ≠ Dl) d v) pes ?_
        cases hl : List.lookup r.1 ((((rowsS z).map fun r => (r.1, D.tup [oD r.2.1, flD r.2.2]))).take i) with
        | none => rfl
        | some d0 => exact (row_fresh hz.2.1 hr1 hl).elim
      have hes2 : (upd (upd H'' fb (.dK fes)) tp (.tup [oV r.2.1, .ref fb])) Dl = some (.dK es) := by rw [upd_ne nDt, upd_ne (Ne.symm nfD)]; exact hes
      have les : es.length ≤ 4 := by
        rw [← pair_len pes, List.length_take, List.length_map]; omega
      refine ⟨es, Sum.inr r.1, rfl, hes2, Evl.sz_lt (by omega), Ex.mut (e6.trans e7) hD, es ++ [(Sum.inr r.1, .ref tp)], by rw [upd_same, putK_new _ ntab], ?_⟩
      have ej : ((((rowsS z).map fun r => (r.1, D.tup [oD r.2.1, flD r.2.2]))).take (i + 1)) = ((((rowsS z).map fun r => (r.1, D.tup [oD r.2.1, flD r.2.2]))).take i) ++ [(r.1, D.tup [oD r.2.1, flD r.2.2])] := by
        rw [List.take_add_one, List.getElem?_map, hr1]; rfl
      rw [ej]
      have keep : ∀ b o, (upd (upd H'' fb (.dK fes)) tp (.tup [oV r.2.1, .ref fb])) b = some o → ((H5 b = none ∧ b ≠ Dl) ∨ ∃ xs, o = .tup xs) → (upd (upd (upd H'' fb (.dK fes)) tp (.tup [oV r.2.1, .ref fb])) Dl (.dK (putK es (Sum.inr r.1) (.ref tp)))) b = some o := fun b o hb hs => by
        have nb : b ≠ Dl := by
          rcases hs with hs | ⟨xs, rfl⟩
          · exact hs.2
          · intro e; rw [e, hes2] at hb; cases hb
        rw [upd_ne nb]; exact hb
      refine pair_snoc (pair_imp pes fun a b h => ⟨h.1, rep_to keep (rep_ex e7 h.2)⟩) ⟨rfl, rep_to keep ?_⟩
      refine ⟨tp, [oV r.2.1, .ref fb], rfl, upd_same, (by show 2 ≤ 100000; decide), .cons ?_ (.cons (mk (b := fb) (fun a xs ha => e7 _ _ ha) ⟨?_, nfD⟩ ?_) .nil)⟩
      · cases r.2.1 with
        | none => rfl
        | some x => rfl
      · cases e : H5 fb with
        | none => rfl
        | some o => rw [e6 _ _ e] at hfb; cases hfb
      · rw [upd_ne nft, upd_same]
    · have ei : i = xs.length := by omega
      subst ei
      refine .inl ⟨⟨xs, sq, Nat.le_refl _⟩, _, rfl, p, C_Shape, dx, _, rfl, e6 _ _ (e5 _ _ hp4), T.cl_Shape, T.no_Shape_table, (by show 1 < 1000; decide), ?_⟩
      have np5 : H5 p ≠ none := by rw [e5 _ _ hp4]; exact fun h => nomatch h
      have neDp : Dl ≠ p := fun e => by rw [e, e5 _ _ hp4] at hD; cases hD
      have keep : ∀ b o, H' b = some o → (b ≠ p) → (upd H' p (.ins C_Shape dx (putF "table" (.ref Dl) (putF "flags" (.ref ft) [])))) b = some o := fun b o hb nb => by rw [upd_ne nb]; exact hb
      refine k _ ys (fun b o nb hb => keep b o (e6 _ _ (e5 _ _ (e4 b o nb hb))) nb) perm so ⟨dx, ft, Dl, upd_same, keep _ _ (e6 _ _ (e5 _ _ hft4)) npft, ?_⟩
      refine rep_S (S := fun b => H5 b = none) (fun b hb => old4 b (Evl.fresh_back e5 hb)) ?_
      refine rep_to (H := H') (fun b o hb hs => keep b o hb fun e => ?_) ⟨Dl, es, rfl, hD, hes, ?_, ?_⟩
      · rcases hs with hs | ⟨xs, rfl⟩
        · rw [e] at hs; exact np5 hs
        · have := e6 _ _ (e5 _ _ hp4)
          rw [e, this] at hb; cases hb
      · rw [List.length_map]; omega
      · have ez : ((((rowsS z).map fun r => (r.1, D.tup [oD r.2.1, flD r.2.2]))).take xs.length) = ((rowsS z).map fun r => (r.1, D.tup [oD r.2.1, flD r.2.2])) := List.take_of_length_le (by rw [List.length_map]; omega)
        rw [ez] at pes
        exact pes
end
end Pk

namespace Pk
open PySem PySem.Spec PyProof.Rows L2 Ssb
open Evl (Ex Ev EvT EvL EvA EvU)
theorem valV_at : ∀ {es : List (Key × V)} {i : Nat} {k : Key} {v : V}, (es.map (·.1)).Nodup → es[i]? = some (k, v) → valV es k = some v
  | [], i, k, v, _, h => by simp at h
  | e :: es, 0, k, v, _, h => by
    simp at h; subst h
    rw [vV_cons, if_pos rfl]
  | e :: es, i + 1, k, v, nd, h => by
    have h2 : es[i]? = some (k, v) := by simpa using h
    rw [List.map_cons, List.nodup_cons] at nd
    rw [vV_cons, if_neg, valV_at nd.2 h2]
    intro z
    refine nd.1 ?_
    rw [z]
    exact List.mem_map.mpr ⟨(k, v), List.mem_of_getElem? h2, rfl⟩
theorem oV_inj {a b : Option Str} : decide (oV a = oV b) = decide (a = b) := by
  cases a <;> cases b <;> simp [oV]
theorem oV_scal (a b : Option Str) : scal (oV a) (oV b) = true := by cases a <;> cases b <;> rfl
/-- what the table tells -/
theorem tab_get {H : Hp} {S : Addr → Prop} {s : Sh} {tb : Addr} (hn : ((rowsS s).map (·.1)).Nodup) (h : Rep H 5 S (tabD s) (.ref tb)) : ∃ es, H tb = some (.dK es) ∧ es.length = (rowsS s).length ∧ (∀ (i : Nat) (k : Key) (v : V), es[i]? = some (k, v) → ∃ r, (rowsS s)[i]? = some r ∧ k = Sum.inr r.1 ∧ valV es k = some v) ∧
    ∀ r ∈ rowsS s, ∃ tp fv, valV es (Sum.inr r.1 : Key) = some (.ref tp) ∧ H tp = some (.tup [oV r.2.1, fv]) ∧ Rep H 3 S (flD r.2.2) fv := by
  obtain ⟨_, es, e, _, hes, _, pr⟩ := h
  cases e
  have le : es.length = (rowsS s).length := by rw [← pair_len pr, List.length_map]
  have keys : es.map (·.1) = (rowsS s).map fun r => (Sum.inr r.1 : Key) := by
    refine List.ext_getElem? fun i => ?_
    rw [List.getElem?_map, List.getElem?_map]
    cases hi : es[i]? with
    | none =>
      have : (rowsS s)[i]? = none := List.getElem?_eq_none_iff.mpr (by rw [← le]; exact List.getElem?_eq_none_iff.mp hi)
      rw [this]; rfl
    | some e =>
      obtain ⟨q, hq, h1, _⟩ := pair_back pr hi
      rw [List.getElem?_map] at hq
      cases hr : (rowsS s)[i]? with
      | none => rw [hr] at hq; cases hq
      | some r =>
        rw [hr] at hq; cases hq
        exact congrArg some h1
  have nd : (es.map (·.1)).Nodup := by
    rw [keys]
    have e2 : ((rowsS s).map fun r => (Sum.inr r.1 : Key)) = ((rowsS s).map (·.1)).map Sum.inr := by rw [List.map_map]; rfl
    rw [e2]
    exact List.Pairwise.map _ (fun a b h z => h (Sum.inr.inj z)) hn
  have at_ : ∀ (i : Nat) (r : Ro), (rowsS s)[i]? = some r → ∃ v, es[i]? = some (Sum.inr r.1, v) ∧ Rep H 4 (fun b => S b ∧ b ≠ tb) (.tup [oD r.2.1, flD r.2.2]) v := fun i r hr => by
    obtain ⟨e, he, h1, h2⟩ := pair_at pr (i := i) (a := (r.1, .tup [oD r.2.1, flD r.2.2])) (by rw [List.getElem?_map, hr]; rfl)
    obtain ⟨k, v⟩ := e
    have h1 : k = Sum.inr r.1 := h1
    exact ⟨v, by rw [he, h1], h2⟩
  refine ⟨es, hes, le, fun i k v hi => ?_, fun r hr => ?_⟩
  · obtain ⟨q, hq, h1, _⟩ := pair_back pr hi
    rw [List.getElem?_map] at hq
    cases hr : (rowsS s)[i]? with
    | none => rw [hr] at hq; cases hq
    | some r =>
      rw [hr] at hq; cases hq
      exact ⟨r, rfl, h1, valV_at nd hi⟩
  · obtain ⟨i, hi, ei⟩ := List.mem_iff_getElem.mp hr
    obtain ⟨v, hv, tp, xs, rfl, htp, _, pp⟩ := at_ i r (by rw [← ei]; exact List.getElem?_eq_getElem hi)
    have two : ∃ x1 x2, xs = [x1, x2] ∧ Rep H 3 (fun b => S b ∧ b ≠ tb) (oD r.2.1) x1 ∧ Rep H 3 (fun b => S b ∧ b ≠ tb) (flD r.2.2) x2 := by
      cases pp with
      | cons h1 t =>
        cases t with
        | cons h2 t2 =>
          cases t2
          exact ⟨_, _, rfl, h1, h2⟩
    obtain ⟨x1, x2, rfl, h1, h2⟩ := two
    have e1 : x1 = oV r.2.1 := by
      cases hc : r.2.1 with
      | none => rw [hc] at h1; exact h1
      | some x => rw [hc] at h1; exact h1
    subst e1
    exact ⟨tp, _, valV_at nd hv, htp, rep_S (fun b hb => hb.1) h2⟩
/-- the names of the lists with this parent -/
def kids (s : Sh) (par : Option Str) : List Str := ((rowsS s).filter fun r => decide (r.2.1 = par)).map (·.1)
theorem kids_len {s : Sh} (par : Option Str) : (kids s par).length ≤ (rowsS s).length := by
  unfold kids; rw [List.length_map]; exact List.length_filter_le _ _
section
variable {P : Program} {w : World} {K : PySem.W.Frag} {mg : Str → Option Value} {base : Heap} {C_Shape C_LimitExceeded C_InvalidDeed C_StayError C_FORMS : Addr}
def spNeed (C : Addr) : Sp := fun vs H Q _ => ∃ (p : Addr) (fl : List Str) (s : Sh) (S : Addr → Prop) (nm : Str), vs = [.ref p, .str nm] ∧ ShapeAt C H p fl s S ∧ okSh s ∧ nm ∈ (rowsS s).map (·.1) ∧ ∀ H', Ex H H' → Q .non H'
theorem ok_Shape_need_list (T : Txt K mg C_Shape C_LimitExceeded C_InvalidDeed C_StayError C_FORMS) (R : Prg K mg C_Shape C_LimitExceeded C_InvalidDeed C_StayError C_FORMS) : ∃ f fd, Mt P w K mg base C_Shape "need_list" 1 ["self", "name"] (spNeed C_Shape) f fd := by
  obtain ⟨f, fd, F, fi, isf, kp⟩ := R.Shape_need_list
  refine ⟨f, fd, F.ok sc_Shape_need_list (fun vs H Q E h => ?_) (fun cdv A outer s H vs Q E hr h => ?_), ⟨fi, isf, kp⟩, F.binds (fun _ _ _ _ _ _ us hl => match us, hl with | [_, _], _ => rfl)⟩
  · obtain ⟨p, fl, s, S, nm, rfl, _⟩ := h; rfl
  · obtain ⟨p, fl, z, S, nm, rfl, ⟨dx, ft, tb, hp, hft, htb⟩, hz, hm, k⟩ := h
    obtain ⟨r, hr1, rfl⟩ := List.mem_map.mp hm
    obtain ⟨es, hes, _, _, hget⟩ := tab_get hz.2.1 htb
    obtain ⟨tp, fv, hv, _⟩ := hget r hr1
    refine ⟨_, (pss_one (ps_if (pt_cmp (pc_dnotin (hu_of hr) (pv 1) (show PE _ _ (tFld K _ _) from pe_fld (pv 0) rfl))) pss_never pss_nil)), ?_⟩
    refine ⟨_, rfl, _, rfl, p, C_Shape, dx, _, _, rfl, hp, T.cl_Shape, T.no_Shape_table, shF_table _ _, tb, _, rfl, .inl ⟨es, Sum.inr r.1, .inl hes, rfl, rfl⟩, _, rfl, ?_⟩
    rw [hv]
    refine iteF ?_
    exact k H (Ex.refl _)
def spIn (C : Addr) : Sp := fun vs H Q _ => ∃ (p : Addr) (fl : List Str) (s : Sh) (S : Addr → Prop) (par : Option Str), vs = [.ref p, oV par] ∧ ShapeAt C H p fl s S ∧ okSh s ∧
  ∀ H' q ys, Ex H H' → H q = none → H' q = some (.lst (ys.map V.str)) → ys.Perm (kids s par) → sortedS ys = true → Q (.ref q) H'
theorem ok_Shape_lists_in (T : Txt K mg C_Shape C_LimitExceeded C_InvalidDeed C_StayError C_FORMS) (R : Prg K mg C_Shape C_LimitExceeded C_InvalidDeed C_StayError C_FORMS) : ∃ f fd, Mt P w K mg base C_Shape "lists_in" 1 ["self", "parent"] (spIn C_Shape) f fd := by
  obtain ⟨f, fd, F, fi, isf, kp⟩ := R.Shape_lists_in
  refine ⟨f, fd, F.ok sc_Shape_lists_in (fun vs H Q E h => ?_) (fun cdv A outer s H vs Q E hr h => ?_), ⟨fi, isf, kp⟩, F.binds (fun _ _ _ _ _ _ us hl => match us, hl with | [_, _], _ => rfl)⟩
  · obtain ⟨p, fl, s, S, par, rfl, _⟩ := h; rfl
  · obtain ⟨p, fl, z, S, par, rfl, ⟨dx, ft, tb, hp, hft, htb⟩, hz, k⟩ := h
    obtain ⟨es, hes, le, hat, hget⟩ := tab_get hz.2.1 htb
    obtain ⟨r4, _⟩ := okSh_rows hz
    have ptb : p ≠ tb := fun e => by rw [e, hes] at hp; cases hp
    refine ⟨_, (pss_one (ps_ret (pe_callB (r := rSortedS K) cr_sortedS (by rfl) T.sorted (by decide +kernel) (pa_cons (pe_lock (pe_lc (own := [("name", 2)]) rfl sc_Shape_lists_in.nd (pi_keys (show PE _ _ (tFld K _ _) from pe_fld (pv 0) rfl)) (blkOk_by (own := [("name", 2)]) (N := ["self", "parent", "name"]) (sc := defScope s_Shape_lists_in) (by decide +kernel)) (fun _ _ _ _ _ => (pg_name (i := 2) sc_Shape_lists_in.nd rfl (Or.inl rfl))) (fun _ _ _ _ _ => (pts_one (pt_cmpR op_eq (pe_ix (r := rIxT K) ix_tup (pe_dget (hu_of hr) (show PE _ _ (tFld K _ _) from pe_fld (pv 0) rfl) (pv 2) (fun _ _ => rfl)) pe_int (fun _ _ => rfl)) (pv 1) (nomark _)))) (fun _ _ _ _ _ => (pv 2)))) pa_nil)))), ?_⟩
    refine ⟨tb, .dK es, hes, trivial, fun od => ⟨_, rfl, p, C_Shape, dx, _, _, rfl, by rw [upd_ne ptb]; exact hp, T.cl_Shape, T.no_Shape_table, shF_table _ _, tb, od, rfl, .inl ⟨es, upd_same, fun Dl hD => ?_⟩⟩⟩
    have nDt : Dl ≠ tb := fun e => by rw [e, upd_same] at hD; cases hD
    refine lc_it (lock_keys (d := tb) (o := od) (es := es)) (fun i H' => Ex (upd H tb (.frz od (.dK es))) H' ∧ H' Dl = some (.lst ((((rowsS z).take i).filter fun r => decide (r.2.1 = par)).map fun r => V.str r.1))) ⟨Ex.new hD, upd_same⟩ (fun i H' _ p => p.1 _ _ upd_same) (fun i x H' H2 hi pv y => ?_) fun H' pv => ?_
    · obtain ⟨rfl, hx⟩ := y
      obtain ⟨e, hl⟩ := pv
      rw [List.getElem?_map] at hx
      cases hc : es[i]? with
      | none => rw [hc] at hx; cases hx
      | some kv =>
      rw [hc] at hx
      obtain ⟨key, v⟩ := kv
      obtain ⟨r, hr1, rfl, hv⟩ := hat i key v hc
      obtain ⟨tp, fv, hv2, htp, _⟩ := hget r (List.mem_of_getElem? hr1)
      have ev : v = .ref tp := Option.some.inj (hv.symm.trans hv2)
      subst ev
      cases hx
      have tt : H2 tp = some (.tup [oV r.2.1, fv]) := e _ _ (upd_tup hes (fun xs h => nomatch h) _ _ htp)
      have pp : H2 p = some (.ins C_Shape dx (shF ft tb)) := e _ _ (by rw [upd_ne ptb]; exact hp)
      have et : (rowsS z).take (i + 1) = (rowsS z).take i ++ [r] := by rw [List.take_add_one, hr1]; rfl
      refine ⟨rfl, _, rfl, p, C_Shape, dx, _, _, rfl, pp, T.cl_Shape, T.no_Shape_table, shF_table _ _, _, rfl, tb, .ref tp, rfl, .inl ⟨es, Sum.inr r.1, .inr ⟨od, e _ _ upd_same⟩, rfl, hv.symm⟩, tp, _, 0, _, rfl, rfl, Evl.st_of tt, rfl, _, rfl, oV_scal _ _, _, rfl, ?_⟩
      rw [oV_inj]
      refine ite2 (fun hc => ?_) (fun hc => ?_)
      · have hc := of_decide_eq_true hc
        refine ⟨_, rfl, _, hl, Evl.sz_lt ?_, Ex.mut e hD, ?_⟩
        · rw [List.length_map]
          exact Nat.lt_of_le_of_lt (List.length_filter_le _ _) (by rw [List.length_take]; omega)
        · rw [upd_same, et, List.filter_append, List.map_append]
          simp [hc, kV]
      · have hc : ¬ r.2.1 = par := fun z => hc (decide_eq_true z)
        refine ⟨e, ?_⟩
        rw [hl, et, List.filter_append, List.map_append]
        simp [hc]
    · obtain ⟨e, hl⟩ := pv
      refine ⟨e _ _ upd_same, Dl, kids z par, rfl, Evl.sq_of ?_, Nat.lt_of_le_of_lt (kids_len par) (by omega), fun ys q perm so hq => ?_⟩
      · rw [upd_ne nDt, hl]
        have et : (rowsS z).take (es.map fun e => kV e.1).length = rowsS z := List.take_of_length_le (by rw [List.length_map]; omega)
        rw [et]
        unfold kids
        rw [List.map_map]; rfl
      · have e2 : Ex H (upd H' tb (.dK es)) := unlock hes e
        exact k _ q ys (e2.trans (Ex.new hq)) (Evl.fresh_back e2 hq) upd_same perm so
def spOuter (C : Addr) : Sp := fun vs H Q _ => ∃ (p : Addr) (fl : List Str) (s : Sh) (S : Addr → Prop), vs = [.ref p] ∧ ShapeAt C H p fl s S ∧ okSh s ∧
  ∀ H' q ys, Ex H H' → H q = none → H' q = some (.lst (ys.map V.str)) → ys.Perm (kids s none) → sortedS ys = true → Q (.ref q) H'
theorem ok_Shape_outer (T : Txt K mg C_Shape C_LimitExceeded C_InvalidDeed C_StayError C_FORMS) (R : Prg K mg C_Shape C_LimitExceeded C_InvalidDeed C_StayError C_FORMS) : ∃ f fd, Mt P w K mg base C_Shape "outer" 2 ["self"] (spOuter C_Shape) f fd := by
  obtain ⟨_, _, G_Shape_lists_in⟩ := ok_Shape_lists_in (P := P) (w := w) (base := base) T R
  obtain ⟨f, fd, F, fi, isf, kp⟩ := R.Shape_outer
  refine ⟨f, fd, F.ok sc_Shape_outer (fun vs H Q E h => ?_) (fun cdv A outer s H vs Q E hr h => ?_), ⟨fi, isf, kp⟩, F.binds (fun _ _ _ _ _ _ us hl => match us, hl with | [_], _ => rfl)⟩
  · obtain ⟨p, fl, s, S, rfl, _⟩ := h; rfl
  · obtain ⟨p, fl, z, S, rfl, hS, hz, k⟩ := h
    obtain ⟨dx, ft, tb, hp, hft, htb⟩ := id hS
    refine ⟨_, (pss_one (ps_ret (pmt (pv 0) T.cl_Shape G_Shape_lists_in hr (pa_cons pe_non pa_nil)))), ?_⟩
    exact ⟨_, rfl, p, dx, _, rfl, hp, shF_no _ _ (by decide +kernel) (by decide +kernel), p, fl, z, S, none, rfl, hS, hz, k⟩
def spInner (C : Addr) : Sp := fun vs H Q _ => ∃ (p : Addr) (fl : List Str) (s : Sh) (S : Addr → Prop) (nm : Str), vs = [.ref p, .str nm] ∧ ShapeAt C H p fl s S ∧ okSh s ∧ nm ∈ (rowsS s).map (·.1) ∧
  ∀ H' q ys, Ex H H' → H q = none → H' q = some (.lst (ys.map V.str)) → ys.Perm (kids s (some nm)) → sortedS ys = true → Q (.ref q) H'
theorem ok_Shape_inner (T : Txt K mg C_Shape C_LimitExceeded C_InvalidDeed C_StayError C_FORMS) (R : Prg K mg C_Shape C_LimitExceeded C_InvalidDeed C_StayError C_FORMS) : ∃ f fd, Mt P w K mg base C_Shape "inner" 2 ["self", "name"] (spInner C_Shape) f fd := by
  obtain ⟨_, _, G_Shape_lists_in⟩ := ok_Shape_lists_in (P := P) (w := w) (base := base) T R
  obtain ⟨_, _, G_Shape_need_list⟩ := ok_Shape_need_list (P := P) (w := w) (base := base) T R
  obtain ⟨f, fd, F, fi, isf, kp⟩ := R.Shape_inner
  refine ⟨f, fd, F.ok sc_Shape_inner (fun vs H Q E h => ?_) (fun cdv A outer s H vs Q E hr h => ?_), ⟨fi, isf, kp⟩, F.binds (fun _ _ _ _ _ _ us hl => match us, hl with | [_, _], _ => rfl)⟩
  · obtain ⟨p, fl, s, S, nm, rfl, _⟩ := h; rfl
  · obtain ⟨p, fl, z, S, nm, rfl, hS, hz, hm, k⟩ := h
    obtain ⟨dx, ft, tb, hp, hft, htb⟩ := id hS
    refine ⟨_, (pss_cons (ps_expr (pmt (pv 0) T.cl_Shape G_Shape_need_list hr (pa_cons (pv 1) pa_nil)))
  (pss_one (ps_ret (pmt (pv 0) T.cl_Shape G_Shape_lists_in hr (pa_cons (pv 1) pa_nil))))), ?_⟩
    refine ⟨_, rfl, p, dx, _, rfl, hp, shF_no _ _ (by decide +kernel) (by decide +kernel), _, rfl, p, fl, z, S, nm, rfl, hS, hz, hm, fun H1 e1 => ?_⟩
    exact ⟨_, rfl, p, dx, _, rfl, e1 _ _ hp, shF_no _ _ (by decide +kernel) (by decide +kernel), _, rfl, p, fl, z, S, some nm, rfl, hS.ex e1, hz, fun H' q ys e2 hq => k H' q ys (e1.trans e2) (Evl.fresh_back e1 hq)⟩
def spFields (C : Addr) : Sp := fun vs H Q _ => ∃ (p : Addr) (fl : List Str) (s : Sh) (S : Addr → Prop) (r : Ro), vs = [.ref p, .str r.1] ∧ ShapeAt C H p fl s S ∧ okSh s ∧ r ∈ rowsS s ∧
  ∀ H' q, Ex H H' → Rep H' 3 (fun b => H b = none) (flD r.2.2) (.ref q) → Q (.ref q) H'
theorem ok_Shape_fields (T : Txt K mg C_Shape C_LimitExceeded C_InvalidDeed C_StayError C_FORMS) (R : Prg K mg C_Shape C_LimitExceeded C_InvalidDeed C_StayError C_FORMS) : ∃ f fd, Mt P w K mg base C_Shape "fields" 2 ["self", "name"] (spFields C_Shape) f fd := by
  obtain ⟨_, _, G_Shape_need_list⟩ := ok_Shape_need_list (P := P) (w := w) (base := base) T R
  obtain ⟨f, fd, F, fi, isf, kp⟩ := R.Shape_fields
  refine ⟨f, fd, F.ok sc_Shape_fields (fun vs H Q E h => ?_) (fun cdv A outer s H vs Q E hr h => ?_), ⟨fi, isf, kp⟩, F.binds (fun _ _ _ _ _ _ us hl => match us, hl with | [_, _], _ => rfl)⟩
  · obtain ⟨p, fl, s, S, r, rfl, _⟩ := h; rfl
  · obtain ⟨p, fl, z, S, r, rfl, hS, hz, hr1, k⟩ := h
    obtain ⟨dx, ft, tb, hp, hft, htb⟩ := id hS
    obtain ⟨es, hes, le, hat, hget⟩ := tab_get hz.2.1 htb
    obtain ⟨tp, fv, hv, htp, hfv⟩ := hget r hr1
    refine ⟨_, (pss_cons (ps_expr (pmt (pv 0) T.cl_Shape G_Shape_need_list hr (pa_cons (pv 1) pa_nil)))
  (pss_one (ps_ret (pe_callTy call_dictD (by rfl) T.dict (by decide +kernel) (pa_cons (pe_ix (r := rIxT K) ix_tup (pe_dget (hu_of hr) (show PE _ _ (tFld K _ _) from pe_fld (pv 0) rfl) (pv 1) (fun _ _ => rfl)) pe_int (fun _ _ => rfl)) pa_nil))))), ?_⟩
    refine ⟨_, rfl, p, dx, _, rfl, hp, shF_no _ _ (by decide +kernel) (by decide +kernel), _, rfl, p, fl, z, S, r.1, rfl, hS, hz, List.mem_map.mpr ⟨r, hr1, rfl⟩, fun H1 e1 => ?_⟩
    obtain ⟨fa, fes, rfl, hfa, _, mk⟩ := fl_new (rep_ex e1 hfv)
    refine ⟨_, rfl, p, C_Shape, dx, _, _, rfl, e1 _ _ hp, T.cl_Shape, T.no_Shape_table, shF_table _ _, _, rfl, tb, .ref tp, rfl, .inl ⟨es, Sum.inr r.1, .inl (e1 _ _ hes), rfl, hv.symm⟩, tp, _, 1, _, rfl, rfl, Evl.st_of (e1 _ _ htp), rfl, fa, fes, rfl, .inl hfa, fun q hq => ?_⟩
    exact k _ q (e1.trans (Ex.new hq)) (mk (fun a xs h => Ex.new hq _ _ h) (Evl.fresh_back e1 hq) upd_same)
end
end Pk

namespace Pk
open PySem PySem.Spec PyProof.Rows L2 Ssb
open Evl (Ex Ev EvT EvL EvA EvU)
/-! ### is_integer, is_choice, check_words -/
section
variable {P : Program} {w : World} {K : PySem.W.Frag} {mg : Str → Option Value} {base : Heap} {C_Shape C_LimitExceeded C_InvalidDeed C_StayError C_FORMS : Addr}
def preInt : List V → Hp → Prop := fun vs _ => ∃ i lo hi : Int, vs = [.int i, .int lo, .int hi] ∧ lo ≤ i ∧ i ≤ hi
theorem ok_is_integer (T : Txt K mg C_Shape C_LimitExceeded C_InvalidDeed C_StayError C_FORMS) (R : Prg K mg C_Shape C_LimitExceeded C_InvalidDeed C_StayError C_FORMS) : ∃ f fd, Fn P w K mg base "is_integer" 1 ["value", "least", "most"] (spV (.bl true) preInt) f fd := by
  obtain ⟨f, fd, at_, F, kp⟩ := R.is_integer
  refine ⟨f, fd, F.ok sc_is_integer (fun vs H Q E h => ?_) (fun cdv A outer s H vs Q E hr h => ?_), at_, kp, F.binds (fun _ _ _ _ _ _ us hl => match us, hl with | [_, _, _], _ => rfl)⟩
  · obtain ⟨⟨i, lo, hi, rfl, _⟩, _⟩ := h; rfl
  · obtain ⟨⟨i, lo, hi, rfl, h1, h2⟩, k⟩ := h
    refine ⟨_, (pss_one (ps_ret (pe_and (pe_callB (r := rIsi K) call_isi (by rfl) T.isinstance (by decide +kernel) (pa_cons (pv 0) (pa_cons (pe_bltn (v := .ty "int") (by rfl) T.int boot_int rfl) pa_nil))) (pe_and (pe_not (pe_callB (r := rIsi K) call_isi (by rfl) T.isinstance (by decide +kernel) (pa_cons (pv 0) (pa_cons (pe_bltn (v := .ty "bool") (by rfl) T.bool boot_bool rfl) pa_nil)))) (pe_one (pe_chain op_le op_le (pv 1) (pv 0) (pv 2))))))), ?_⟩
    refine Evl.s_ret (Evl.ev_is (Evl.ev_andV (a := true) (b := true) (ev_isi (Evl.ev_var rfl) (fun H1 e1 => .base (.int i)) (kit_ty (by decide +kernel))) fun _ => Evl.ev_is (Evl.ev_andV (a := true) (b := true) (Evl.ev_notV (a := false) (ev_isi (Evl.ev_var rfl) (fun H1 e1 => .base (.int i)) (kit_ty (by decide +kernel)))) fun _ => Evl.ev_is (ev_chain (Evl.ev_var rfl) (Evl.ev_var rfl) (Evl.ev_var rfl) Evl.rv_I0 Evl.rv_I0) ?_) rfl) rfl) fun H2 e2 => k H2 e2
    rw [decide_eq_true h1, decide_eq_true h2]; rfl
def txtBl (v : V) : Prop := (∃ s, v = .str s) ∨ ∃ b, v = .bl b
def preChoice : List V → Hp → Prop := fun vs H => ∃ (v : V) (t : Addr) (xs : List V), vs = [v, .ref t] ∧ H t = some (.tup xs) ∧ txtBl v ∧ (∀ x ∈ xs, txtBl x) ∧ v ∈ xs
theorem txtBl_flat {v : V} (h : txtBl v) : flatV v = true := by
  rcases h with ⟨s, rfl⟩ | ⟨b, rfl⟩ <;> rfl
theorem txtBl_eq {v : V} (h : txtBl v) : eqV v v = true := by
  rcases h with ⟨s, rfl⟩ | ⟨b, rfl⟩ <;> simp [eqV]
theorem ok_is_choice (T : Txt K mg C_Shape C_LimitExceeded C_InvalidDeed C_StayError C_FORMS) (R : Prg K mg C_Shape C_LimitExceeded C_InvalidDeed C_StayError C_FORMS) : ∃ f fd, Fn P w K mg base "is_choice" 1 ["value", "several"] (spV (.bl true) preChoice) f fd := by
  obtain ⟨f, fd, at_, F, kp⟩ := R.is_choice
  refine ⟨f, fd, F.ok sc_is_choice (fun vs H Q E h => ?_) (fun cdv A outer s H vs Q E hr h => ?_), at_, kp, F.binds (fun _ _ _ _ _ _ us hl => match us, hl with | [_, _], _ => rfl)⟩
  · obtain ⟨⟨v, t, xs, rfl, _⟩, _⟩ := h; rfl
  · obtain ⟨⟨v, t, xs, rfl, ht, hv, hx, hm⟩, k⟩ := h
    refine ⟨_, (pss_one (ps_ret (pe_and (pe_callB (r := rIsiT K) call_isiT (by rfl) T.isinstance (by decide +kernel) (pa_cons (pv 0) (pa_cons (pe_tup (pa_cons (pe_bltn (v := .ty "str") (by rfl) T.str boot_str rfl) (pa_cons (pe_bltn (v := .ty "bool") (by rfl) T.bool boot_bool rfl) pa_nil))) pa_nil))) (pe_one (pe_cmpR (r := rIn K false) op_in_seq (pv 0) (pv 1) (by rfl)))))), ?_⟩
    have kind : ∃ ty, (∀ H1, Ex H H1 → TyX K H1 v ty) ∧ PySem.W.kitAny K ty [.type "str", .type "bool"] = some true := by
      rcases hv with ⟨s, rfl⟩ | ⟨b, rfl⟩
      · exact ⟨_, fun H1 _ => .base (.str s), kitAny_cons (b := true) (kit_ty (by decide +kernel)) (fun h => nomatch h) fun _ => rfl⟩
      · exact ⟨_, fun H1 _ => .base (.bl b), kitAny_cons (b := false) (kit_ty (by decide +kernel)) (fun _ => kitAny_cons (b := true) (kit_ty (by decide +kernel)) (fun h => nomatch h) fun _ => rfl) fun h => nomatch h⟩
    obtain ⟨ty, hty, hk⟩ := kind
    refine Evl.s_ret (Evl.ev_is (Evl.ev_andV (a := true) (b := true) (ev_isi2 (Evl.ev_var rfl) hty hk) fun _ => Evl.ev_is (Evl.ev_op (Evl.ev_var rfl) (Evl.ev_var rfl) (Evl.rv_isT (Evl.st_of ht) (txtBl_flat hv) (List.all_eq_true.mpr fun x hx' => txtBl_flat (hx x hx')))) ?_) rfl) fun H2 e2 => k H2 e2
    have : inV v xs = true := by
      unfold inV
      exact List.any_eq_true.mpr ⟨v, hm, txtBl_eq hv⟩
    rw [this]
/-- choices: from names to tuples of what may be chosen -/
def ChoAt (H : Hp) (ch : Addr) (c : List (Str × List V)) : Prop := ∃ es, H ch = some (.dK es) ∧ Paired (fun (q : Str × List V) (e : Key × V) => e.1 = Sum.inr q.1 ∧ ∃ t, e.2 = .ref t ∧ H t = some (.tup q.2)) c es
theorem ChoAt.ex {H H' : Hp} {ch : Addr} {c : List (Str × List V)} (e : Ex H H') (h : ChoAt H ch c) : ChoAt H' ch c := by
  obtain ⟨es, h1, pr⟩ := h
  exact ⟨es, e _ _ h1, pair_imp pr fun a b h => ⟨h.1, h.2.choose, h.2.choose_spec.1, e _ _ h.2.choose_spec.2⟩⟩
theorem lk_mem {α : Type} : ∀ {c : List (Str × α)} {k : Str}, k ∈ c.map (·.1) → ∃ x, c.lookup k = some x ∧ (k, x) ∈ c
  | [], k, h => nomatch h
  | (j, a) :: c, k, h => by
    rw [lk_cons]
    by_cases e : k = j
    · subst e
      exact ⟨a, by rw [if_pos rfl], List.mem_cons_self⟩
    · rcases List.mem_cons.mp h with h | h
      · exact absurd h e
      · obtain ⟨x, h1, h2⟩ := lk_mem h
        exact ⟨x, by rw [if_neg e]; exact h1, List.mem_cons_of_mem _ h2⟩
theorem pair_lkV {F : List V → V → Prop} : ∀ {l : List (Str × List V)} {es : List (Key × V)}, Paired (fun (q : Str × List V) (e : Key × V) => e.1 = Sum.inr q.1 ∧ F q.2 e.2) l es → ∀ {k : Str} {d : List V}, l.lookup k = some d → ∃ v, valV es (Sum.inr k : Key) = some v ∧ F d v
  | _, _, .nil, k, d, h => by simp [List.lookup] at h
  | (j, d0) :: l, e :: es, .cons h t, k, d, hk => by
    rw [lk_cons] at hk
    rw [vV_cons]
    by_cases c : k = j
    · rw [if_pos c] at hk
      cases hk
      exact ⟨e.2, by rw [if_pos (by rw [h.1, c])], h.2⟩
    · rw [if_neg c] at hk
      obtain ⟨v, h1, h2⟩ := pair_lkV t hk
      exact ⟨v, by rw [if_neg (by rw [h.1]; intro z; exact c (Sum.inr.inj z).symm)]; exact h1, h2⟩
def dV : D → V
  | .str s => .str s
  | .bl b => .bl b
  | _ => .non
theorem rep_dV {H : Hp} {n : Nat} {S : Addr → Prop} {d : D} {v : V} (h : Rep H n S d v) (t : txtBl (dV d)) : v = dV d := by
  cases n with
  | zero => exact h.elim
  | succ n =>
  cases d with
  | str s => exact h
  | bl b => exact h
  | non => rcases t with ⟨_, h⟩ | ⟨_, h⟩ <;> cases h
  | int i => rcases t with ⟨_, h⟩ | ⟨_, h⟩ <;> cases h
  | lst l => rcases t with ⟨_, h⟩ | ⟨_, h⟩ <;> cases h
  | tup l => rcases t with ⟨_, h⟩ | ⟨_, h⟩ <;> cases h
  | dic l => rcases t with ⟨_, h⟩ | ⟨_, h⟩ <;> cases h
/-- chosen fits the choices -/
def fits (l : List (Str × D)) (c : List (Str × List V)) : Prop := l.length = c.length ∧ c.length ≤ 60 ∧ ∀ q ∈ c, (∀ x ∈ q.2, txtBl x) ∧ ∃ d, l.lookup q.1 = some d ∧ dV d ∈ q.2
def preCw : List V → Hp → Prop := fun vs H => ∃ (v pl : V) (ch : Addr) (n : Nat) (S : Addr → Prop) (l : List (Str × D)) (c : List (Str × List V)), vs = [v, .ref ch, pl] ∧ Rep H n S (.dic l) v ∧ ChoAt H ch c ∧ fits l c
theorem ok_check_words (T : Txt K mg C_Shape C_LimitExceeded C_InvalidDeed C_StayError C_FORMS) (R : Prg K mg C_Shape C_LimitExceeded C_InvalidDeed C_StayError C_FORMS) : ∃ f fd, Fn P w K mg base "check_words" 2 ["chosen", "choices", "place"] (spV .non preCw) f fd := by
  obtain ⟨_, _, G_has_names⟩ := ok_has_names (P := P) (w := w) (base := base) T R
  obtain ⟨_, _, G_is_choice⟩ := ok_is_choice (P := P) (w := w) (base := base) T R
  obtain ⟨f, fd, at_, F, kp⟩ := R.check_words
  refine ⟨f, fd, F.ok sc_check_words (fun vs H Q E h => ?_) (fun cdv A outer s H vs Q E hr h => ?_), at_, kp, F.binds (fun _ _ _ _ _ _ us hl => match us, hl with | [_, _, _], _ => rfl)⟩
  · obtain ⟨⟨v, pl, ch, n, S, l, c, rfl, _⟩, _⟩ := h; rfl
  · obtain ⟨⟨v, pl, ch, n, S, l, c, rfl, hv, hch, hl, hc60, hq⟩, k⟩ := h
    obtain ⟨es, hes, pr⟩ := id hch
    have le := pair_len pr
    have keys : es.map (fun kv => kV kv.1) = (c.map (·.1)).map V.str := by
      have key : ∀ {c : List (Str × List V)} {es : List (Key × V)}, Paired (fun (q : Str × List V) (e : Key × V) => e.1 = Sum.inr q.1 ∧ ∃ t, e.2 = .ref t ∧ H t = some (.tup q.2)) c es → es.map (fun kv => kV kv.1) = (c.map (·.1)).map V.str := by
        intro c es p
        induction p with
        | nil => rfl
        | cons h t ih => rw [List.map_cons, ih, h.1]; rfl
      exact key pr
    refine ⟨_, (pss_cons (ps_if (pt_not (pt_val (pcl G_has_names hr (pa_cons (pv 0) (pa_cons (pe_callTy (call_listD rfl) (by rfl) T.list (by decide +kernel) (pa_cons (pv 1) pa_nil)) pa_nil))))) pss_never pss_nil)
  (pss_one (ps_for PassesOwn.never rfl (show PI _ _ _ (iList K _) from pi_list (pe_callB (r := rSortedS K) cr_sortedS (by rfl) T.sorted (by decide +kernel) (pa_cons (pe_callTy (call_listD rfl) (by rfl) T.list (by decide +kernel) (pa_cons (pv 1) pa_nil)) pa_nil))) (pg_name (i := 3) sc_check_words.nd rfl (Or.inl rfl))
    (pss_one (ps_if (pt_not (pt_val (pcl G_is_choice hr (pa_cons (pe_dget (hu_of hr) (pv 0) (pv 3) (fun _ _ => rfl)) (pa_cons (pe_dget (hu_of hr) (pv 1) (pv 3) (fun _ _ => rfl)) pa_nil))))) pss_never pss_nil))))), ?_⟩
    refine Evl.q_when (b := false) (Evl.et_not (a := true) (Evl.et_B fun H1 e1 Q' q' => ?_)) (fun h => nomatch h) fun _ H1 e1 => ?_
    · refine ⟨_, rfl, _, rfl, ch, es, rfl, .inl (e1 _ _ hes), fun a ha => ⟨⟨v, a, n, S, l, c.map (·.1), rfl, rep_ex (e1.trans (Ex.new ha)) hv, Evl.sq_of (by rw [upd_same, keys]), by rw [List.length_map]; omega, by rw [List.length_map]; exact hl, fun x hx => ?_⟩, fun H2 e2 => q' H2 ((Ex.new ha).trans e2)⟩⟩
      obtain ⟨q, hq1, rfl⟩ := List.mem_map.mp hx
      obtain ⟨_, d, hd, _⟩ := hq q hq1
      rw [hd]; rfl
    · refine ⟨_, rfl, ch, es, rfl, .inl (e1 _ _ hes), fun a ha => ⟨a, c.map (·.1), rfl, Evl.sq_of (by rw [upd_same, keys]), by rw [List.length_map]; omega, fun ys b perm so hb => ?_⟩⟩
      have e2 : Ex H (upd (upd H1 a (.lst (es.map fun kv => kV kv.1))) b (.lst (ys.map V.str))) := e1.trans ((Ex.new ha).trans (Ex.new hb))
      have hb2 : (upd (upd H1 a (.lst (es.map fun kv => kV kv.1))) b (.lst (ys.map V.str))) b = some (.lst (ys.map V.str)) := upd_same
      generalize (upd (upd H1 a (.lst (es.map fun kv => kV kv.1))) b (.lst (ys.map V.str))) = H2 at e2 hb2 ⊢
      refine ⟨b, rfl, ⟨_, Evl.sq_of hb2⟩, for_list (K := K) (a := b) (xs := ys.map V.str) (fun i σ' H' => ∃ o, σ' = [some v, some (.ref ch), some pl, o] ∧ Ex H2 H') ⟨_, rfl, Ex.refl _⟩ (fun i σ' H' _ ⟨_, _, e⟩ => Evl.sq_of (e _ _ hb2)) (fun i x σ' H' hx ⟨o, eσ, e⟩ => ?_) fun σ' H' ⟨_, _, e⟩ => k H' (e2.trans e)⟩
      subst eσ
      rw [List.getElem?_map] at hx
      cases hy : ys[i]? with
      | none => rw [hy] at hx; cases hx
      | some y =>
      rw [hy] at hx
      cases hx
      obtain ⟨xs, hlk, hmem⟩ := lk_mem (perm.mem_iff.mp (List.mem_of_getElem? hy))
      obtain ⟨htx, d, hd, hin⟩ := hq (y, xs) hmem
      obtain ⟨ve, hve, t, rfl, ht⟩ := pair_lkV (F := fun x v => ∃ t, v = .ref t ∧ H t = some (.tup x)) pr hlk
      cases n with
      | zero => exact hv.elim
      | succ n =>
      obtain ⟨dv, des, rfl, _, hdv, _, dpr⟩ := id hv
      obtain ⟨vd, hvd, hrd⟩ := rep_entry dpr hd
      have evd := rep_dV hrd (htx _ hin)
      subst evd
      have e3 := e2.trans e
      exact Evl.s_when (b := false) (Evl.et_not (a := true) (Evl.et_B (spV_ev (Evl.ea_cons (ev_get (Evl.ev_var rfl) (Evl.ev_var rfl) (.inl (e3 _ _ hdv)) hvd) (Evl.ea_cons (ev_get (Evl.ev_var rfl) (Evl.ev_var rfl) (.inl (e3 _ _ hes)) hve) Evl.ea_nil)) fun H4 e4 => ⟨_, t, xs, rfl, e4 _ _ (e3 _ _ ht), htx _ hin, htx, hin⟩))) (fun h => nomatch h) fun _ H4 e4 => ⟨_, rfl, e.trans e4⟩
end
end Pk

namespace Pk
open PySem PySem.Spec PyProof.Rows L2 Ssb
open Evl (Ex Ev EvT EvL EvA EvU)
/-! ### rows_in -/
/-- the number of rows, m levels of lists deep -/
def rowsN : Nat → D → Int
  | 0, _ => 0
  | m + 1, d => match d with
    | .dic l => match l.lookup ("lists" : Str) with
      | some (.dic ls) => (ls.map fun p => match p.2 with
        | .lst rs => (rs.length : Int) + (rs.map (rowsN m)).sum
        | _ => 0).sum
      | _ => 0
    | _ => 0
def rowsL (m : Nat) : D → Int
  | .lst rs => (rs.length : Int) + (rs.map (rowsN m)).sum
  | _ => 0
/-- data or a row, m levels of lists deep -/
def wfR : Nat → D → Prop
  | 0, _ => False
  | m + 1, d => ∃ l ls, d = .dic l ∧ l.lookup ("lists" : Str) = some (.dic ls) ∧ ∀ p ∈ ls, ∃ rs, p.2 = .lst rs ∧ ∀ r ∈ rs, wfR m r
theorem rowsN_eq {m : Nat} {l ls : List (Str × D)} (h : l.lookup ("lists" : Str) = some (.dic ls)) : rowsN (m + 1) (.dic l) = (ls.map fun p => rowsL m p.2).sum := by
  show (match l.lookup ("lists" : Str) with | some (.dic ls) => _ | _ => (0 : Int)) = _
  rw [h]
  rfl
theorem map_range {α β : Type} {f : Nat → β} {g : α → β} : ∀ {l : List α} {n : Nat}, l.length = n → (∀ (i : Nat) (a : α), l[i]? = some a → f i = g a) → (List.range n).map f = l.map g := fun {l n} hn h => by
  refine List.ext_getElem? fun i => ?_
  rw [List.getElem?_map, List.getElem?_map]
  by_cases hi : i < n
  · have e : l[i]? = some (l[i]'(by omega)) := List.getElem?_eq_getElem (by omega)
    rw [e, List.getElem?_range hi]
    exact congrArg some (h i _ e)
  · have e : l[i]? = none := List.getElem?_eq_none_iff.mpr (by omega)
    rw [e, List.getElem?_eq_none_iff.mpr (by rw [List.length_range]; omega)]
    rfl
section
variable {P : Program} {w : World} {K : PySem.W.Frag} {mg : Str → Option Value} {base : Heap} {C_Shape C_LimitExceeded C_InvalidDeed C_StayError C_FORMS : Addr}
def spRi (m : Nat) : Sp := fun vs H Q _ => ∃ (v : V) (n : Nat) (S : Addr → Prop) (d : D), vs = [v] ∧ Rep H n S d v ∧ wfR m d ∧ ∀ H', Ex H H' → Q (.int (rowsN m d)) H'
theorem ok_rows_in (T : Txt K mg C_Shape C_LimitExceeded C_InvalidDeed C_StayError C_FORMS) (R : Prg K mg C_Shape C_LimitExceeded C_InvalidDeed C_StayError C_FORMS) : ∀ m, ∃ f fd, Fn P w K mg base "rows_in" (m + 1) ["data"] (spRi m) f fd
  | 0 => by
    obtain ⟨f, fd, at_, F, kp⟩ := R.rows_in
    refine ⟨f, fd, F.ok sc_rows_in (fun vs H Q E h => ?_) (fun cdv A outer s H vs Q E hr h => ?_), at_, kp, F.binds (fun _ _ _ _ _ _ us hl => match us, hl with | [_], _ => rfl)⟩
    · obtain ⟨v, n, S, d, rfl, _⟩ := h; rfl
    · obtain ⟨v, n, S, d, rfl, hv, hw, k⟩ := h; exact hw.elim
  | m + 1 => by
    obtain ⟨f0, fd0, G_rows_in⟩ := ok_rows_in T R m
    obtain ⟨f, fd, at_, F, kp⟩ := R.rows_in
    refine ⟨f, fd, F.ok sc_rows_in (fun vs H Q E h => ?_) (fun cdv A outer s H vs Q E hr h => ?_), at_, kp, F.binds (fun _ _ _ _ _ _ us hl => match us, hl with | [_], _ => rfl)⟩
    · obtain ⟨v, n, S, d, rfl, _⟩ := h; rfl
    · obtain ⟨v, n, S, d, rfl, hv, ⟨l, ls, rfl, hl, hw⟩, k⟩ := h
      rw [rowsN_eq hl] at k
      cases n with
      | zero => exact hv.elim
      | succ n =>
      obtain ⟨dv, des, rfl, _, hdv, _, dpr⟩ := id hv
      obtain ⟨vl, hvl, hrl⟩ := rep_entry dpr hl
      cases n with
      | zero => exact hrl.elim
      | succ n =>
      obtain ⟨da, es, rfl, ⟨_, nda⟩, hda, hlen, pr⟩ := id hrl
      have le := pair_len pr
      have lsAt : ∀ (i : Nat) (x : Key) (v : V), es[i]? = some (x, v) → ∃ p, ls[i]? = some p ∧ Rep H (n + 1) (fun b => (S b ∧ b ≠ dv) ∧ b ≠ da) p.2 v := fun i x v hx => by
        obtain ⟨p, hp, _, h2⟩ := pair_back pr hx
        exact ⟨p, hp, rep_up h2⟩
      refine ⟨_, (pss_one (ps_ret (pe_callB (r := rSum K) (cr_sum rfl) (by rfl) T.sum (by decide +kernel) (pa_cons (pe_lock (pe_lc (own := [("rows", 1)]) rfl sc_rows_in.nd (pi_values (pe_dget (hu_of hr) (pv 0) pe_str (fun _ _ => rfl))) (blkOk_by (own := [("rows", 1)]) (N := ["data", "rows", "row"]) (sc := defScope s_rows_in) (by decide +kernel)) (fun _ _ _ _ _ => (pg_name (i := 1) sc_rows_in.nd rfl (Or.inl rfl))) (fun _ _ _ _ _ => pts_nil) (fun _ _ _ _ _ => (pe_op op_add (pe_callB (r := rLenA K) call_len (by rfl) T.len (by decide +kernel) (pa_cons (pv 1) pa_nil)) (pe_callB (r := rSum K) (cr_sum rfl) (by rfl) T.sum (by decide +kernel) (pa_cons (pe_lc (own := [("row", 2)]) rfl sc_rows_in.nd (show PI _ _ _ (iList K _) from pi_list (pv 1)) (blkOk_by (own := [("row", 2)]) (N := ["data", "rows", "row"]) (sc := { kind := .function, names := [(".0", .local), ("rows", .local), ("len", .globalImplicit), ("sum", .globalImplicit)], isGenerator := false, isCoroutine := false }) (by decide +kernel)) (fun _ _ _ _ _ => (pg_name (i := 2) sc_rows_in.nd rfl (Or.inl rfl))) (fun _ _ _ _ _ => pts_nil) (fun _ _ _ _ _ => (pcl G_rows_in hr (pa_cons (pv 2) pa_nil)))) pa_nil)))))) pa_nil)))), ?_⟩
      refine Evl.s_ret (ev_sum (n := es.length) (c := fun i => rowsL m ((ls[i]?.map (·.2)).getD .non)) (el_lcV (d := da) (es := es) (fun H1 e1 od => ev_get (Evl.ev_var rfl) Evl.ev_c (.inl (by rw [upd_ne nda.symm]; exact e1 _ _ hdv)) hvl) hda (by omega) (fun _ => rfl) fun i x v hx od H1 H2 e1 e2 => ?_)) fun H2 e2 => ?_
      · obtain ⟨p, hp, hr1⟩ := lsAt i x v hx
        obtain ⟨rs, ep, hrs⟩ := hw p (List.mem_of_getElem? hp)
        have er : rowsL m ((ls[i]?.map (·.2)).getD .non) = (rs.length : Int) + (rs.map (rowsN m)).sum := by
          rw [hp]
          show rowsL m p.2 = _
          rw [ep]; rfl
        rw [er]
        have hr2 := rep_in (e1 _ _ hda) e2 (rep_ex e1 hr1)
        rw [ep] at hr2
        obtain ⟨ra, xs, rfl, _, hra, hl5, pp⟩ := id hr2
        have lx := pair_len pp
        refine Evl.ev_op (Evl.ev_is (ev_lenL (Evl.ev_var rfl) (.inl (Evl.sq_of hra))) (by rw [← lx])) (Evl.ev_is (ev_sum (n := xs.length) (c := fun j => rowsN m ((rs[j]?).getD .non)) (el_lcA (Evl.ev_var rfl) (Evl.sq_of hra) (by omega) (fun _ => rfl) fun j y hy H3 e3 => ?_)) ?_) Evl.rv_I0
        · obtain ⟨r, hr3, hr4⟩ := pair_back pp hy
          have e5 : rowsN m ((rs[j]?).getD .non) = rowsN m r := by rw [hr3]; rfl
          rw [e5]
          exact ev_fn (Evl.ea_cons (Evl.ev_var rfl) Evl.ea_nil) fun H4 e4 Q' q' => ⟨y, n, _, r, rfl, rep_ex (e3.trans e4) hr4, hrs r (List.mem_of_getElem? hr3), q'⟩
        · congr 1
          congr 1
          exact map_range lx fun j a ha => by rw [ha]; rfl
      · have := k H2 e2
        rw [← map_range (f := fun i => rowsL m ((ls[i]?.map (·.2)).getD .non)) le fun i a ha => by rw [ha]; rfl] at this
        exact this
end
/-! ### valid rows -/
def okFs (f : Fl) (c : List (Str × D)) : Prop := c.length = f.length ∧ ∀ p ∈ f, ∃ x, c.lookup p.1 = some (.str x) ∧ x ∈ p.2
def okRows (s : Sh) : Nat → Ro → D → Prop
  | 0, _, _ => False
  | m + 1, r, d => ∃ (rs : List D) (ids : List Int), d = .lst rs ∧ ids.Nodup ∧ rs.length ≤ 400 ∧ Paired (fun (row : D) (id : Int) => ∃ l fs ls, row = .dic l ∧ l.length = 3 ∧ l.lookup ("id" : Str) = some (.int id) ∧ 0 ≤ id ∧ id ≤ 1000000 ∧
      l.lookup ("fields" : Str) = some (.dic fs) ∧ okFs r.2.2 fs ∧ l.lookup ("lists" : Str) = some (.dic ls) ∧ ls.length = (kids s (some r.1)).length ∧ ∀ r' ∈ rowsS s, r'.2.1 = some r.1 → ∃ d', ls.lookup r'.1 = some d' ∧ okRows s m r' d') rs ids
def okLs (s : Sh) (m : Nat) (par : Option Str) (ls : List (Str × D)) : Prop := ls.length = (kids s par).length ∧ ∀ r' ∈ rowsS s, r'.2.1 = par → ∃ d', ls.lookup r'.1 = some d' ∧ okRows s m r' d'
theorem kids_mem {s : Sh} {par : Option Str} {x : Str} (h : x ∈ kids s par) : ∃ r ∈ rowsS s, r.2.1 = par ∧ r.1 = x := by
  obtain ⟨r, hr, rfl⟩ := List.mem_map.mp h
  have := List.mem_filter.mp hr
  exact ⟨r, this.1, of_decide_eq_true this.2, rfl⟩
section
variable {P : Program} {w : World} {K : PySem.W.Frag} {mg : Str → Option Value} {base : Heap} {C_Shape C_LimitExceeded C_InvalidDeed C_StayError C_FORMS : Addr}
/-- place: a tuple, not empty, of few parts -/
def PlAt (H : Hp) (v : V) (n : Nat) : Prop := ∃ (a : Addr) (xs : List V), v = .ref a ∧ H a = some (.tup xs) ∧ xs.length ≤ n
theorem PlAt.ex {H H' : Hp} {v : V} {n : Nat} (e : Ex H H') (h : PlAt H v n) : PlAt H' v n := by
  obtain ⟨a, xs, h0, h1, h3⟩ := h; exact ⟨a, xs, h0, e _ _ h1, h3⟩
/-- place + (x,) -/
theorem ev_place {σ : L2.St} {H : Hp} {ta tb : TE} {pl y : V} {n : Nat} (h : Ev ta σ H pl) (hp : PlAt H pl n) (hn : n ≤ 1000) (hy : Ev tb σ H y) : EvP (tOp (rCatA K) ta (tTup (tCons tb tNil))) σ H fun v H' => PlAt H' v (n + 1) := fun H1 e Q q => by
  obtain ⟨a, xs, rfl, ha, hl⟩ := hp
  refine h H1 e _ fun H2 e2 => hy H2 (e.trans e2) _ fun H3 e3 => ⟨(by show 1 ≤ sizeLine; decide), fun t ht => ⟨a, t, xs, [y], rfl, rfl, Evl.st_of ((e.trans (e2.trans (e3.trans (Ex.new ht)))) _ _ ha), Evl.st_of upd_same, Evl.sz_of (by simp only [List.length_singleton]; omega), fun _ => ?_, (fun _ z => nomatch z), fun _ _ p hp => ?_⟩⟩
  · exact q _ _ (e2.trans (e3.trans (Ex.new ht))) ⟨t, [y], rfl, upd_same, by simp⟩
  · exact q _ _ (e2.trans (e3.trans ((Ex.new ht).trans (Ex.new hp)))) ⟨p, xs ++ [y], rfl, upd_same, by simp only [List.length_append, List.length_singleton]; omega⟩
def spCr (C : Addr) (m : Nat) : Sp := fun vs H Q _ => ∃ (p : Addr) (v pl : V) (n : Nat) (S : Addr → Prop) (d : D) (fl : List Str) (s : Sh) (S' : Addr → Prop) (r : Ro) (q : Nat), vs = [.ref p, .str r.1, v, pl] ∧ ShapeAt C H p fl s S' ∧ okSh s ∧ r ∈ rowsS s ∧ Rep H n S d v ∧ okRows s m r d ∧ PlAt H pl q ∧ q + 10 * m ≤ 802 ∧ ∀ H', Ex H H' → Q .non H'
def spCl (C : Addr) (m : Nat) : Sp := fun vs H Q _ => ∃ (p na : Addr) (v pl : V) (n : Nat) (S : Addr → Prop) (ls : List (Str × D)) (fl : List Str) (s : Sh) (S' : Addr → Prop) (par : Option Str) (nms : List Str) (q : Nat), vs = [.ref p, v, .ref na, pl] ∧ ShapeAt C H p fl s S' ∧ okSh s ∧ Rep H n S (.dic ls) v ∧ okLs s m par ls ∧ H na = some (.lst (nms.map V.str)) ∧ nms.Perm (kids s par) ∧ PlAt H pl q ∧ q + 10 * m ≤ 800 ∧ ∀ H', Ex H H' → Q .non H'
theorem ok_check_lists (T : Txt K mg C_Shape C_LimitExceeded C_InvalidDeed C_StayError C_FORMS) (R : Prg K mg C_Shape C_LimitExceeded C_InvalidDeed C_StayError C_FORMS) {m c : Nat} (G0 : ∃ f fd, Fn P w K mg base "check_rows" c ["shape", "name", "rows", "place"] (spCr C_Shape m) f fd) : ∃ f fd, Fn P w K mg base "check_lists" (c + 2) ["shape", "lists", "names", "place"] (spCl C_Shape m) f fd := by
  obtain ⟨_, _, G_check_rows⟩ := G0
  obtain ⟨_, _, G_has_names⟩ := ok_has_names (P := P) (w := w) (base := base) T R
  obtain ⟨f, fd, at_, F, kp⟩ := R.check_lists
  refine ⟨f, fd, F.ok sc_check_lists (fun vs H Q E h => ?_) (fun cdv A outer s H vs Q E hr h => ?_), at_, kp, F.binds (fun _ _ _ _ _ _ us hl => match us, hl with | [_, _, _, _], _ => rfl)⟩
  · obtain ⟨p, na, v, pl, n, S, ls, fl, s, S', par, nms, q, rfl, _⟩ := h; rfl
  · obtain ⟨p, na, v, pl, n, S, ls, fl, z, S', par, nms, q, rfl, hS, hz, hv, ⟨hlen, hls⟩, hna, perm, hpl, hq, k⟩ := h
    have ln : nms.length = (kids z par).length := perm.length_eq
    obtain ⟨r4, _⟩ := okSh_rows hz
    have l4 := kids_len (s := z) par
    refine ⟨_, (pss_cons (ps_if (pt_not (pt_val (pcl G_has_names hr (pa_cons (pv 1) (pa_cons (pv 2) pa_nil))))) pss_never pss_nil)
  (pss_one (ps_for PassesOwn.never rfl (show PI _ _ _ (iList K _) from pi_list (pv 2)) (pg_name (i := 4) sc_check_lists.nd rfl (Or.inl rfl))
    (pss_one (ps_expr (pcl G_check_rows hr (pa_cons (pv 0) (pa_cons (pv 4) (pa_cons (pe_dget (hu_of hr) (pv 1) (pv 4) (fun _ _ => rfl)) (pa_cons (pe_op (r := rCatA K) op_catA (pv 3) (pe_tup (pa_cons (pv 4) pa_nil))) pa_nil)))))))))), ?_⟩
    refine Evl.q_when (b := false) (Evl.et_not (a := true) (Evl.et_B (spV_ev (Evl.ea_cons (Evl.ev_var rfl) (Evl.ea_cons (Evl.ev_var rfl) Evl.ea_nil)) fun H1 e1 => ⟨v, na, n, S, ls, nms, rfl, rep_ex e1 hv, Evl.sq_of (e1 _ _ hna), by omega, by omega, fun x hx => ?_⟩))) (fun h => nomatch h) fun _ H1 e1 => ?_
    · obtain ⟨r, hr1, hr2, rfl⟩ := kids_mem (perm.mem_iff.mp hx)
      obtain ⟨d', hd', _⟩ := hls r hr1 hr2
      rw [hd']; rfl
    · refine ⟨_, rfl, na, rfl, ⟨_, Evl.sq_of (e1 _ _ hna)⟩, for_list (K := K) (a := na) (xs := nms.map V.str) (fun i σ' H' => ∃ o, σ' = [some (.ref p), some v, some (.ref na), some pl, o] ∧ Ex H H') ⟨_, rfl, e1⟩ (fun i σ' H' _ ⟨_, _, e⟩ => Evl.sq_of (e _ _ hna)) (fun i x σ' H' hx ⟨o, eσ, e⟩ => ?_) fun σ' H' ⟨_, _, e⟩ => k H' e⟩
      subst eσ
      rw [List.getElem?_map] at hx
      cases hy : nms[i]? with
      | none => rw [hy] at hx; cases hx
      | some y =>
      rw [hy] at hx
      cases hx
      obtain ⟨r, hr1, hr2, rfl⟩ := kids_mem (perm.mem_iff.mp (List.mem_of_getElem? hy))
      obtain ⟨d', hd', hrows⟩ := hls r hr1 hr2
      cases n with
      | zero => exact hv.elim
      | succ n =>
      obtain ⟨da, es, rfl, _, hda, _, pr⟩ := id hv
      obtain ⟨vd, hvd, hrd⟩ := rep_entry pr hd'
      refine ⟨_, rfl, _, rfl, ?_⟩
      refine ev_get (Evl.ev_var rfl) (Evl.ev_var rfl) (.inl (e _ _ hda)) hvd _ (Ex.refl _) _ fun H2 e2 => ?_
      refine ev_place (Evl.ev_var rfl) (hpl.ex (e.trans e2)) (by omega) (Evl.ev_var rfl) _ (Ex.refl _) _ fun v3 H3 e3 hp3 => ?_
      have e4 := e.trans (e2.trans e3)
      exact ⟨p, vd, v3, n, _, d', fl, z, S', r, q + 1, rfl, hS.ex e4, hz, hr1, rep_ex e4 hrd, hrows, hp3, by omega, fun H5 e5 => ⟨_, rfl, e4.trans e5⟩⟩
end
end Pk

namespace Pk
open PySem PySem.Spec PyProof.Rows L2 Ssb
open Evl (Ex Ev EvT EvL EvA EvU)
/-! ### check_row, check_rows, check -/
theorem flD_cho {H : Hp} {n : Nat} {S : Addr → Prop} {f : Fl} {q : Addr} (h : Rep H n S (flD f) (.ref q)) : ChoAt H q (f.map fun p => (p.1, p.2.map V.str)) := by
  cases n with
  | zero => exact h.elim
  | succ n =>
  obtain ⟨a, es, e, _, ha, _, pr⟩ := h
  cases e
  refine ⟨es, ha, ?_⟩
  have key : ∀ {f : Fl} {es : List (Key × V)}, Paired (fun (q' : Str × D) (e : Key × V) => e.1 = Sum.inr q'.1 ∧ Rep H n (fun b => S b ∧ b ≠ q) q'.2 e.2) (f.map fun p => (p.1, D.tup (p.2.map .str))) es →
      Paired (fun (q' : Str × List V) (e : Key × V) => e.1 = Sum.inr q'.1 ∧ ∃ t, e.2 = .ref t ∧ H t = some (.tup q'.2)) (f.map fun p => (p.1, p.2.map V.str)) es := by
    intro f
    induction f with
    | nil => intro es p; cases p; exact .nil
    | cons x f ih =>
      intro es p
      rw [List.map_cons] at p
      cases p with
      | cons h t =>
        refine .cons ⟨h.1, ?_⟩ (ih t)
        exact rep_words h.2
  exact key pr
def okRow (s : Sh) (m : Nat) (r : Ro) (row : D) (id : Int) : Prop := ∃ l fs ls, row = .dic l ∧ l.length = 3 ∧ l.lookup ("id" : Str) = some (.int id) ∧ 0 ≤ id ∧ id ≤ 1000000 ∧
      l.lookup ("fields" : Str) = some (.dic fs) ∧ okFs r.2.2 fs ∧ l.lookup ("lists" : Str) = some (.dic ls) ∧ ls.length = (kids s (some r.1)).length ∧ ∀ r' ∈ rowsS s, r'.2.1 = some r.1 → ∃ d', ls.lookup r'.1 = some d' ∧ okRows s m r' d'
theorem okFs_fits {f : Fl} {c : List (Str × D)} (hf : okFl f) (h : okFs f c) : fits c (f.map fun p => (p.1, p.2.map V.str)) := by
  refine ⟨by rw [List.length_map]; exact h.1, by rw [List.length_map]; have := hf.1; omega, fun q hq => ?_⟩
  obtain ⟨p, hp, rfl⟩ := List.mem_map.mp hq
  refine ⟨fun x hx => ?_, ?_⟩
  · obtain ⟨y, _, rfl⟩ := List.mem_map.mp hx
    exact .inl ⟨y, rfl⟩
  · obtain ⟨x, h1, h2⟩ := h.2 p hp
    exact ⟨_, h1, List.mem_map.mpr ⟨x, h2, rfl⟩⟩
def idE (ids : List Int) : List (Key × V) := ids.map fun i => (Sum.inl i, V.bl true)
theorem idE_no : ∀ {ids : List Int} {i : Int}, i ∉ ids → valV (idE ids) (Sum.inl i : Key) = none
  | [], _, _ => rfl
  | j :: ids, i, h => by
    show valV ((Sum.inl j, V.bl true) :: idE ids) _ = none
    rw [vV_cons, if_neg fun z => h (by rw [Sum.inl.inj z]; exact List.mem_cons_self)]
    exact idE_no fun z => h (List.mem_cons_of_mem _ z)
section
variable {P : Program} {w : World} {K : PySem.W.Frag} {mg : Str → Option Value} {base : Heap} {C_Shape C_LimitExceeded C_InvalidDeed C_StayError C_FORMS : Addr}
def spCx (C : Addr) (m : Nat) : Sp := fun vs H Q _ => ∃ (p er : Addr) (v pl : V) (n : Nat) (S : Addr → Prop) (d : D) (fl : List Str) (s : Sh) (S' : Addr → Prop) (r : Ro) (q : Nat) (ids : List Int) (id : Int), vs = [.ref p, .str r.1, v, .ref er, pl] ∧ ShapeAt C H p fl s S' ∧ okSh s ∧ r ∈ rowsS s ∧ Rep H n S d v ∧ okRow s m r d id ∧ H er = some (.dK (idE ids)) ∧ id ∉ ids ∧ PlAt H pl q ∧ q + 10 * m ≤ 796 ∧ ∀ H', Ex H H' → Q .non H'
theorem ok_check_row (T : Txt K mg C_Shape C_LimitExceeded C_InvalidDeed C_StayError C_FORMS) (R : Prg K mg C_Shape C_LimitExceeded C_InvalidDeed C_StayError C_FORMS) {m c : Nat} (hc : 3 ≤ c) (G0 : ∃ f fd, Fn P w K mg base "check_lists" c ["shape", "lists", "names", "place"] (spCl C_Shape m) f fd) : ∃ f fd, Fn P w K mg base "check_row" (c + 1) ["shape", "name", "row", "earlier", "here"] (spCx C_Shape m) f fd := by
  obtain ⟨_, _, G_check_lists⟩ := G0
  obtain ⟨_, _, G_has_names⟩ := ok_has_names (P := P) (w := w) (base := base) T R
  obtain ⟨_, _, G_is_integer⟩ := ok_is_integer (P := P) (w := w) (base := base) T R
  obtain ⟨_, _, G_check_words⟩ := ok_check_words (P := P) (w := w) (base := base) T R
  obtain ⟨_, _, G_Shape_fields⟩ := ok_Shape_fields (P := P) (w := w) (base := base) T R
  obtain ⟨_, _, G_Shape_inner⟩ := ok_Shape_inner (P := P) (w := w) (base := base) T R
  obtain ⟨tG, gG⟩ := T.g_GREATEST_ID
  obtain ⟨f, fd, at_, F, kp⟩ := R.check_row
  refine ⟨f, fd, F.ok sc_check_row (fun vs H Q E h => ?_) (fun cdv A outer s H vs Q E hr h => ?_), at_, kp, F.binds (fun _ _ _ _ _ _ us hl => match us, hl with | [_, _, _, _, _], _ => rfl)⟩
  · obtain ⟨p, er, v, pl, n, S, d, fl, s, S', r, q, ids, id, rfl, _⟩ := h; rfl
  · obtain ⟨p, er, v, pl, n, S, d, fl, z, S', r, q, ids, id, rfl, hS, hz, hr1, hv, ⟨l, fs, ls, rfl, hl3, hid, i0, i1, hfs, okf, hls, lls, okl⟩, her, nid, hpl, hq, k⟩ := h
    obtain ⟨dx, ft, tb, hp, hft, htb⟩ := _root_.id hS
    obtain ⟨_, rok⟩ := okSh_rows hz
    cases n with
    | zero => exact hv.elim
    | succ n =>
    obtain ⟨dv, des, rfl, _, hdv, _, dpr⟩ := _root_.id hv
    obtain ⟨vi, hvi, hri⟩ := rep_entry dpr hid
    obtain ⟨vf, hvf, hrf⟩ := rep_entry dpr hfs
    obtain ⟨vl, hvl, hrl⟩ := rep_entry dpr hls
    have evi : vi = .int id := by
      cases n with
      | zero => exact hri.elim
      | succ n => exact hri
    subst evi
    refine ⟨_, (pss_cons (ps_if (pt_not (pt_val (pcl G_has_names hr (pa_cons (pv 2) (pa_cons (pe_lst (pa_cons pe_str (pa_cons pe_str (pa_cons pe_str pa_nil)))) pa_nil))))) pss_never pss_nil)
  (pss_cons (ps_if (PW.pt (pw_or (pt_not (pt_val (pcl G_is_integer hr (pa_cons (pe_dget (hu_of hr) (pv 2) pe_str (fun _ _ => rfl)) (pa_cons pe_int (pa_cons (pe_glob (v := .int 1000000) rfl gG ⟨_, rfl⟩) pa_nil)))))) (pw_or1 (pt_cmp (pc_din (hu_of hr) (pe_dget (hu_of hr) (pv 2) pe_str (fun _ _ => rfl)) (pv 3)))))) pss_never pss_nil)
  (pss_cons (ps_expr (pcl G_check_words hr (pa_cons (pe_dget (hu_of hr) (pv 2) pe_str (fun _ _ => rfl)) (pa_cons (pmt (pv 0) T.cl_Shape G_Shape_fields hr (pa_cons (pv 1) pa_nil)) (pa_cons (pe_op (r := rCatA K) op_catA (pv 4) (pe_tup (pa_cons pe_str pa_nil))) pa_nil)))))
  (pss_one (ps_expr (pcl G_check_lists hr (pa_cons (pv 0) (pa_cons (pe_dget (hu_of hr) (pv 2) pe_str (fun _ _ => rfl)) (pa_cons (pmt (pv 0) T.cl_Shape G_Shape_inner hr (pa_cons (pv 1) pa_nil)) (pa_cons (pe_op (r := rCatA K) op_catA (pv 4) (pe_tup (pa_cons pe_str pa_nil))) pa_nil)))))))))), ?_⟩
    refine Evl.q_when (b := false) (Evl.et_not (a := true) (Evl.et_B (ev_fnL (Evl.ev_var rfl) (Evl.el_lst (Evl.ea_cons Evl.ev_c (Evl.ea_cons Evl.ev_c (Evl.ea_cons Evl.ev_c Evl.ea_nil))) (by show 3 ≤ 100000; decide)) fun a H4 e4 ha Q q => ⟨⟨_, a, n + 1, S, l, ["id", "fields", "lists"], rfl, rep_ex e4 hv, Evl.sq_of ha, by show 3 ≤ 1000; decide, hl3, fun z hz => ?_⟩, q⟩))) (fun h => nomatch h) fun _ H1 e1 => ?_
    · rcases List.mem_cons.mp hz with rfl | hz
      · rw [hid]; rfl
      · rcases List.mem_cons.mp hz with rfl | hz
        · rw [hfs]; rfl
        · rw [List.mem_singleton.mp hz, hls]; rfl
    refine Evl.q_when (b := false) (Evl.et_or (a := false) (b := false) (Evl.et_not (a := true) (Evl.et_B (spV_ev (Evl.ea_cons (ev_get (Evl.ev_var rfl) Evl.ev_c (.inl (e1 _ _ hdv)) hvi) (Evl.ea_cons Evl.ev_c (Evl.ea_cons Evl.ev_c Evl.ea_nil))) fun H2 e2 => ⟨id, 0, 1000000, rfl, i0, i1⟩))) fun _ => Evl.et_test fun H2 e2 Q' q' => ?_) (fun h => nomatch h) fun _ H2 e2 => ?_
    · exact ev_get (Evl.ev_var rfl) Evl.ev_c (.inl (e1 _ _ hdv)) hvi H2 e2 _ fun H3 e3 => ⟨_, rfl, er, none, rfl, .inl ⟨idE ids, Sum.inl id, .inl ((e1.trans (e2.trans e3)) _ _ her), rfl, (idE_no nid).symm⟩, q' H3 e3⟩
    have e02 := e1.trans e2
    -- check_words
    refine ev_get (Evl.ev_var rfl) Evl.ev_c (.inl (e02 _ _ hdv)) hvf _ (Ex.refl _) _ fun H3 e3 => ?_
    have e03 := e02.trans e3
    refine ⟨_, rfl, p, dx, _, rfl, e03 _ _ hp, shF_no _ _ (by decide +kernel) (by decide +kernel), _, rfl, p, fl, z, S', r, rfl, hS.ex e03, hz, hr1, fun H4 q4 e4 hq4 => ?_⟩
    have e04 := e03.trans e4
    refine ev_place (Evl.ev_var rfl) (hpl.ex e04) (by omega) Evl.ev_c _ (Ex.refl _) _ fun v5 H5 e5 hp5 => ?_
    have e05 := e04.trans e5
    refine ⟨⟨vf, v5, q4, n, _, fs, r.2.2.map fun p => (p.1, p.2.map V.str), rfl, rep_ex e05 hrf, flD_cho (rep_ex e5 hq4), okFs_fits (rok r hr1).2 okf⟩, fun H6 e6 => ?_⟩
    have e06 := e05.trans e6
    -- check_lists
    refine ⟨_, rfl, ?_⟩
    refine ev_get (Evl.ev_var rfl) Evl.ev_c (.inl (e06 _ _ hdv)) hvl _ (Ex.refl _) _ fun H7 e7 => ?_
    have e07 := e06.trans e7
    refine ⟨_, rfl, p, dx, _, rfl, e07 _ _ hp, shF_no _ _ (by decide +kernel) (by decide +kernel), _, rfl, p, fl, z, S', r.1, rfl, hS.ex e07, hz, List.mem_map.mpr ⟨r, hr1, rfl⟩, fun H8 q8 nms e8 nq8 hq8 perm _ => ?_⟩
    have e08 := e07.trans e8
    refine ev_place (Evl.ev_var rfl) (hpl.ex e08) (by omega) Evl.ev_c _ (Ex.refl _) _ fun v9 H9 e9 hp9 => ?_
    have e09 := e08.trans e9
    exact ⟨p, q8, vl, v9, n, _, ls, fl, z, S', some r.1, nms, q + 1, rfl, hS.ex e09, hz, rep_ex e09 hrl, ⟨lls, okl⟩, e9 _ _ hq8, perm, hp9, by omega, fun H10 e10 => k H10 (e09.trans e10)⟩
theorem ok_check_rows0 (T : Txt K mg C_Shape C_LimitExceeded C_InvalidDeed C_StayError C_FORMS) (R : Prg K mg C_Shape C_LimitExceeded C_InvalidDeed C_StayError C_FORMS) : ∃ f fd, Fn P w K mg base "check_rows" 1 ["shape", "name", "rows", "place"] (spCr C_Shape 0) f fd := by
  obtain ⟨f, fd, at_, F, kp⟩ := R.check_rows
  refine ⟨f, fd, F.ok sc_check_rows (fun vs H Q E h => ?_) (fun cdv A outer s H vs Q E hr h => ?_), at_, kp, F.binds (fun _ _ _ _ _ _ us hl => match us, hl with | [_, _, _, _], _ => rfl)⟩
  · obtain ⟨p, v, pl, n, S, d, fl, s, S', r, q, rfl, _⟩ := h; rfl
  · obtain ⟨p, v, pl, n, S, d, fl, s, S', r, q, rfl, _, _, _, _, h, _⟩ := h; exact h.elim
theorem ok_check_rows (T : Txt K mg C_Shape C_LimitExceeded C_InvalidDeed C_StayError C_FORMS) (R : Prg K mg C_Shape C_LimitExceeded C_InvalidDeed C_StayError C_FORMS) {m c : Nat} (G0 : ∃ f fd, Fn P w K mg base "check_row" c ["shape", "name", "row", "earlier", "here"] (spCx C_Shape m) f fd) : ∃ f fd, Fn P w K mg base "check_rows" (c + 1) ["shape", "name", "rows", "place"] (spCr C_Shape (m + 1)) f fd := by
  obtain ⟨_, _, G_check_row⟩ := G0
  obtain ⟨f, fd, at_, F, kp⟩ := R.check_rows
  refine ⟨f, fd, F.ok sc_check_rows (fun vs H Q E h => ?_) (fun cdv A outer s H vs Q E hr h => ?_), at_, kp, F.binds (fun _ _ _ _ _ _ us hl => match us, hl with | [_, _, _, _], _ => rfl)⟩
  · obtain ⟨p, v, pl, n, S, d, fl, s, S', r, q, rfl, _⟩ := h; rfl
  · obtain ⟨p, v, pl, n, S, d, fl, z, S', r, q, rfl, hS, hz, hr1, hv, ⟨rs, ids, rfl, ndi, lrs, prs⟩, hpl, hq, k⟩ := h
    cases n with
    | zero => exact hv.elim
    | succ n =>
    obtain ⟨ra, xs, rfl, _, hra, _, pp⟩ := _root_.id hv
    have lx := pair_len pp
    have li := pair_len prs
    refine ⟨_, (pss_cons (ps_if (pt_not (pt_val (pe_callB (r := rIsi K) call_isi (by rfl) T.isinstance (by decide +kernel) (pa_cons (pv 2) (pa_cons (pe_bltn (v := .ty "list") (by rfl) T.list boot_list rfl) pa_nil))))) pss_never pss_nil)
  (pss_cons (ps_set (i := 4) sc_check_rows.nd rfl (Or.inl rfl) pe_dnewK)
  (pss_one (ps_for PassesOwn.never rfl (pi_enum (by rfl) T.enumerate (pa_cons (pv 2) pa_nil)) (show PG _ _ (gTup K 2 _) from pg_tup (n := 2) rfl (pgs_cons (pg_name (i := 5) sc_check_rows.nd rfl (Or.inl rfl)) (pgs_cons (pg_name (i := 6) sc_check_rows.nd rfl (Or.inl rfl)) pgs_nil)))
    (pss_cons (ps_expr (pcl G_check_row hr (pa_cons (pv 0) (pa_cons (pv 1) (pa_cons (pv 6) (pa_cons (pv 4) (pa_cons (pe_op (r := rCatA K) op_catA (pv 3) (pe_tup (pa_cons (pv 5) pa_nil))) pa_nil)))))))
  (pss_one (ps_dput (hu_of hr) (pv 4) (pe_dget (hu_of hr) (pv 6) pe_str (fun _ _ => rfl)) pe_bl rfl))))))), ?_⟩
    refine Evl.q_when (b := false) (Evl.et_not (a := true) (Evl.et_B (ev_isi (Evl.ev_var rfl) (fun H1 e1 => .base (.lst (e1 _ _ hra))) (kit_ty (by decide +kernel))))) (fun h => nomatch h) fun _ H1 e1 => ?_
    intro er her
    have e2 : Ex H1 (upd H1 er (.dK [])) := Ex.new her
    refine ⟨_, rfl, ra, xs, rfl, Evl.sq_of (e2 _ _ (e1 _ _ hra)), for_it walk_enum (fun i σ' H' => (∃ o5 o6, σ' = [some (.ref p), some (.str r.1), some (.ref ra), some pl, some (.ref er), o5, o6]) ∧ Ex H1 H' ∧ H' er = some (.dK (idE (ids.take i)))) ⟨⟨_, _, rfl⟩, e2, upd_same⟩ (fun i σ' H' _ pv => Evl.sq_of (pv.2.1 _ _ (e1 _ _ hra))) (fun i x σ' H' H'' hi pv y => ?_) fun σ' H' pv => k H' (e1.trans pv.2.1)⟩
    obtain ⟨⟨o5, o6, rfl⟩, e3, hes⟩ := pv
    obtain ⟨tp, x1, x2, rfl, ht, rfl, e, hx2⟩ := y
    cases e
    obtain ⟨row, hrow, hrr⟩ := pair_back pp hx2
    obtain ⟨id, hid, okr⟩ := pair_at prs hrow
    have e4 : Ex H1 (upd H' tp (.tup [.int (i : Nat), x2])) := e3.trans (Ex.new ht)
    have hes4 : (upd H' tp (.tup [.int (i : Nat), x2])) er = some (.dK (idE (ids.take i))) := (Ex.new ht) _ _ hes
    refine ⟨tp, _, rfl, Evl.st_of upd_same, rfl, _, _, rfl, _, _, rfl, rfl, ?_⟩
    generalize (upd H' tp (.tup [.int (i : Nat), x2])) = H4 at e4 hes4 ⊢
    have e04 := e1.trans e4
    have tk : ids.take (i + 1) = ids.take i ++ [id] := by rw [List.take_add_one, hid]; rfl
    have nid : id ∉ ids.take i := fun hm => by
      have := (List.nodup_append.mp (by rw [← tk]; exact List.Sublist.nodup (List.take_sublist _ _) ndi : (ids.take i ++ [id]).Nodup)).2.2
      exact this id hm id (List.mem_singleton.mpr rfl) rfl
    refine ⟨_, rfl, _, rfl, _, rfl, _, rfl, ?_⟩
    refine ev_place (Evl.ev_var rfl) (hpl.ex e04) (by omega) (Evl.ev_var rfl) _ (Ex.refl _) _ fun v5 H5 e5 hp5 => ?_
    have e05 := e04.trans e5
    refine ⟨p, er, x2, v5, n, _, row, fl, z, S', r, q + 1, ids.take i, id, rfl, hS.ex e05, hz, hr1, rep_ex e05 hrr, okr, e5 _ _ hes4, nid, hp5, by omega, fun H6 e6 => ?_⟩
    have e06 := e05.trans e6
    obtain ⟨l, fs, ls, rfl, _, hidl, _⟩ := okr
    cases n with
    | zero => exact hrr.elim
    | succ n =>
    obtain ⟨rv, res, rfl, _, hrv, _, rpr⟩ := _root_.id hrr
    obtain ⟨vi, hvi, hri⟩ := rep_entry rpr hidl
    have evi : vi = .int id := by
      cases n with
      | zero => exact hri.elim
      | succ n => exact hri
    subst evi
    refine ⟨_, rfl, ?_⟩
    refine ev_get (Evl.ev_var rfl) Evl.ev_c (.inl (e06 _ _ hrv)) hvi _ (Ex.refl _) _ fun H7 e7 => ?_
    have hes7 : H7 er = some (.dK (idE (ids.take i))) := e7 _ _ (e6 _ _ (e5 _ _ hes4))
    refine ⟨er, _, rfl, .inl ⟨idE (ids.take i), Sum.inl id, hes7, rfl, ?_, rfl⟩, ⟨_, _, rfl⟩, ?_, ?_⟩
    · unfold idE; rw [List.length_map, List.length_take]; exact Evl.sz_lt (by omega)
    · exact Ex.mut (e4.trans (e5.trans (e6.trans e7))) her
    · rw [upd_same, putK_new _ (idE_no nid), tk]
      unfold idE; rw [List.map_append]; rfl
/-- the whole tree of checks -/
theorem ok_check_lists2 (T : Txt K mg C_Shape C_LimitExceeded C_InvalidDeed C_StayError C_FORMS) (R : Prg K mg C_Shape C_LimitExceeded C_InvalidDeed C_StayError C_FORMS) : ∃ f fd, Fn P w K mg base "check_lists" 11 ["shape", "lists", "names", "place"] (spCl C_Shape 2) f fd :=
  ok_check_lists T R (ok_check_rows T R (ok_check_row T R (by decide) (ok_check_lists T R (ok_check_rows T R (ok_check_row T R (by decide) (ok_check_lists T R (ok_check_rows0 T R)))))))
/-- data of a shape -/
def okD (fl : List Str) (s : Sh) (d : D) : Prop := ∃ l fgs ls, d = .dic l ∧ l.length = 2 ∧ l.lookup ("flags" : Str) = some (.dic fgs) ∧ fgs.length = fl.length ∧ (∀ x ∈ fl, ∃ b, fgs.lookup x = some (.bl b)) ∧ l.lookup ("lists" : Str) = some (.dic ls) ∧ okLs s 2 none ls ∧ wfR 3 d
/-- right but for the number of rows -/
def spCk (C CL : Addr) : Sp := fun vs H Q E => ∃ (p : Addr) (v : V) (n : Nat) (S : Addr → Prop) (d : D) (fl : List Str) (s : Sh) (S' : Addr → Prop), vs = [.ref p, v] ∧ ShapeAt C H p fl s S' ∧ fl.length ≤ 2 ∧ fl.Nodup ∧ okSh s ∧ Rep H n S d v ∧ okD fl s d ∧ (rowsN 3 d ≤ 300 → ∀ H', Ex H H' → Q .non H') ∧ (¬ rowsN 3 d ≤ 300 → ∀ H' dx, Ex H H' → H dx = none → H' dx = some (.xd [("limit", .int 300)]) → E (.ref CL) (some dx) H')
def flE (fl : List Str) : List (Str × List V) := fl.map fun x => (x, [V.bl true, V.bl false])
theorem cho_no {H : Hp} {fl : List Str} {es : List (Key × V)} {x : Str} : Paired (fun (q : Str × List V) (e : Key × V) => e.1 = Sum.inr q.1 ∧ ∃ t, e.2 = .ref t ∧ H t = some (.tup q.2)) (flE fl) es → x ∉ fl → valV es (Sum.inr x : Key) = none := by
  intro p
  generalize hc : flE fl = c at p
  induction p generalizing fl with
  | nil => intro _; rfl
  | @cons a b c es h t ih =>
    intro hx
    cases fl with
    | nil => cases hc
    | cons y fl =>
      unfold flE at hc
      rw [List.map_cons, List.cons.injEq] at hc
      rw [vV_cons, if_neg, ih hc.2 fun z => hx (List.mem_cons_of_mem _ z)]
      rw [h.1, ← hc.1]
      intro z
      exact hx (by rw [← Sum.inr.inj z]; exact List.mem_cons_self)
def spKeep (C : Addr) (n : Str) : Sp := fun vs H Q _ => ∃ (a : Addr) (y : V), vs = [.ref a, y] ∧ H a = some (exo a C none) ∧ ∀ dx, H dx = none → dx ≠ a → Q .non (upd (upd H dx (exd dx [(n, y)])) a (exo a C (some dx)))
theorem ok_LimitExceeded_init (T : Txt K mg C_Shape C_LimitExceeded C_InvalidDeed C_StayError C_FORMS) (R : Prg K mg C_Shape C_LimitExceeded C_InvalidDeed C_StayError C_FORMS) : ∃ f fd, Mt P w K mg base C_LimitExceeded "__init__" 1 ["self", "limit"] (spKeep C_LimitExceeded "limit") f fd ∧ PySem.W.typeIn K (.ref f) = some (.type "function") := by
  obtain ⟨f, fd, F, fi, isf, kp⟩ := R.LimitExceeded_init
  refine ⟨f, fd, ⟨F.ok sc_LimitExceeded_init (fun vs H Q E h => ?_) (fun cdv A outer s H vs Q E hr h => ?_), ⟨fi, isf, kp⟩, F.binds (fun _ _ _ _ _ _ us hl => match us, hl with | [_, _], _ => rfl)⟩, ?_⟩
  · obtain ⟨a, y, rfl, _⟩ := h; rfl
  · obtain ⟨a, y, rfl, ha, k⟩ := h
    exact ⟨_, pss_one (ps_osE (pv 0) (pv 1)), _, rfl, _, rfl, a, C_LimitExceeded, rfl, T.ox_LimitExceeded, T.no_LimitExceeded_limit, ha, k⟩
  · have h := isf
    unfold PySem.W.isFn at h
    exact beq_iff_eq.mp h
theorem ok_InvalidDeed_init (T : Txt K mg C_Shape C_LimitExceeded C_InvalidDeed C_StayError C_FORMS) (R : Prg K mg C_Shape C_LimitExceeded C_InvalidDeed C_StayError C_FORMS) : ∃ f fd, Mt P w K mg base C_InvalidDeed "__init__" 1 ["self", "reason"] (spKeep C_InvalidDeed "reason") f fd ∧ PySem.W.typeIn K (.ref f) = some (.type "function") := by
  obtain ⟨f, fd, F, fi, isf, kp⟩ := R.InvalidDeed_init
  refine ⟨f, fd, ⟨F.ok sc_InvalidDeed_init (fun vs H Q E h => ?_) (fun cdv A outer s H vs Q E hr h => ?_), ⟨fi, isf, kp⟩, F.binds (fun _ _ _ _ _ _ us hl => match us, hl with | [_, _], _ => rfl)⟩, ?_⟩
  · obtain ⟨a, y, rfl, _⟩ := h; rfl
  · obtain ⟨a, y, rfl, ha, k⟩ := h
    exact ⟨_, pss_one (ps_osE (pv 0) (pv 1)), _, rfl, _, rfl, a, C_InvalidDeed, rfl, T.ox_InvalidDeed, T.no_InvalidDeed_reason, ha, k⟩
  · have h := isf
    unfold PySem.W.isFn at h
    exact beq_iff_eq.mp h
theorem s_raiseV {CE : Addr} {n : Str} {te : TE} {σ : L2.St} {H : Hp} {E : Value → Option Addr → Hp → Prop} {y : V} (h : Ev te σ H y)
    (k : ∀ H' dx, Ex H H' → H dx = none → H' dx = some (.xd [(n, y)]) → E (.ref CE) (some dx) H') : tMkO CE (spKeep CE n) [] (tCons te tNil) σ H E :=
  h H (Ex.refl _) _ fun H1 e1 => ⟨(by show 1 ≤ 1000; decide), fun a ha => ⟨a, y, rfl, upd_same, fun d hd ne => by
    have hd1 : H1 d = none := by rw [upd_ne ne] at hd; exact hd
    refine ⟨rfl, d, [(n, y)], upd_same, by rw [upd_ne ne, upd_same], hd1, ?_⟩
    have eq : upd (del (upd (upd (upd H1 a (exo a CE none)) d (exd d [(n, y)])) a (exo a CE (some d))) a) d (.xd [(n, y)]) = upd H1 d (.xd [(n, y)]) := by
      funext b
      by_cases h1 : b = d
      · rw [h1, upd_same, upd_same]
      · rw [upd_ne h1, upd_ne h1]
        by_cases h2 : b = a
        · rw [h2, del_same, ha]
        · rw [del_ne h2, upd_ne h2, upd_ne h1, upd_ne h2]
    rw [eq]
    exact k _ d (e1.trans (Ex.new hd1)) (Evl.fresh_back e1 hd1) upd_same⟩⟩
theorem ok_check (T : Txt K mg C_Shape C_LimitExceeded C_InvalidDeed C_StayError C_FORMS) (R : Prg K mg C_Shape C_LimitExceeded C_InvalidDeed C_StayError C_FORMS) : ∃ f fd, FnX P w K mg base "check" 13 ["shape", "data"] (spCk C_Shape C_LimitExceeded) f fd := by
  obtain ⟨_, _, G_LimitExceeded, tI⟩ := ok_LimitExceeded_init (P := P) (w := w) (base := base) T R
  obtain ⟨_, _, G_check_lists⟩ := ok_check_lists2 (P := P) (w := w) (base := base) T R
  obtain ⟨_, _, G_has_names⟩ := ok_has_names (P := P) (w := w) (base := base) T R
  obtain ⟨_, _, G_check_words⟩ := ok_check_words (P := P) (w := w) (base := base) T R
  obtain ⟨_, _, G_rows_in⟩ := ok_rows_in (P := P) (w := w) (base := base) T R 3
  obtain ⟨_, _, G_Shape_outer⟩ := ok_Shape_outer (P := P) (w := w) (base := base) T R
  obtain ⟨tG, gG⟩ := T.g_MOST_ROWS
  obtain ⟨f, fd, at_, F, kp⟩ := R.check
  refine ⟨f, fd, F.okX sc_check (fun vs H Q E h => ?_) (fun cdv A outer s H vs Q E hr h => ?_), at_, kp, F.binds (fun _ _ _ _ _ _ us hl => match us, hl with | [_, _], _ => rfl)⟩
  · obtain ⟨p, v, n, S, d, fl, s, S', rfl, _⟩ := h; rfl
  · obtain ⟨p, v, n, S, d, fl, z, S', rfl, hS, fl2, fln, hz, hv, ⟨l, fgs, ls, rfl, hl2, hfg, lfg, okg, hls, okl, wf⟩, kN, kL⟩ := h
    obtain ⟨dx, ft, tb, hp, hft, htb⟩ := id hS
    cases n with
    | zero => exact hv.elim
    | succ n =>
    obtain ⟨dv, des, rfl, _, hdv, _, dpr⟩ := id hv
    obtain ⟨vf, hvf, hrf⟩ := rep_entry dpr hfg
    obtain ⟨vl, hvl, hrl⟩ := rep_entry dpr hls
    refine ⟨_, (pss_cons (ps_if (pt_not (pt_val (pcl G_has_names hr (pa_cons (pv 1) (pa_cons (pe_lst (pa_cons pe_str (pa_cons pe_str pa_nil))) pa_nil))))) pss_never pss_nil)
  (pss_cons (ps_expr (pcl G_check_words hr (pa_cons (pe_dget (hu_of hr) (pv 1) pe_str (fun _ _ => rfl)) (pa_cons (pe_dc (own := [("flag", 2)]) rfl sc_check.nd (show PI _ _ _ (iTup K _) from pi_tup (show PE _ _ (tFld K _ _) from pe_fld (pv 0) rfl)) (blkOk_by (own := [("flag", 2)]) (N := ["shape", "data", "flag"]) (sc := defScope s_check) (by decide +kernel)) (fun _ _ _ _ _ => (pg_name (i := 2) sc_check.nd rfl (Or.inl rfl))) (fun _ _ _ _ _ => pts_nil) (fun _ _ _ _ _ => (pv 2)) (fun _ _ _ _ _ => (pe_tup (pa_cons pe_bl (pa_cons pe_bl pa_nil))))) (pa_cons (pe_tup (pa_cons pe_str pa_nil)) pa_nil)))))
  (pss_cons (ps_expr (pcl G_check_lists hr (pa_cons (pv 0) (pa_cons (pe_dget (hu_of hr) (pv 1) pe_str (fun _ _ => rfl)) (pa_cons (pmt0 (pv 0) T.cl_Shape G_Shape_outer hr) (pa_cons (pe_tup (pa_cons pe_str pa_nil)) pa_nil))))))
  (pss_one (ps_if (pt_cmpR op_gt (pcl G_rows_in hr (pa_cons (pv 1) pa_nil)) (pe_glob (v := .int 300) rfl gG ⟨_, rfl⟩) (nomark _)) (pss_one (ps_raise rfl (takes_of rfl rfl rfl rfl) (pmk_oexE T.ox_LimitExceeded G_LimitExceeded tI hr T.at_LimitExceeded (pa_cons (pe_glob (v := .int 300) rfl gG ⟨_, rfl⟩) pa_nil)))) pss_nil))))), ?_⟩
    refine Evl.q_when (b := false) (Evl.et_not (a := true) (Evl.et_B (ev_fnL (Evl.ev_var rfl) (Evl.el_lst (Evl.ea_cons Evl.ev_c (Evl.ea_cons Evl.ev_c Evl.ea_nil)) (by show 2 ≤ 100000; decide)) fun a H4 e4 ha Q q => ⟨⟨_, a, n + 1, S, l, ["flags", "lists"], rfl, rep_ex e4 hv, Evl.sq_of ha, by show 2 ≤ 1000; decide, hl2, fun z hz => ?_⟩, q⟩))) (fun h => nomatch h) fun _ H1 e1 => ?_
    · rcases List.mem_cons.mp hz with rfl | hz
      · rw [hfg]; rfl
      · rw [List.mem_singleton.mp hz, hls]; rfl
    -- check_words
    refine ev_get (Evl.ev_var rfl) Evl.ev_c (.inl (e1 _ _ hdv)) hvf _ (Ex.refl _) _ fun H3 e3 => ?_
    have e03 := e1.trans e3
    refine ⟨_, rfl, p, C_Shape, dx, _, _, rfl, e03 _ _ hp, T.cl_Shape, T.no_Shape_flags, shF_flags _ _, ft, rfl, ⟨_, Evl.st_of (e03 _ _ hft)⟩, fun Dd hD => ?_⟩
    refine dc_tup (xs := fl.map V.str) (fun i H' => Ex H3 H' ∧ ∃ es, H' Dd = some (.dK es) ∧ Paired (fun (q : Str × List V) (e : Key × V) => e.1 = Sum.inr q.1 ∧ ∃ t, e.2 = .ref t ∧ H' t = some (.tup q.2)) (flE (fl.take i)) es) ⟨Ex.new hD, [], upd_same, .nil⟩ (fun i H' _ pv => Evl.st_of (pv.1 _ _ (e03 _ _ hft))) (fun i x H' hx pv => ?_) fun H4 pv => ?_
    · obtain ⟨e4, es, hes, pes⟩ := pv
      rw [List.getElem?_map] at hx
      cases hy : fl[i]? with
      | none => rw [hy] at hx; cases hx
      | some y =>
      rw [hy] at hx
      cases hx
      refine ⟨rfl, ?_⟩
      refine yes_go ?_
      refine ⟨_, rfl, (by show 2 ≤ sizeLine; decide), fun tp htp => ?_⟩
      have nDt : Dd ≠ tp := fun e => by rw [← e, hes] at htp; cases htp
      have tk : fl.take (i + 1) = fl.take i ++ [y] := by rw [List.take_add_one, hy]; rfl
      have nin : y ∉ fl.take i := fun hm => (List.nodup_append.mp (by rw [← tk]; exact List.Sublist.nodup (List.take_sublist _ _) fln : (fl.take i ++ [y]).Nodup)).2.2 y hm y (List.mem_singleton.mpr rfl) rfl
      have nv := cho_no pes nin
      have les : es.length ≤ 2 := by
        rw [← pair_len pes]; unfold flE; rw [List.length_map, List.length_take]; omega
      refine ⟨es, Sum.inr y, rfl, by rw [upd_ne nDt]; exact hes, Evl.sz_lt (by omega), Ex.mut (e4.trans (Ex.new htp)) hD, es ++ [(Sum.inr y, .ref tp)], by rw [upd_same, putK_new _ nv], ?_⟩
      have et : flE (fl.take (i + 1)) = flE (fl.take i) ++ [(y, [V.bl true, V.bl false])] := by rw [tk]; unfold flE; rw [List.map_append]; rfl
      rw [et]
      have keep : ∀ t xs, H' t = some (.tup xs) → (upd (upd H' tp (.tup [V.bl true, V.bl false])) Dd (.dK (putK es (Sum.inr y) (.ref tp)))) t = some (.tup xs) := fun t xs ht => by
        have nt : t ≠ Dd := fun e => by rw [e, hes] at ht; cases ht
        rw [upd_ne nt]
        exact Ex.new htp _ _ ht
      refine pair_snoc (pair_imp pes fun a b h => ⟨h.1, h.2.choose, h.2.choose_spec.1, keep _ _ h.2.choose_spec.2⟩) ⟨rfl, tp, rfl, ?_⟩
      rw [upd_ne (Ne.symm nDt), upd_same]
    obtain ⟨e4, es, hes, pes⟩ := pv
    rw [List.length_map, List.take_of_length_le (Nat.le_refl _)] at pes
    have e04 := e03.trans e4
    refine ⟨(by show 1 ≤ sizeLine; decide), fun tp htp => ?_⟩
    have e05 := e04.trans (Ex.new (o := .tup [V.str "flags"]) htp)
    refine ⟨⟨vf, .ref tp, Dd, n, _, fgs, flE fl, rfl, rep_ex e05 hrf, ChoAt.ex (Ex.new htp) ⟨es, hes, pes⟩, ⟨by unfold flE; rw [List.length_map]; exact lfg, by unfold flE; rw [List.length_map]; omega, fun q hq => ?_⟩⟩, fun H6 e6 => ?_⟩
    · obtain ⟨x, hx, rfl⟩ := List.mem_map.mp hq
      refine ⟨fun y hy => ?_, ?_⟩
      · rcases List.mem_cons.mp hy with rfl | hy
        · exact .inr ⟨_, rfl⟩
        · exact .inr ⟨_, List.mem_singleton.mp hy⟩
      · obtain ⟨b, hb⟩ := okg x hx
        refine ⟨_, hb, ?_⟩
        cases b <;> simp [dV]
    have e06 := e05.trans e6
    -- check_lists
    refine ⟨_, rfl, ?_⟩
    refine ev_get (Evl.ev_var rfl) Evl.ev_c (.inl (e06 _ _ hdv)) hvl _ (Ex.refl _) _ fun H7 e7 => ?_
    have e07 := e06.trans e7
    refine ⟨_, rfl, p, dx, _, rfl, e07 _ _ hp, shF_no _ _ (by decide +kernel) (by decide +kernel), p, fl, z, S', rfl, hS.ex e07, hz, fun H8 q8 nms e8 nq8 hq8 perm _ => ?_⟩
    have e08 := e07.trans e8
    refine ⟨(by show 1 ≤ sizeLine; decide), fun tp9 htp9 => ?_⟩
    have e9 : Ex H8 (upd H8 tp9 (.tup [V.str "lists"])) := Ex.new htp9
    have e09 := e08.trans e9
    refine ⟨p, q8, vl, .ref tp9, n, _, ls, fl, z, S', none, nms, 1, rfl, hS.ex e09, hz, rep_ex e09 hrl, okl, e9 _ _ hq8, perm, ⟨tp9, _, rfl, upd_same, by show 1 ≤ 1; decide⟩, by omega, fun H10 e10 => ?_⟩
    have e010 := e09.trans e10
    dsimp only
    refine Evl.s_when (b := decide (rowsN 3 (.dic l) > 300)) (Evl.et_is (Evl.et_test (Evl.ev_op (ev_fn (z := .int (rowsN 3 (.dic l))) (Evl.ea_cons (Evl.ev_var rfl) Evl.ea_nil) fun H4 e4 Q' q' => ⟨.ref dv, n + 1, S, .dic l, rfl, rep_ex (e010.trans e4) hv, wf, q'⟩) Evl.ev_c Evl.rv_I0)) rfl) (fun hb H11 e11 => ?_) fun hb H11 e11 => ?_
    · have hb := of_decide_eq_true hb
      exact s_raiseV Evl.ev_c fun H12 dx e12 nd hd => kL (by omega) H12 dx ((e010.trans e11).trans e12) (Evl.fresh_back (e010.trans e11) nd) hd
    · have hb := of_decide_eq_false hb
      exact kN (by omega) H11 (e010.trans e11)
end
end Pk

namespace Pk
open PySem PySem.Spec PyProof.Rows L2 Ssb
open Evl (Ex Ev EvT EvL EvA EvU)
theorem gname_go {i : Nat} {v : V} {σ : L2.St} {H : Hp} {k : L2.St → Hp → Prop} (h : k (σ.set i (some v)) H) : gName i v σ H k := h
/-! ### the stream -/
/-- the state of a law's draws: what is left of a great number, the place, the cells, the seed, the count -/
def StAt (H : Hp) (S c : Addr) : Prop := S ≠ c ∧ ∃ (k : Int × Int × Int × Int) (cs : List Int), H S = some (.lst [.int k.1, .int k.2.1, .ref c, .int k.2.2.1, .int k.2.2.2]) ∧ H c = some (.lst (cs.map V.int)) ∧ 0 ≤ k.2.1 ∧ cs.length ≤ 63
/-- from H to H': the stream moved, all else stands -/
structure Mv (S c : Addr) (H H' : Hp) : Prop where
  a : StAt H S c
  z : StAt H' S c
  fr : ∀ b o, b ≠ S → b ≠ c → H b = some o → H' b = some o
theorem StAt.ex {S c : Addr} {H H' : Hp} (e : Ex H H') (h : StAt H S c) : StAt H' S c := by
  obtain ⟨n, k, cs, h1, h2, h3⟩ := h; exact ⟨n, k, cs, e _ _ h1, e _ _ h2, h3⟩
theorem Mv.ex {S c : Addr} {H H' : Hp} (a : StAt H S c) (e : Ex H H') : Mv S c H H' := ⟨a, a.ex e, fun b o _ _ h => e b o h⟩
theorem Mv.trans {S c : Addr} {H H' H2 : Hp} (m : Mv S c H H') (m2 : Mv S c H' H2) : Mv S c H H2 := ⟨m.a, m2.z, fun b o n1 n2 h => m2.fr b o n1 n2 (m.fr b o n1 n2 h)⟩
theorem Mv.tx {S c : Addr} {H H' H2 : Hp} (m : Mv S c H H') (e : Ex H' H2) : Mv S c H H2 := m.trans (.ex m.z e)
theorem StAt.someS {S c : Addr} {H : Hp} (a : StAt H S c) {b : Addr} (h : H b = none) : b ≠ S ∧ b ≠ c := by
  obtain ⟨n, k, cs, h1, h2, h3⟩ := a
  exact ⟨fun e => (by rw [e, h1] at h; cases h), fun e => (by rw [e, h2] at h; cases h)⟩
theorem Mv.back {S c : Addr} {H H' : Hp} (m : Mv S c H H') {b : Addr} (h : H' b = none) : H b = none := by
  obtain ⟨n1, n2⟩ := m.z.someS h
  cases e : H b with
  | none => rfl
  | some o => rw [m.fr b o n1 n2 e] at h; cases h
/-- an object that H does not know may change -/
theorem Mv.mut {S c : Addr} {H H' : Hp} {p : Addr} {o : HO} (m : Mv S c H H') (h : H p = none) : Mv S c H (upd H' p o) := by
  obtain ⟨n1, n2⟩ := m.a.someS h
  obtain ⟨n, k, cs, h1, h2, h3⟩ := m.z
  refine ⟨m.a, ⟨n, k, cs, by rw [upd_ne (Ne.symm n1)]; exact h1, by rw [upd_ne (Ne.symm n2)]; exact h2, h3⟩, fun b o' b1 b2 hb => ?_⟩
  have : b ≠ p := fun e => by rw [e, h] at hb; cases hb
  rw [upd_ne this]
  exact m.fr b o' b1 b2 hb
theorem Mv.new {S c : Addr} {H : Hp} {p : Addr} {o : HO} (a : StAt H S c) (h : H p = none) : Mv S c H (upd H p o) := .ex a (Ex.new h)
theorem rep_mv {S c : Addr} {H H' : Hp} (m : Mv S c H H') {n : Nat} {P : Addr → Prop} {d : D} {v : V} (n1 : ¬ P S) (n2 : ¬ P c) (h : Rep H n P d v) : Rep H' n P d v := by
  obtain ⟨_, k, cs, h1, h2, _⟩ := m.a
  refine rep_to (fun b o hb hp => m.fr b o (fun e => ?_) (fun e => ?_) hb) h
  · rw [e] at hp hb
    rcases hp with hp | ⟨xs, rfl⟩
    · exact n1 hp
    · rw [h1] at hb; cases hb
  · rw [e] at hp hb
    rcases hp with hp | ⟨xs, rfl⟩
    · exact n2 hp
    · rw [h2] at hb; cases hb
theorem Mv.tup {S c : Addr} {H H' : Hp} (m : Mv S c H H') {t : Addr} {xs : List V} (h : H t = some (.tup xs)) : H' t = some (.tup xs) := by
  obtain ⟨_, k, cs, h1, h2, _⟩ := m.a
  exact m.fr t _ (fun e => by rw [e, h1] at h; cases h) (fun e => by rw [e, h2] at h; cases h) h
theorem ev_int1 {te : TE} {σ : L2.St} {H : Hp} {i : Int} (h : Ev te σ H (.int i)) : Ev (tCB (fun xs H Q => (∃ i, xs = [V.int i] ∧ Q (.int i) H) ∨ ∃ k, xs = [V.bl k] ∧ Q (.int (if k then 1 else 0)) H) (tCons te tNil)) σ H (.int i) := fun H1 e Q q => h H1 e _ fun H2 e2 => .inl ⟨i, rfl, q H2 e2⟩
theorem at_get {α : Type} {xs : List α} {i : Int} (h0 : 0 ≤ i) (h1 : i < (xs.length : Int)) : ∃ v, xs[i.toNat]? = some v ∧ atI xs i = some v := by
  have h2 : i.toNat < xs.length := by omega
  refine ⟨xs[i.toNat], List.getElem?_eq_getElem h2, ?_⟩
  have := atI_nat (List.getElem?_eq_getElem h2)
  rw [show ((i.toNat : Nat) : Int) = i by omega] at this
  exact this
theorem shaped_ints (ns : List Int) : SeqAt.shaped (.list (ns.map PyData.int)) = true := by
  have h : PyData.canLayAll0 (ns.map PyData.int) = true ∧ PyData.depthAll (ns.map PyData.int) ≤ 1 := by
    induction ns with
    | nil => exact ⟨by simp [PyData.canLayAll0], by simp [PyData.depthAll]⟩
    | cons n ns ih => exact ⟨by simp [PyData.canLayAll0, PyData.canLay0, ih.1], by have := ih.2; simp [PyData.depthAll, PyData.depth]; omega⟩
  unfold SeqAt.shaped
  have h2 := h.2
  simp only [PyData.canLay0, PyData.depth, h.1, Bool.true_and]
  exact decide_eq_true (by omega)
theorem dp_ints {K : PySem.W.Frag} {H : Hp} {a : Addr} {ns : List Int} (h : SqL K H a (ns.map V.int)) : Dp K H (.ref a) (.list (ns.map PyData.int)) := by
  refine .lst h ?_
  clear h
  induction ns with
  | nil => exact .nil
  | cons n ns ih => exact .cons (.int n) ih
theorem el_lcN {K : PySem.W.Frag} {σ : L2.St} {H : Hp} {te tl : TE} {vs : List Nat} {j : Nat} {f : Nat → V} {xs : List V} (h : EvL tl σ H xs) (hz : xs.length ≤ 100000) (hw : ∀ x, wipe ((wipe σ vs).set j (some x)) vs = wipe σ vs)
    (he : ∀ (i : Nat) (x : V), xs[i]? = some x → ∀ H2, Ex H H2 → Ev te ((wipe σ vs).set j (some x)) H2 (f i)) : EvL (tLc (iList K tl) (gName j) tYes te vs) σ H ((List.range xs.length).map f) := fun H1 e Q q =>
  h H1 e _ fun a H2 ha e2 hx => ⟨a, rfl, ⟨xs, Evl.sq_of hx⟩, fun Dl hD =>
    el_walk (f := f) walk_list hz (fun H3 e3 => Evl.ex_l e3 (Evl.sq_of hx)) hw (fun i x h3 H3 e3 => he i x h3 H3 ((e.trans e2).trans e3)) (fun p H3 hp e3 hl => q p H3 (Evl.fresh_back e2 hp) (e2.trans e3) hl) Dl hD⟩
theorem q_asgS {te : TE} {g : TG} {tz : TS} {D_ : Ends} {σ : L2.St} {H : Hp} (h : te σ H fun v H1 => g v σ H1 fun σ' H' => tz D_ σ' H') : tSeq (tAsg te g) tz D_ σ H := h
theorem s_args3 {D_ : Ends} {σ : L2.St} {H : Hp} {te : TE} {v1 v2 v3 v4 : V} (h : te σ H fun x H1 => ([v1, v2, x, v3, v4] : List V).length ≤ sizeLine ∧ ∀ p, H1 p = none → D_.rt (.ref p) (upd H1 p (.lst [v1, v2, x, v3, v4]))) : tRet (tLst (tCons (tC v1) (tCons (tC v2) (tCons te (tCons (tC v3) (tCons (tC v4) tNil)))))) D_ σ H := h
section
variable {P : Program} {w : World} {K : PySem.W.Frag} {mg : Str → Option Value} {base : Heap} {C_Shape C_LimitExceeded C_InvalidDeed C_StayError C_FORMS : Addr}
def spOpen (K : PySem.W.Frag) : Sp := fun vs H Q _ => ∃ (a : Addr) (ns : List Int), vs = [.ref a] ∧ SqL K H a (ns.map V.int) ∧ ns.length ≤ 63 ∧ ∀ H' S c, StAt H' S c → Q (.ref S) H'
theorem ok__law_open (T : Txt K mg C_Shape C_LimitExceeded C_InvalidDeed C_StayError C_FORMS) (R : Prg K mg C_Shape C_LimitExceeded C_InvalidDeed C_StayError C_FORMS) : ∃ f fd, Fn P w K mg base "_law_open" 1 ["_law_script"] (spOpen K) f fd := by
  obtain ⟨f, fd, at_, F, kp⟩ := R._law_open
  refine ⟨f, fd, F.ok sc__law_open (fun vs H Q E h => ?_) (fun cdv A outer s H vs Q E hr h => ?_), at_, kp, F.binds (fun _ _ _ _ _ _ us hl => match us, hl with | [_], _ => rfl)⟩
  · obtain ⟨a, ns, rfl, _⟩ := h; rfl
  · obtain ⟨a, ns, rfl, hs, l63, k⟩ := h
    refine ⟨_, (pss_one (ps_ret (pe_lst (pa_cons pe_int (pa_cons pe_int (pa_cons (pe_lc (own := [("_law_cell", 1)]) rfl sc__law_open.nd (show PI _ _ _ (iList K _) from pi_list (pe_slice (r := rSlL K) sl_list (pv 0) po_none (po_some pe_int))) (blkOk_by (own := [("_law_cell", 1)]) (N := ["_law_script", "_law_cell"]) (sc := defScope s__law_open) (by decide +kernel)) (fun _ _ _ _ _ => (pg_name (i := 1) sc__law_open.nd rfl (Or.inl rfl))) (fun _ _ _ _ _ => pts_nil) (fun _ _ _ _ _ => (pe_callTy call_int1 (by rfl) T.int (by decide +kernel) (pa_cons (pv 1) pa_nil)))) (pa_cons pe_int (pa_cons pe_int pa_nil)))))))), ?_⟩
    have cut : EvL (tSl (rSlL K) (tVar 0) tNoPart (tPart (tC (.int 63)))) [some (.ref a), none] H ((ns.take 63).map V.int) := by
      have := Evl.el_sl (K := K) (te := tVar 0) (σ := [some (.ref a), none]) (H := H) (Evl.ev_var rfl) Evl.eo_none (Evl.eo_some (i := 63) Evl.ev_c) hs
      have e : cutV (ns.map V.int) none (some 63) = (ns.take 63).map V.int := by
        unfold cutV
        rw [show ((63 : Int)) = ((63 : Nat) : Int) from rfl, HT.sIx_nat, HT.sIx_none, List.drop_zero, Nat.sub_zero, List.map_take, List.length_map, Nat.min_eq_right (by omega), List.take_of_length_le (by rw [List.length_map]; exact Nat.le_refl _), List.take_of_length_le (by rw [List.length_map]; omega)]
      rw [e] at this
      exact this
    have lc := el_lcN (K := K) (te := tCB (fun xs H Q => (∃ i, xs = [V.int i] ∧ Q (.int i) H) ∨ ∃ k, xs = [V.bl k] ∧ Q (.int (if k then 1 else 0)) H) (tCons (tVar 1) tNil)) (vs := [1]) (j := 1) (f := fun i => .int ((ns.take 63).getD i 0)) cut (by rw [List.length_map, List.length_take]; omega) (fun _ => rfl) fun i x hx H2 e2 => by
      rw [List.getElem?_map] at hx
      obtain ⟨m, hm, rfl⟩ := Option.map_eq_some_iff.mp hx
      have : (ns.take 63).getD i 0 = m := by rw [List.getD_eq_getElem?_getD, hm]; rfl
      rw [this]
      exact ev_int1 (Evl.ev_var rfl)
    rw [map_range (g := V.int) (l := ns.take 63) (by rw [List.length_map]) fun i a ha => by rw [List.getD_eq_getElem?_getD, ha]; rfl] at lc
    refine s_args3 (lc H (Ex.refl _) _ fun c H1 nc e1 hc => ⟨by show 5 ≤ sizeLine; decide, fun S nS => ?_⟩)
    have ne : S ≠ c := fun e => by rw [e, hc] at nS; cases nS
    exact k _ S c ⟨ne, (0, 0, 1, 0), ns.take 63, upd_same, by rw [upd_ne (Ne.symm ne)]; exact hc, Int.le_refl _, by rw [List.length_take]; omega⟩
def spMixed : Sp := fun vs H Q _ => ∃ i : Int, vs = [.int i] ∧ ∀ H' j, Ex H H' → Q (.int j) H'
theorem ok__law_mixed (T : Txt K mg C_Shape C_LimitExceeded C_InvalidDeed C_StayError C_FORMS) (R : Prg K mg C_Shape C_LimitExceeded C_InvalidDeed C_StayError C_FORMS) : ∃ f fd, Fn P w K mg base "_law_mixed" 1 ["_law_one"] spMixed f fd := by
  obtain ⟨f, fd, at_, F, kp⟩ := R._law_mixed
  refine ⟨f, fd, F.ok sc__law_mixed (fun vs H Q E h => ?_) (fun cdv A outer s H vs Q E hr h => ?_), at_, kp, F.binds (fun _ _ _ _ _ _ us hl => match us, hl with | [_], _ => rfl)⟩
  · obtain ⟨i, rfl, _⟩ := h; rfl
  · obtain ⟨i, rfl, k⟩ := h
    refine ⟨_, (pss_cons (ps_set (i := 0) sc__law_mixed.nd rfl (Or.inl rfl) (pe_op op_add (pe_op op_mod (pe_callTy call_int1 (by rfl) T.int (by decide +kernel) (pa_cons (pe_op op_add (pe_op op_mul (pv 0) pe_int) pe_int) pa_nil)) pe_int) pe_int))
  (pss_cons (ps_set (i := 1) sc__law_mixed.nd rfl (Or.inl rfl) (pe_op op_mod (pe_callTy call_int1 (by rfl) T.int (by decide +kernel) (pa_cons (pe_op op_mul (pv 0) (pe_op op_add (pe_op op_fdiv (pv 0) pe_int) pe_int)) pa_nil)) pe_int))
  (pss_one (ps_ret (pe_op op_mod (pe_callTy call_int1 (by rfl) T.int (by decide +kernel) (pa_cons (pe_op op_mul (pv 1) (pe_op op_add (pe_op op_fdiv (pv 1) pe_int) pe_int)) pa_nil)) pe_int))))), ?_⟩
    refine Evl.q_asg (Evl.ev_op (Evl.ev_op (ev_int1 (Evl.ev_op (Evl.ev_op (Evl.ev_var rfl) Evl.ev_c (Evl.rv_I (.inr ⟨by decide, by decide⟩))) Evl.ev_c Evl.rv_I0)) Evl.ev_c (Evl.rv_I (by decide))) Evl.ev_c Evl.rv_I0) fun H1 e1 => ?_
    have b0 : 0 ≤ (i * 48271 + 30103) % 2147483629 := Int.emod_nonneg _ (by decide)
    have b1 : (i * 48271 + 30103) % 2147483629 < 2147483629 := Int.emod_lt_of_pos _ (by decide)
    generalize (i * 48271 + 30103) % 2147483629 = y at b0 b1 ⊢
    refine Evl.q_asg (Evl.ev_op (ev_int1 (Evl.ev_op (Evl.ev_var rfl) (Evl.ev_op (Evl.ev_op (Evl.ev_var rfl) Evl.ev_c (Evl.rv_I ⟨by decide, by decide⟩)) Evl.ev_c Evl.rv_I0) (Evl.rv_I (.inl ⟨by omega, by omega⟩)))) Evl.ev_c (Evl.rv_I (by decide))) fun H2 e2 => ?_
    have c0 : 0 ≤ (y + 1) * ((y + 1) / 1009 + 69621) % 2147483647 := Int.emod_nonneg _ (by decide)
    have c1 : (y + 1) * ((y + 1) / 1009 + 69621) % 2147483647 < 2147483647 := Int.emod_lt_of_pos _ (by decide)
    generalize (y + 1) * ((y + 1) / 1009 + 69621) % 2147483647 = z at c0 c1 ⊢
    exact Evl.s_ret (Evl.ev_op (ev_int1 (Evl.ev_op (Evl.ev_var rfl) (Evl.ev_op (Evl.ev_op (Evl.ev_var rfl) Evl.ev_c (Evl.rv_I ⟨by decide, by decide⟩)) Evl.ev_c Evl.rv_I0) (Evl.rv_I (.inl ⟨by omega, by omega⟩)))) Evl.ev_c (Evl.rv_I (by decide))) fun H3 e3 => k H3 _ ((e1.trans e2).trans e3)
theorem Mv.setS {S c : Addr} {H H1 : Hp} (m : Mv S c H H1) {d i x n : Int} (h : 0 ≤ i) : Mv S c H (upd H1 S (.lst [.int d, .int i, .ref c, .int x, .int n])) := by
  obtain ⟨ne, k, cs, h1, h2, _, h3⟩ := m.z
  exact ⟨m.a, ⟨ne, (d, i, x, n), cs, upd_same, by rw [upd_ne (Ne.symm ne)]; exact h2, h, h3⟩, fun b o b1 b2 hb => by rw [upd_ne b1]; exact m.fr b o b1 b2 hb⟩
def spDraw : Sp := fun vs H Q _ => ∃ (S c : Addr) (m : Int), vs = [.ref S, .int m] ∧ StAt H S c ∧ 1 ≤ m ∧ m < 1073741824 * 1073741824 * 1073741824 * 1073741824 ∧ ∀ H' r, Mv S c H H' → 0 ≤ r → r < m → Q (.int r) H'
theorem ok__law_draw (T : Txt K mg C_Shape C_LimitExceeded C_InvalidDeed C_StayError C_FORMS) (R : Prg K mg C_Shape C_LimitExceeded C_InvalidDeed C_StayError C_FORMS) : ∃ f fd, Fn P w K mg base "_law_draw" 2 ["_law_state", "_law_many"] spDraw f fd := by
  obtain ⟨_, _, G__law_mixed⟩ := ok__law_mixed (P := P) (w := w) (base := base) T R
  obtain ⟨f, fd, at_, F, kp⟩ := R._law_draw
  refine ⟨f, fd, F.ok sc__law_draw (fun vs H Q E h => ?_) (fun cdv A outer s H vs Q E hr h => ?_), at_, kp, F.binds (fun _ _ _ _ _ _ us hl => match us, hl with | [_, _], _ => rfl)⟩
  · obtain ⟨S, c, m, rfl, _⟩ := h; rfl
  · obtain ⟨S, c, m, rfl, st, m1, m2, k⟩ := h
    have lg : m.natAbs.log2 < 9000 := by
      have : m.natAbs < 2 ^ 120 := by omega
      have h2 : m.natAbs.log2 < 120 := (Nat.log2_lt (by omega)).mpr this
      omega
    refine ⟨_, (pss_cons (ps_if (pt_cmpR op_gt (pe_ix (r := rIxL K) ix_list (pv 0) pe_int (fun _ _ => rfl)) pe_int (nomark _)) (pss_cons (ps_set (i := 2) sc__law_draw.nd rfl (Or.inl rfl) (pe_op op_mod (pe_callTy call_int1 (by rfl) T.int (by decide +kernel) (pa_cons (pe_ix (r := rIxL K) ix_list (pv 0) pe_int (fun _ _ => rfl)) pa_nil)) (pv 1)))
  (pss_cons (ps_asg (pe_op op_fdivW (pe_ix (r := rIxL K) ix_list (pv 0) pe_int (fun _ _ => rfl)) (pv 1)) (pg_sub (pv 0) pe_int set_list))
  (pss_one (ps_ret (pv 2))))) pss_nil)
  (pss_cons (ps_set (i := 3) sc__law_draw.nd rfl (Or.inl rfl) pe_int)
  (Evl.pss_cut (ps_if (pt_cmpR op_lt (pe_ix (r := rIxL K) ix_list (pv 0) pe_int (fun _ _ => rfl)) (pe_callB (r := rLenA K) call_len (by rfl) T.len (by decide +kernel) (pa_cons (pe_ix (r := rIxL K) ix_list (pv 0) pe_int (fun _ _ => rfl)) pa_nil)) (nomark _)) (pss_cons (ps_set (i := 3) sc__law_draw.nd rfl (Or.inl rfl) (pe_ix (r := rIxL K) ix_list (pe_ix (r := rIxL K) ix_list (pv 0) pe_int (fun _ _ => rfl)) (pe_ix (r := rIxL K) ix_list (pv 0) pe_int (fun _ _ => rfl)) (fun _ _ => rfl)))
  (pss_one (ps_asg (pe_op op_add (pe_ix (r := rIxL K) ix_list (pv 0) pe_int (fun _ _ => rfl)) pe_int) (pg_sub (pv 0) pe_int set_list)))) pss_nil)
  (pss_cons (ps_if (PW.pt (pw_or (pt_cmpR op_ge (pv 3) (pe_op op_pow pe_int pe_int) (nomark _)) (pw_or1 (pt_cmpR op_le (pv 3) (pe_un un_neg (pe_op op_pow pe_int pe_int)) (nomark _))))) (pss_cons (ps_asg (pe_op op_fdivW (pe_callB call_abs (by rfl) T.abs (by decide +kernel) (pa_cons (pv 3) pa_nil)) (pv 1)) (pg_sub (pv 0) pe_int set_list))
  (pss_one (ps_ret (pe_op op_mod (pe_callTy call_int1 (by rfl) T.int (by decide +kernel) (pa_cons (pe_callB call_abs (by rfl) T.abs (by decide +kernel) (pa_cons (pv 3) pa_nil)) pa_nil)) (pv 1))))) pss_nil)
  (pss_cons (ps_asg (pe_op op_add (pe_ix (r := rIxL K) ix_list (pv 0) pe_int (fun _ _ => rfl)) pe_int) (pg_sub (pv 0) pe_int set_list))
  (pss_cons (ps_asg (pcl G__law_mixed hr (pa_cons (pe_op op_add (pe_op op_add (pe_ix (r := rIxL K) ix_list (pv 0) pe_int (fun _ _ => rfl)) (pe_op op_mul (pv 3) pe_int)) (pe_op op_mul (pe_ix (r := rIxL K) ix_list (pv 0) pe_int (fun _ _ => rfl)) pe_int)) pa_nil)) (pg_sub (pv 0) pe_int set_list))
  (pss_one (ps_ret (pe_op op_mod (pe_callTy call_int1 (by rfl) T.int (by decide +kernel) (pa_cons (pe_op op_fdiv (pe_ix (r := rIxL K) ix_list (pv 0) pe_int (fun _ _ => rfl)) pe_int) pa_nil)) (pv 1)))))))))), ?_⟩
    obtain ⟨ne, ⟨d0, i0, x0, n0⟩, cs, hS, hc, i00, c63⟩ := id st
    have i00 : 0 ≤ i0 := i00
    have ix : ∀ {H1 : Hp} {o2 o3 : Option V} {ys : List V} {j : Nat} {z : V}, H1 S = some (.lst ys) → ys[j]? = some z → Ev (tOp (rIxL K) (tVar 0) (tC (.int (j : Int)))) [some (.ref S), some (.int m), o2, o3] H1 z := fun h hz => Evl.ev_op (Evl.ev_var rfl) Evl.ev_c (Evl.rv_ixL (Evl.sq_of h) (atI_nat hz))
    refine Evl.q_when (b := decide (d0 > 0)) (Evl.et_test (Evl.ev_op (ix (j := 0) hS rfl) Evl.ev_c Evl.rv_I0)) (fun _ H1 e1 => ?_) (fun _ H1 e1 => ?_)
    · refine Evl.q_asg (Evl.ev_op (ev_int1 (ix (j := 0) (e1 _ _ hS) rfl)) (Evl.ev_var rfl) (Evl.rv_I (by omega))) fun H2 e2 => ?_
      have e02 := e1.trans e2
      refine Evl.q_setL (l := S) (j := 0) (v := .int (d0 / m)) (e02 _ _ hS) (Evl.ev_op (ix (j := 0) (e02 _ _ hS) rfl) (Evl.ev_var rfl) (Evl.rv_I ⟨by omega, lg⟩)) (Evl.ev_var rfl) Evl.ev_c (by show 0 < 5; decide) fun H3 e3 => ?_
      have mv : Mv S c H (upd H3 S (.lst [.int (d0 / m), .int i0, .ref c, .int x0, .int n0])) := (Mv.ex st (e02.trans e3)).setS i00
      exact Evl.s_ret (Evl.ev_var rfl) fun H4 e4 => k H4 _ (mv.tx e4) (Int.emod_nonneg _ (by omega)) (Int.emod_lt_of_pos _ (by omega))
    · refine Evl.q_asg Evl.ev_c fun H2 e2 => ?_
      have e02 := e1.trans e2
      have hS2 := e02 _ _ hS
      have hc2 := e02 _ _ hc
      refine Evl.q_cut (M := fun σ' H' => ∃ cell : Int, σ' = [some (.ref S), some (.int m), none, some (.int cell)] ∧ Mv S c H H') ?_ ?_
      · refine Evl.s_if (Evl.et_test (Evl.ev_op (ix (j := 1) hS2 rfl) (ev_lenL (ix (j := 2) hS2 rfl) (.inl (Evl.sq_of hc2))) Evl.rv_I0)) (fun hb H3 e3 => ?_) (fun _ H3 e3 => ⟨0, rfl, .ex st (e02.trans e3)⟩)
        have hb : i0 < (((cs.map V.int).length : Nat) : Int) := of_decide_eq_true hb
        obtain ⟨v, hv, hat⟩ := at_get i00 hb
        obtain ⟨x, rfl⟩ : ∃ x, v = V.int x := by
          rw [List.getElem?_map] at hv
          cases hy : cs[i0.toNat]? with
          | none => rw [hy] at hv; cases hv
          | some y => rw [hy] at hv; exact ⟨y, (Option.some.inj hv).symm⟩
        have e03 := e02.trans e3
        refine Evl.q_asg (Evl.ev_op (ix (j := 2) (e03 _ _ hS) rfl) (ix (j := 1) (e03 _ _ hS) rfl) (Evl.rv_ixL (Evl.sq_of (e03 _ _ hc)) hat)) fun H4 e4 => ?_
        have e04 := e03.trans e4
        refine Evl.s_setL (l := S) (j := 1) (v := .int (i0 + 1)) (e04 _ _ hS) (Evl.ev_op (ix (j := 1) (e04 _ _ hS) rfl) Evl.ev_c Evl.rv_I0) (Evl.ev_var rfl) Evl.ev_c (by show 1 < 5; decide) fun H5 e5 => ⟨x, rfl, (Mv.ex st (e04.trans e5)).setS (i := i0 + 1) (by omega)⟩
      · rintro σ' H3 ⟨cell, rfl, mv⟩
        obtain ⟨_, ⟨d, i, x, n⟩, cs', hS3, hc3, i1, _⟩ := id mv.z
        have i1 : 0 ≤ i := i1
        have p18 : ∀ {σ : L2.St} {H1 : Hp}, Ev (tOp (rI CPow fun i j => .int (i ^ j.toNat)) (tC (.int 10)) (tC (.int 18))) σ H1 (.int (10 ^ (18 : Int).toNat)) := Evl.ev_op Evl.ev_c Evl.ev_c (Evl.rv_I ⟨by decide, by decide, by decide⟩)
        have ab : ∀ {H1 : Hp}, Ev (tCB (fun xs H Q => ∃ i, xs = [V.int i] ∧ Q (.int (if i < 0 then -i else i)) H) (tCons (tVar 3) tNil)) [some (.ref S), some (.int m), none, some (.int cell)] H1 (.int (if cell < 0 then -cell else cell)) := fun H2 e2 Q q => ⟨_, rfl, cell, rfl, q H2 (Ex.refl _)⟩
        refine Evl.q_when (Evl.et_or (Evl.et_test (Evl.ev_op (Evl.ev_var rfl) p18 Evl.rv_I0)) fun _ => Evl.et_test (Evl.ev_op (Evl.ev_var rfl) (Evl.ev_un p18 Evl.ru_neg) Evl.rv_I0)) (fun _ H4 e4 => ?_) (fun _ H4 e4 => ?_)
        · refine Evl.q_setL (l := S) (j := 0) (v := .int ((if cell < 0 then -cell else cell) / m)) (e4 _ _ hS3) (Evl.ev_op ab (Evl.ev_var rfl) (Evl.rv_I ⟨by omega, lg⟩)) (Evl.ev_var rfl) Evl.ev_c (by show 0 < 5; decide) fun H5 e5 => ?_
          have mv5 : Mv S c H (upd H5 S (.lst [.int ((if cell < 0 then -cell else cell) / m), .int i, .ref c, .int x, .int n])) := (mv.tx (e4.trans e5)).setS i1
          exact Evl.s_ret (Evl.ev_op (ev_int1 ab) (Evl.ev_var rfl) (Evl.rv_I (by omega))) fun H6 e6 => k H6 _ (mv5.tx e6) (Int.emod_nonneg _ (by omega)) (Int.emod_lt_of_pos _ (by omega))
        · refine Evl.q_setL (l := S) (j := 4) (v := .int (n + 1)) (e4 _ _ hS3) (Evl.ev_op (ix (j := 4) (e4 _ _ hS3) rfl) Evl.ev_c Evl.rv_I0) (Evl.ev_var rfl) Evl.ev_c (by show 4 < 5; decide) fun H5 e5 => ?_
          have mv5 : Mv S c H (upd H5 S (.lst [.int d, .int i, .ref c, .int x, .int (n + 1)])) := (mv.tx (e4.trans e5)).setS i1
          have hS5 : (upd H5 S (.lst [.int d, .int i, .ref c, .int x, .int (n + 1)])) S = some (.lst [.int d, .int i, .ref c, .int x, .int (n + 1)]) := upd_same
          show tSeq _ _ _ _ (upd H5 S (.lst [.int d, .int i, .ref c, .int x, .int (n + 1)]))
          generalize (upd H5 S (.lst [.int d, .int i, .ref c, .int x, .int (n + 1)])) = H6 at mv5 hS5 ⊢
          refine q_asgS ((Evl.ev_op (Evl.ev_op (ix (j := 3) hS5 rfl) (Evl.ev_op (Evl.ev_var rfl) Evl.ev_c (Evl.rv_I (.inr ⟨by decide, by decide⟩))) Evl.rv_I0) (Evl.ev_op (ix (j := 4) hS5 rfl) Evl.ev_c (Evl.rv_I (.inr ⟨by decide, by decide⟩))) Evl.rv_I0) H6 (Ex.refl _) _ fun H7 e7 => ⟨_, rfl, fun H8 j e8 => ?_⟩)
          have hS8 := (e7.trans e8) _ _ hS5
          have mv8 := mv5.tx (e7.trans e8)
          refine ⟨_, rfl, S, _, 3, 3, rfl, rfl, hS8, Evl.ixN_nat (by show 3 < 5; decide), ?_⟩
          have mv9 : Mv S c H (upd H8 S (.lst [.int d, .int i, .ref c, .int j, .int (n + 1)])) := mv8.setS i1
          have hS9 : (upd H8 S (.lst [.int d, .int i, .ref c, .int j, .int (n + 1)])) S = some (.lst [.int d, .int i, .ref c, .int j, .int (n + 1)]) := upd_same
          show tRet _ _ _ (upd H8 S (.lst [.int d, .int i, .ref c, .int j, .int (n + 1)]))
          generalize (upd H8 S (.lst [.int d, .int i, .ref c, .int j, .int (n + 1)])) = H9 at mv9 hS9 ⊢
          exact Evl.s_ret (Evl.ev_op (ev_int1 (Evl.ev_op (ix (j := 3) hS9 rfl) Evl.ev_c (Evl.rv_I ⟨by decide, by decide⟩))) (Evl.ev_var rfl) (Evl.rv_I (by omega))) fun H10 e10 => k H10 _ (mv9.tx e10) (Int.emod_nonneg _ (by omega)) (Int.emod_lt_of_pos _ (by omega))
end
end Pk

namespace Pk
open PySem PySem.Spec PyProof.Rows L2 Ssb
open Evl (Ex Ev EvT EvL EvA EvU)
theorem take_snoc {α : Type} {l : List α} {i : Nat} {x : α} (h : l[i]? = some x) : l.take (i + 1) = l.take i ++ [x] := by rw [List.take_add_one, h]; rfl
theorem not_take {α : Type} {l : List α} {i : Nat} {x : α} (nd : l.Nodup) (h : l[i]? = some x) : x ∉ l.take i := fun hm =>
  (List.nodup_append.mp (by rw [← take_snoc h]; exact List.Sublist.nodup (List.take_sublist _ _) nd : (l.take i ++ [x]).Nodup)).2.2 x hm x (List.mem_singleton.mpr rfl) rfl
theorem rep_upd {H : Hp} {n : Nat} {S : Addr → Prop} {d : D} {v : V} {a : Addr} {o u : HO} (ha : H a = some o) (no : ∀ xs, o ≠ .tup xs) (hS : ∀ b, S b → b ≠ a) (h : Rep H n S d v) : Rep (upd H a u) n S d v :=
  rep_to (fun b o' hb z => by
    have ne : b ≠ a := by
      rcases z with z | ⟨xs, rfl⟩
      · exact hS b z
      · intro e; rw [e, ha] at hb; exact no xs (Option.some.inj hb)
    rw [upd_ne ne]; exact hb) h
theorem vV_no : ∀ {es : List (Key × V)} {k : Key}, k ∉ es.map (·.1) → valV es k = none
  | [], _, _ => rfl
  | e :: es, k, h => by
    rw [vV_cons, if_neg (fun z => h (by rw [← z]; exact List.mem_cons_self))]
    exact vV_no fun z => h (List.mem_cons_of_mem _ z)
theorem inr_not {ks : List Str} {k : Str} (h : k ∉ ks) : (Sum.inr k : Key) ∉ ks.map Sum.inr := fun hm => by
  obtain ⟨x, hx, e⟩ := List.mem_map.mp hm
  exact h (by rw [← Sum.inr.inj e]; exact hx)
theorem pair_keys {α : Type} {F : Str × α → Key × V → Prop} {l : List (Str × α)} {es : List (Key × V)} (h : Paired (fun p e => e.1 = Sum.inr p.1 ∧ F p e) l es) : es.map (·.1) = (l.map (·.1)).map Sum.inr := by
  induction h with
  | nil => rfl
  | cons h t ih => rw [List.map_cons, List.map_cons, List.map_cons, ih, h.1]
theorem inr_nd {ks : List Str} (h : ks.Nodup) : (ks.map (Sum.inr : Str → Key)).Nodup := List.Pairwise.map _ (fun a b h z => h (Sum.inr.inj z)) h
def dT : D → String
  | .non => "NoneType" | .bl _ => "bool" | .int _ => "int" | .str _ => "str" | .lst _ => "list" | .tup _ => "tuple" | .dic _ => "dict"
theorem rep_ty {K : PySem.W.Frag} {H : Hp} {n : Nat} {S : Addr → Prop} {d : D} {v : V} (h : Rep H (n + 1) S d v) : TyOf K H v (.type (dT d)) := by
  cases d with
  | non => have e : v = .non := h; subst e; exact .non
  | bl b => have e : v = .bl b := h; subst e; exact .bl b
  | int i => have e : v = .int i := h; subst e; exact .int i
  | str s => have e : v = .str s := h; subst e; exact .str s
  | lst l => obtain ⟨a, xs, rfl, _, ha, _⟩ := h; exact .lst ha
  | tup l => obtain ⟨a, xs, rfl, ha, _⟩ := h; exact .tup ha
  | dic l => obtain ⟨a, es, rfl, _, ha, _⟩ := h; exact .dK ha
theorem ev_kind {K : PySem.W.Frag} {σ : L2.St} {H : Hp} {te : TE} {n : Nat} {S : Addr → Prop} {d : D} {v : V} {T : String} (b : Bool) (h : Ev te σ H v) (hr : Rep H (n + 1) S d v) (hk : kitB (dT d) T = some b) : Ev (tCB (rIsi K) (tCons te (tCons (tC (.ty T)) tNil))) σ H (.bl b) :=
  ev_isi h (fun H1 e1 => .base (rep_ty (rep_ex e1 hr))) (kit_ty hk)
/-- names of a dict are different, all the way down -/
def kn : Nat → D → Prop
  | n + 1, .lst l => ∀ x ∈ l, kn n x
  | n + 1, .tup l => ∀ x ∈ l, kn n x
  | n + 1, .dic l => (l.map (·.1)).Nodup ∧ ∀ p ∈ l, kn n p.2
  | _, _ => True
/-- and no tuples -/
def pl : Nat → D → Prop
  | n + 1, .lst l => ∀ x ∈ l, pl n x
  | _ + 1, .tup _ => False
  | _ + 1, .non => False
  | n + 1, .dic l => (l.map (·.1)).Nodup ∧ ∀ p ∈ l, pl n p.2
  | _, _ => True
theorem pl_kn : ∀ {n : Nat} {d : D}, pl n d → kn n d
  | 0, d, _ => by cases d <;> trivial
  | n + 1, .non, h => h.elim
  | n + 1, .bl _, _ => trivial
  | n + 1, .int _, _ => trivial
  | n + 1, .str _, _ => trivial
  | n + 1, .lst l, h => fun x hx => pl_kn (h x hx)
  | n + 1, .tup l, h => h.elim
  | n + 1, .dic l, h => ⟨h.1, fun p hp => pl_kn (h.2 p hp)⟩
theorem kit_list : ∀ t ∈ ["NoneType", "bool", "int", "str", "tuple", "dict"], kitB t "list" = some false := by decide +kernel
theorem kit_tuple : ∀ t ∈ ["NoneType", "bool", "int", "str", "list", "dict"], kitB t "tuple" = some false := by decide +kernel
theorem kit_dict : ∀ t ∈ ["NoneType", "bool", "int", "str", "list", "tuple"], kitB t "dict" = some false := by decide +kernel
section
variable {P : Program} {w : World} {K : PySem.W.Frag} {mg : Str → Option Value} {base : Heap} {C_Shape C_LimitExceeded C_InvalidDeed C_StayError C_FORMS : Addr}
def spCopy (n : Nat) : Sp := fun vs H Q _ => ∃ (v : V) (P : Addr → Prop) (d : D), vs = [v] ∧ Rep H n P d v ∧ kn n d ∧ ∀ H' v', Ex H H' → Rep H' n (fun b => H b = none) d v' → Q v' H'
theorem ok__law_copy (T : Txt K mg C_Shape C_LimitExceeded C_InvalidDeed C_StayError C_FORMS) (R : Prg K mg C_Shape C_LimitExceeded C_InvalidDeed C_StayError C_FORMS) : ∀ n, ∃ f fd, Fn P w K mg base "_law_copy" (n + 1) ["_law_value"] (spCopy n) f fd
  | 0 => by
    obtain ⟨f, fd, at_, F, kp⟩ := R._law_copy
    refine ⟨f, fd, F.ok sc__law_copy (fun vs H Q E h => ?_) (fun cdv A outer s H vs Q E hr h => ?_), at_, kp, F.binds (fun _ _ _ _ _ _ us hl => match us, hl with | [_], _ => rfl)⟩
    · obtain ⟨v, P, d, rfl, _⟩ := h; rfl
    · obtain ⟨v, P, d, rfl, h, _⟩ := h; exact h.elim
  | n + 1 => by
    obtain ⟨_, _, G__law_copy⟩ := ok__law_copy T R n
    obtain ⟨f, fd, at_, F, kp⟩ := R._law_copy
    refine ⟨f, fd, F.ok sc__law_copy (fun vs H Q E h => ?_) (fun cdv A outer s H vs Q E hr h => ?_), at_, kp, F.binds (fun _ _ _ _ _ _ us hl => match us, hl with | [_], _ => rfl)⟩
    · obtain ⟨v, P, d, rfl, _⟩ := h; rfl
    · obtain ⟨v, PP, d, rfl, hv, hkn, k⟩ := h
      refine ⟨_, (pss_cons (ps_if (pt_val (pe_callB (r := rIsi K) call_isi (by rfl) T.isinstance (by decide +kernel) (pa_cons (pv 0) (pa_cons (pe_bltn (v := .ty "list") (by rfl) T.list boot_list rfl) pa_nil)))) (pss_one (ps_ret (pe_lc (own := [("_law_part", 3)]) rfl sc__law_copy.nd (show PI _ _ _ (iList K _) from pi_list (pv 0)) (blkOk_by (own := [("_law_part", 3)]) (N := ["_law_value", "_law_result", "_law_name", "_law_part"]) (sc := defScope s__law_copy) (by decide +kernel)) (fun _ _ _ _ _ => (pg_name (i := 3) sc__law_copy.nd rfl (Or.inl rfl))) (fun _ _ _ _ _ => pts_nil) (fun _ _ _ _ _ => (pcl G__law_copy hr (pa_cons (pv 3) pa_nil)))))) pss_nil)
  (pss_cons (ps_if (pt_val (pe_callB (r := rIsi K) call_isi (by rfl) T.isinstance (by decide +kernel) (pa_cons (pv 0) (pa_cons (pe_bltn (v := .ty "tuple") (by rfl) T.tuple boot_tuple rfl) pa_nil)))) (pss_one (ps_ret (pe_callTy (r := rTupA K) call_tuple_of (by rfl) T.tuple (by decide +kernel) (pa_cons (pe_lc (own := [("_law_part", 3)]) rfl sc__law_copy.nd (show PI _ _ _ (iTup K _) from pi_tup (pv 0)) (blkOk_by (own := [("_law_part", 3)]) (N := ["_law_value", "_law_result", "_law_name", "_law_part"]) (sc := defScope s__law_copy) (by decide +kernel)) (fun _ _ _ _ _ => (pg_name (i := 3) sc__law_copy.nd rfl (Or.inl rfl))) (fun _ _ _ _ _ => pts_nil) (fun _ _ _ _ _ => (pcl G__law_copy hr (pa_cons (pv 3) pa_nil)))) pa_nil)))) pss_nil)
  (pss_cons (ps_if (pt_val (pe_callB (r := rIsi K) call_isi (by rfl) T.isinstance (by decide +kernel) (pa_cons (pv 0) (pa_cons (pe_bltn (v := .ty "dict") (by rfl) T.dict boot_dict rfl) pa_nil)))) (pss_cons (ps_set (i := 1) sc__law_copy.nd rfl (Or.inl rfl) pe_dnewK)
  (pss_cons (ps_lock (ps_for PassesOwn.never rfl (pi_keys (pv 0)) (pg_name (i := 2) sc__law_copy.nd rfl (Or.inl rfl))
    (pss_one (ps_dput (hu_of hr) (pv 1) (pv 2) (pcl G__law_copy hr (pa_cons (pe_dget (hu_of hr) (pv 0) (pv 2) (fun _ _ => rfl)) pa_nil)) rfl))))
  (pss_one (ps_ret (pv 1))))) pss_nil)
  (pss_one (ps_ret (pv 0)))))), ?_⟩
      -- a part of a list or a tuple
      have kidL : ∀ {l : List D} {xs : List V} {H1 : Hp} {Q2 : VK} {J : It}, Walk J xs.length (fun H' => Ex H1 H') (YAt xs) → xs.length ≤ 100000 → Paired (fun d x => Rep H1 n PP d x) l xs → (∀ x ∈ l, kn n x) → (∀ H' Dl ys, H1 Dl = none → Ex H1 H' → H' Dl = some (.lst ys) → Paired (fun d x => Rep H' n (fun b => H1 b = none ∧ b ≠ Dl) d x) l ys → Q2 (.ref Dl) H') →
          ∀ Dl, H1 Dl = none → ∃ W : Nat → Nat → Hp → Prop, (∃ m, W 0 m (upd H1 Dl (.lst []))) ∧ ∀ i m H, W i m H → (J.stop i H ∧ Q2 (.ref Dl) H) ∨ (J.go i H ∧ ∃ Nx : Hp → Prop, (∀ H', Nx H' → ∃ m', m' < m ∧ W (i + 1) m' H') ∧ ∀ x H', J.yld i H x H' → gName 3 x (wipe [some v, none, none, none] [3]) H' fun σ2 H2 => wipe σ2 [3] = wipe [some v, none, none, none] [3] ∧ tYes σ2 H2 fun b H3 =>
            if b = true then tCall (spCopy n) [] E0 (tCons (tVar 3) tNil) σ2 H3 fun y H4 => ∃ acc, H4 Dl = some (.lst acc) ∧ acc.length < sizeLine ∧ Nx (upd H4 Dl (.lst (acc ++ [y]))) else Nx H3) := by
        intro l xs H1 Q2 J wk l5 pr hk q Dl hD
        refine lc_it wk (fun i H' => Ex H1 H' ∧ ∃ ys, H' Dl = some (.lst ys) ∧ Paired (fun d x => Rep H' n (fun b => H1 b = none ∧ b ≠ Dl) d x) (l.take i) ys) ⟨Ex.new hD, [], upd_same, .nil⟩ (fun i H' _ p => p.1) (fun i x H0 H' hi pv y => ?_) fun H' pv => ?_
        · obtain ⟨e, ys, hys, pys⟩ := pv
          obtain ⟨rfl, hx⟩ := y
          obtain ⟨dx, hdx, hrx⟩ := pair_back pr hx
          refine ⟨rfl, ?_⟩
          refine yes_go ?_
          refine ⟨_, rfl, x, PP, dx, rfl, rep_ex e hrx, hk _ (List.mem_of_getElem? hdx), fun H3 v3 e3 hr3 => ⟨ys, e3 _ _ hys, ?_, Ex.mut (e.trans e3) hD, ys ++ [v3], upd_same, ?_⟩⟩
          · rw [← pair_len pys, List.length_take]; exact Evl.sz_lt (by omega)
          · rw [take_snoc hdx]
            refine pair_snoc (pair_imp pys fun a b h => rep_upd (e3 _ _ hys) (fun _ z => nomatch z) (fun b z => z.2) (rep_ex e3 h)) (rep_upd (e3 _ _ hys) (fun _ z => nomatch z) (fun b z => z.2) (rep_S (fun b hb => ⟨Evl.fresh_back e hb, fun z => by rw [z, hys] at hb; cases hb⟩) hr3))
        · obtain ⟨e, ys, hys, pys⟩ := pv
          rw [← pair_len pr, List.take_of_length_le (Nat.le_refl _)] at pys
          exact q H' Dl ys hD e hys pys
      have leaf : ∀ {H1 : Hp}, Ex H H1 → (∀ l, d ≠ .lst l) → (∀ l, d ≠ .tup l) → (∀ l, d ≠ .dic l) → Q v H1 := fun {H1} e1 a b c => by
        refine k H1 v e1 ?_
        cases d with
        | lst l => exact absurd rfl (a l)
        | tup l => exact absurd rfl (b l)
        | dic l => exact absurd rfl (c l)
        | non => exact hv
        | bl b => exact hv
        | int i => exact hv
        | str s => exact hv
      have skip1 : (∀ l, d ≠ .lst l) → kitB (dT d) "list" = some false := fun a => by
        refine kit_list _ ?_
        cases d with
        | lst l => exact absurd rfl (a l)
        | _ => simp [dT]
      have skip2 : (∀ l, d ≠ .tup l) → kitB (dT d) "tuple" = some false := fun a => by
        refine kit_tuple _ ?_
        cases d with
        | tup l => exact absurd rfl (a l)
        | _ => simp [dT]
      have skip3 : (∀ l, d ≠ .dic l) → kitB (dT d) "dict" = some false := fun a => by
        refine kit_dict _ ?_
        cases d with
        | dic l => exact absurd rfl (a l)
        | _ => simp [dT]
      by_cases c1 : ∃ l, d = .lst l
      · obtain ⟨l, rfl⟩ := c1
        obtain ⟨a, xs, rfl, _, ha, l5, pr⟩ := id hv
        refine Evl.q_when (b := true) (Evl.et_B (ev_kind (d := .lst l) true (Evl.ev_var rfl) hv (show kitB "list" "list" = some true by decide +kernel))) (fun _ H1 e1 => ?_) (fun h => nomatch h)
        have hv1 := pair_imp pr fun a b h => rep_ex e1 h
        refine ⟨_, rfl, a, rfl, ⟨_, Evl.sq_of (e1 _ _ ha)⟩, kidL (walk_list.mono (fun H' e => Evl.sq_of (e _ _ (e1 _ _ ha))) fun i H v H' _ _ y => y) (by rw [← pair_len pr]; exact l5) hv1 hkn fun H' Dl ys hD e hys pys => ?_⟩
        exact k H' _ (e1.trans e) ⟨Dl, ys, rfl, Evl.fresh_back e1 hD, hys, l5, pair_imp pys fun a b h => rep_S (fun b hb => Evl.fresh_back e1 hb.1) h⟩
      have c1 : ∀ l, d ≠ .lst l := fun l e => c1 ⟨l, e⟩
      refine Evl.q_when (b := false) (Evl.et_B (ev_kind false (Evl.ev_var rfl) hv (skip1 c1))) (fun h => nomatch h) fun _ H1 e1 => ?_
      have hv1 := rep_ex e1 hv
      by_cases c2 : ∃ l, d = .tup l
      · obtain ⟨l, rfl⟩ := c2
        obtain ⟨a, xs, rfl, ha, l5, pr⟩ := id hv1
        refine Evl.q_when (b := true) (Evl.et_B (ev_kind (d := .tup l) true (Evl.ev_var rfl) hv1 (show kitB "tuple" "tuple" = some true by decide +kernel))) (fun _ H2 e2 => ?_) (fun h => nomatch h)
        have hv2 := pair_imp pr fun a b h => rep_ex e2 h
        have e12 := e1.trans e2
        refine ⟨_, rfl, a, rfl, ⟨_, Evl.st_of (e2 _ _ ha)⟩, kidL (Q2 := fun x H' => rTupA K [x] H' Q) (walk_tup.mono (fun H' e => Evl.st_of (e _ _ (e2 _ _ ha))) fun i H v H' _ _ y => y) (by rw [← pair_len pr]; exact l5) hv2 hkn fun H' Dl ys hD e hys pys => ?_⟩
        refine ⟨Dl, ys, rfl, .inl ⟨Evl.sq_of hys, fun t ht => ?_⟩⟩
        exact k _ _ (e12.trans (e.trans (Ex.new ht))) ⟨t, ys, rfl, upd_same, l5, pair_imp pys fun a b h => rep_ex (Ex.new ht) (rep_S (fun b hb => Evl.fresh_back e12 hb.1) h)⟩
      have c2 : ∀ l, d ≠ .tup l := fun l e => c2 ⟨l, e⟩
      refine Evl.q_when (b := false) (Evl.et_B (ev_kind false (Evl.ev_var rfl) hv1 (skip2 c2))) (fun h => nomatch h) fun _ H2 e2 => ?_
      have hv2 := rep_ex e2 hv1
      have e12 := e1.trans e2
      by_cases c3 : ∃ l, d = .dic l
      · obtain ⟨l, rfl⟩ := c3
        obtain ⟨a, es, rfl, _, ha, l5, pr⟩ := id hv2
        have ekeys := pair_keys pr
        have le := pair_len pr
        refine Evl.q_when (b := true) (Evl.et_B (ev_kind (d := .dic l) true (Evl.ev_var rfl) hv2 (show kitB "dict" "dict" = some true by decide +kernel))) (fun _ H3 e3 => ?_) (fun h => nomatch h)
        have ha3 := e3 _ _ ha
        have e13 := e12.trans e3
        intro a1 h1
        have n1a : a1 ≠ a := fun e => by rw [e, ha3] at h1; cases h1
        refine for_lock (J := fun od => Itk a od es) (xs := fun _ => none) (d := a) (es := es) (by rw [upd_ne n1a.symm]; exact ha3) (fun od R r => ⟨_, rfl, a, od, rfl, .inl ⟨es, upd_same, r⟩⟩) (fun od => walk_keys) (fun od j σ' H' => ∃ (es' : List (Key × V)) (o2 : Option V), σ' = [some (.ref a), some (.ref a1), o2, none] ∧ Ex (upd H3 a (.frz od (.dK es))) H' ∧ H' a1 = some (.dK es') ∧ Paired (fun (x : Str × D) (e : Key × V) => e.1 = Sum.inr x.1 ∧ Rep H' n (fun b => H3 b = none ∧ b ≠ a1) x.2 e.2) (l.take j) es')
          (fun od => ⟨[], _, rfl, fun b o hb => ?_, by rw [upd_ne n1a]; exact upd_same, .nil⟩) (fun od j σ' H' _ ⟨_, _, _, e, _⟩ => e _ _ upd_same) (fun od j x σ' H0 H' hlt pv y => ?_) fun od σ' H' pv => ?_
        · by_cases e : b = a
          · rw [e] at hb ⊢; rw [upd_same] at hb ⊢; exact hb
          · rw [upd_ne e] at hb ⊢
            have : b ≠ a1 := fun z => by rw [z, h1] at hb; cases hb
            rw [upd_ne this]; exact hb
        · obtain ⟨es', o2, rfl, e, h1', pes⟩ := pv
          obtain ⟨rfl, kk, vj, hkv, rfl⟩ := y
          obtain ⟨⟨nm, dj⟩, hdj, hk, hrj⟩ := pair_back pr hkv
          have hk : kk = Sum.inr nm := hk
          subst hk
          have hvj : valV es (Sum.inr nm : Key) = some vj := valV_at (by rw [ekeys]; exact inr_nd hkn.1) hkv
          have hrj' := rep_in ha3 e (rep_ex e3 hrj)
          refine ⟨_, rfl, _, rfl, a, vj, rfl, .inl ⟨es, Sum.inr nm, .inr ⟨od, e _ _ upd_same⟩, rfl, hvj.symm⟩, vj, _, dj, rfl, hrj', hkn.2 _ (List.mem_of_getElem? hdj), fun H4 v4 e4 hr4 => ?_⟩
          have nv : valV es' (Sum.inr nm : Key) = none := vV_no (by rw [pair_keys pes, List.map_take]; exact inr_not (not_take hkn.1 (by rw [List.getElem?_map, hdj]; rfl)))
          refine ⟨_, rfl, _, rfl, a1, _, rfl, .inl ⟨es', Sum.inr nm, e4 _ _ h1', rfl, ?_, rfl⟩, es' ++ [(Sum.inr nm, v4)], _, rfl, Ex.mut (e.trans e4) (by rw [upd_ne n1a]; exact h1), by rw [upd_same, putK_new _ nv], ?_⟩
          · rw [← pair_len pes, List.length_take]; exact Evl.sz_lt (by omega)
          · rw [take_snoc hdj]
            have back : ∀ b, H' b = none → H3 b = none := fun b hb => by
              have := Evl.fresh_back e hb
              by_cases z : b = a
              · rw [z, upd_same] at this; cases this
              · rw [upd_ne z] at this; exact this
            exact pair_snoc (pair_imp pes fun a b h => ⟨h.1, rep_upd (e4 _ _ h1') (fun _ z => nomatch z) (fun b z => z.2) (rep_ex e4 h.2)⟩) ⟨rfl, rep_upd (e4 _ _ h1') (fun _ z => nomatch z) (fun b z => z.2) (rep_S (fun b hb => ⟨back b hb, fun z => by rw [z, h1'] at hb; cases hb⟩) hr4)⟩
        · obtain ⟨es', o2, rfl, e, h1', pes⟩ := pv
          rw [← le, List.take_of_length_le (Nat.le_refl _)] at pes
          have eu : Ex H3 (upd H' a (.dK es)) := unlock ha3 e
          refine Evl.s_ret (Evl.ev_var rfl) fun H7 e7 => k H7 _ (e13.trans (eu.trans e7)) (rep_ex e7 ⟨a1, es', rfl, Evl.fresh_back e13 h1, by rw [upd_ne n1a]; exact h1', l5, pair_imp pes fun x en h => ⟨h.1, ?_⟩⟩)
          refine rep_S (fun b hb => ⟨Evl.fresh_back e13 hb.1, hb.2⟩) (rep_upd (e _ _ upd_same) (fun _ z => nomatch z) (fun b z ez => ?_) h.2)
          rw [ez] at z
          rw [ha3] at z
          exact nomatch z.1
      have c3 : ∀ l, d ≠ .dic l := fun l e => c3 ⟨l, e⟩
      refine Evl.q_when (b := false) (Evl.et_B (ev_kind false (Evl.ev_var rfl) hv2 (skip3 c3))) (fun h => nomatch h) fun _ H3 e3 => Evl.s_ret (Evl.ev_var rfl) fun H4 e4 => leaf (e12.trans (e3.trans e4)) c1 c2 c3
end
section
variable {J : It} {n : Nat} {G : Hp → Prop} {Y : Nat → Hp → V → Hp → Prop}
/-- a dict by a comprehension: Pv by the turn and the heap (the new dict at Dl within) -/
theorem dc_it (w : Walk J n G Y) {g : TG} {tt : TT} {tk tv : TE} {vs : List Nat} {σ : L2.St} {H1 : Hp} {Dl : Addr} {Qd : Hp → Prop} (Pv : Nat → Hp → Prop) (h0 : Pv 0 (upd H1 Dl (.dK []))) (hG : ∀ i H, i ≤ n → Pv i H → G H)
    (hs : ∀ i x H H', i < n → Pv i H → Y i H x H' → g x (wipe σ vs) H' fun σ2 H2 => wipe σ2 vs = wipe σ vs ∧ tt σ2 H2 fun b H3 =>
      if b = true then tk σ2 H3 fun y H4 => tv σ2 H4 fun z H5 => ∃ kvs k, y = kV k ∧ H5 Dl = some (.dK kvs) ∧ kvs.length < sizeLine ∧ Pv (i + 1) (upd H5 Dl (.dK (putK kvs k z))) else Pv (i + 1) H3) (hd : ∀ H, Pv n H → Qd H) :
    ∃ W : Nat → Nat → Hp → Prop, (∃ m, W 0 m (upd H1 Dl (.dK []))) ∧ ∀ i m H, W i m H →
      (J.stop i H ∧ Qd H) ∨ (J.go i H ∧ ∃ Nx : Hp → Prop, (∀ H', Nx H' → ∃ m', m' < m ∧ W (i + 1) m' H') ∧ ∀ x H', J.yld i H x H' → g x (wipe σ vs) H' fun σ2 H2 => wipe σ2 vs = wipe σ vs ∧ tt σ2 H2 fun b H3 =>
        if b = true then tk σ2 H3 fun y H4 => tv σ2 H4 fun z H5 => ∃ kvs k, y = kV k ∧ H5 Dl = some (.dK kvs) ∧ kvs.length < sizeLine ∧ Nx (upd H5 Dl (.dK (putK kvs k z))) else Nx H3) := by
  refine ⟨fun i m H => m = n - i ∧ i ≤ n ∧ Pv i H, ⟨n, by simp, Nat.zero_le _, h0⟩, ?_⟩
  rintro i m H ⟨rfl, hi, p⟩
  have q := hG i H hi p
  by_cases hlt : i < n
  · refine .inr ⟨w.goes i H hlt q, Pv (i + 1), fun H' p' => ⟨n - (i + 1), by omega, rfl, hlt, p'⟩, fun x H' y => hs i x H H' hlt p (w.yields i H x H' hlt q y)⟩
  · have e : i = n := by omega
    subst e
    exact .inl ⟨w.stops H q, hd H p⟩
end
section
variable {P : Program} {w : World} {K : PySem.W.Frag} {mg : Str → Option Value} {base : Heap} {C_Shape C_LimitExceeded C_InvalidDeed C_StayError C_FORMS : Addr}
def spFresh (n : Nat) : Sp := fun vs H Q _ => ∃ (v : V) (P : Addr → Prop) (d : D), vs = [v] ∧ Rep H n P d v ∧ pl n d ∧ ∀ H' v', Ex H H' → Rep H' n (fun b => H b = none) d v' → Q v' H'
theorem ok_fresh (T : Txt K mg C_Shape C_LimitExceeded C_InvalidDeed C_StayError C_FORMS) (R : Prg K mg C_Shape C_LimitExceeded C_InvalidDeed C_StayError C_FORMS) : ∀ n, ∃ f fd, Fn P w K mg base "fresh" (n + 1) ["value"] (spFresh n) f fd
  | 0 => by
    obtain ⟨f, fd, at_, F, kp⟩ := R.fresh
    refine ⟨f, fd, F.ok sc_fresh (fun vs H Q E h => ?_) (fun cdv A outer s H vs Q E hr h => ?_), at_, kp, F.binds (fun _ _ _ _ _ _ us hl => match us, hl with | [_], _ => rfl)⟩
    · obtain ⟨v, P, d, rfl, _⟩ := h; rfl
    · obtain ⟨v, P, d, rfl, h, _⟩ := h; exact h.elim
  | n + 1 => by
    obtain ⟨_, _, G_fresh⟩ := ok_fresh T R n
    obtain ⟨f, fd, at_, F, kp⟩ := R.fresh
    refine ⟨f, fd, F.ok sc_fresh (fun vs H Q E h => ?_) (fun cdv A outer s H vs Q E hr h => ?_), at_, kp, F.binds (fun _ _ _ _ _ _ us hl => match us, hl with | [_], _ => rfl)⟩
    · obtain ⟨v, P, d, rfl, _⟩ := h; rfl
    · obtain ⟨v, PP, d, rfl, hv, hkn, k⟩ := h
      refine ⟨_, (pss_cons (ps_if (pt_val (pe_callB (r := rIsi K) call_isi (by rfl) T.isinstance (by decide +kernel) (pa_cons (pv 0) (pa_cons (pe_bltn (v := .ty "list") (by rfl) T.list boot_list rfl) pa_nil)))) (pss_one (ps_ret (pe_lc (own := [("one", 1)]) rfl sc_fresh.nd (show PI _ _ _ (iList K _) from pi_list (pv 0)) (blkOk_by (own := [("one", 1)]) (N := ["value", "one", "key"]) (sc := defScope s_fresh) (by decide +kernel)) (fun _ _ _ _ _ => (pg_name (i := 1) sc_fresh.nd rfl (Or.inl rfl))) (fun _ _ _ _ _ => pts_nil) (fun _ _ _ _ _ => (pcl G_fresh hr (pa_cons (pv 1) pa_nil)))))) pss_nil)
  (pss_cons (ps_if (pt_val (pe_callB (r := rIsi K) call_isi (by rfl) T.isinstance (by decide +kernel) (pa_cons (pv 0) (pa_cons (pe_bltn (v := .ty "tuple") (by rfl) T.tuple boot_tuple rfl) pa_nil)))) pss_never pss_nil)
  (pss_cons (ps_if (pt_val (pe_callB (r := rIsi K) call_isi (by rfl) T.isinstance (by decide +kernel) (pa_cons (pv 0) (pa_cons (pe_bltn (v := .ty "dict") (by rfl) T.dict boot_dict rfl) pa_nil)))) (pss_one (ps_ret (pe_lock (pe_dc (own := [("key", 2), ("one", 1)]) rfl sc_fresh.nd (pi_items (pv 0)) (blkOk_by (own := [("key", 2), ("one", 1)]) (N := ["value", "one", "key"]) (sc := defScope s_fresh) (by decide +kernel)) (fun _ _ _ _ _ => (show PG _ _ (gTup K 2 _) from pg_tup (n := 2) rfl (pgs_cons (pg_name (i := 2) sc_fresh.nd rfl (Or.inl rfl)) (pgs_cons (pg_name (i := 1) sc_fresh.nd rfl (Or.inl rfl)) pgs_nil)))) (fun _ _ _ _ _ => pts_nil) (fun _ _ _ _ _ => (pv 2)) (fun _ _ _ _ _ => (pcl G_fresh hr (pa_cons (pv 1) pa_nil))))))) pss_nil)
  (pss_one (ps_ret (pv 0)))))), ?_⟩
      -- a part of a list or a tuple
      have kidL : ∀ {l : List D} {xs : List V} {H1 : Hp} {Q2 : VK} {J : It}, Walk J xs.length (fun H' => Ex H1 H') (YAt xs) → xs.length ≤ 100000 → Paired (fun d x => Rep H1 n PP d x) l xs → (∀ x ∈ l, pl n x) → (∀ H' Dl ys, H1 Dl = none → Ex H1 H' → H' Dl = some (.lst ys) → Paired (fun d x => Rep H' n (fun b => H1 b = none ∧ b ≠ Dl) d x) l ys → Q2 (.ref Dl) H') →
          ∀ Dl, H1 Dl = none → ∃ W : Nat → Nat → Hp → Prop, (∃ m, W 0 m (upd H1 Dl (.lst []))) ∧ ∀ i m H, W i m H → (J.stop i H ∧ Q2 (.ref Dl) H) ∨ (J.go i H ∧ ∃ Nx : Hp → Prop, (∀ H', Nx H' → ∃ m', m' < m ∧ W (i + 1) m' H') ∧ ∀ x H', J.yld i H x H' → gName 1 x (wipe [some v, none, none] [1]) H' fun σ2 H2 => wipe σ2 [1] = wipe [some v, none, none] [1] ∧ tYes σ2 H2 fun b H3 =>
            if b = true then tCall (spFresh n) [] E0 (tCons (tVar 1) tNil) σ2 H3 fun y H4 => ∃ acc, H4 Dl = some (.lst acc) ∧ acc.length < sizeLine ∧ Nx (upd H4 Dl (.lst (acc ++ [y]))) else Nx H3) := by
        intro l xs H1 Q2 J wk l5 pr hk q Dl hD
        refine lc_it wk (fun i H' => Ex H1 H' ∧ ∃ ys, H' Dl = some (.lst ys) ∧ Paired (fun d x => Rep H' n (fun b => H1 b = none ∧ b ≠ Dl) d x) (l.take i) ys) ⟨Ex.new hD, [], upd_same, .nil⟩ (fun i H' _ p => p.1) (fun i x H0 H' hi pv y => ?_) fun H' pv => ?_
        · obtain ⟨e, ys, hys, pys⟩ := pv
          obtain ⟨rfl, hx⟩ := y
          obtain ⟨dx, hdx, hrx⟩ := pair_back pr hx
          refine ⟨rfl, ?_⟩
          refine yes_go ?_
          refine ⟨_, rfl, x, PP, dx, rfl, rep_ex e hrx, hk _ (List.mem_of_getElem? hdx), fun H3 v3 e3 hr3 => ⟨ys, e3 _ _ hys, ?_, Ex.mut (e.trans e3) hD, ys ++ [v3], upd_same, ?_⟩⟩
          · rw [← pair_len pys, List.length_take]; exact Evl.sz_lt (by omega)
          · rw [take_snoc hdx]
            refine pair_snoc (pair_imp pys fun a b h => rep_upd (e3 _ _ hys) (fun _ z => nomatch z) (fun b z => z.2) (rep_ex e3 h)) (rep_upd (e3 _ _ hys) (fun _ z => nomatch z) (fun b z => z.2) (rep_S (fun b hb => ⟨Evl.fresh_back e hb, fun z => by rw [z, hys] at hb; cases hb⟩) hr3))
        · obtain ⟨e, ys, hys, pys⟩ := pv
          rw [← pair_len pr, List.take_of_length_le (Nat.le_refl _)] at pys
          exact q H' Dl ys hD e hys pys
      have leaf : ∀ {H1 : Hp}, Ex H H1 → (∀ l, d ≠ .lst l) → (∀ l, d ≠ .tup l) → (∀ l, d ≠ .dic l) → Q v H1 := fun {H1} e1 a b c => by
        refine k H1 v e1 ?_
        cases d with
        | lst l => exact absurd rfl (a l)
        | tup l => exact absurd rfl (b l)
        | dic l => exact absurd rfl (c l)
        | non => exact hv
        | bl b => exact hv
        | int i => exact hv
        | str s => exact hv
      have skip1 : (∀ l, d ≠ .lst l) → kitB (dT d) "list" = some false := fun a => by
        refine kit_list _ ?_
        cases d with
        | lst l => exact absurd rfl (a l)
        | _ => simp [dT]
      have skip2 : (∀ l, d ≠ .tup l) → kitB (dT d) "tuple" = some false := fun a => by
        refine kit_tuple _ ?_
        cases d with
        | tup l => exact absurd rfl (a l)
        | _ => simp [dT]
      have skip3 : (∀ l, d ≠ .dic l) → kitB (dT d) "dict" = some false := fun a => by
        refine kit_dict _ ?_
        cases d with
        | dic l => exact absurd rfl (a l)
        | _ => simp [dT]
      by_cases c1 : ∃ l, d = .lst l
      · obtain ⟨l, rfl⟩ := c1
        obtain ⟨a, xs, rfl, _, ha, l5, pr⟩ := id hv
        refine Evl.q_when (b := true) (Evl.et_B (ev_kind (d := .lst l) true (Evl.ev_var rfl) hv (show kitB "list" "list" = some true by decide +kernel))) (fun _ H1 e1 => ?_) (fun h => nomatch h)
        have hv1 := pair_imp pr fun a b h => rep_ex e1 h
        refine ⟨_, rfl, a, rfl, ⟨_, Evl.sq_of (e1 _ _ ha)⟩, kidL (walk_list.mono (fun H' e => Evl.sq_of (e _ _ (e1 _ _ ha))) fun i H v H' _ _ y => y) (by rw [← pair_len pr]; exact l5) hv1 hkn fun H' Dl ys hD e hys pys => ?_⟩
        exact k H' _ (e1.trans e) ⟨Dl, ys, rfl, Evl.fresh_back e1 hD, hys, l5, pair_imp pys fun a b h => rep_S (fun b hb => Evl.fresh_back e1 hb.1) h⟩
      have c1 : ∀ l, d ≠ .lst l := fun l e => c1 ⟨l, e⟩
      refine Evl.q_when (b := false) (Evl.et_B (ev_kind false (Evl.ev_var rfl) hv (skip1 c1))) (fun h => nomatch h) fun _ H1 e1 => ?_
      have hv1 := rep_ex e1 hv
      by_cases c2 : ∃ l, d = .tup l
      · obtain ⟨l, rfl⟩ := c2
        exact (show False from hkn).elim
      have c2 : ∀ l, d ≠ .tup l := fun l e => c2 ⟨l, e⟩
      refine Evl.q_when (b := false) (Evl.et_B (ev_kind false (Evl.ev_var rfl) hv1 (skip2 c2))) (fun h => nomatch h) fun _ H2 e2 => ?_
      have hv2 := rep_ex e2 hv1
      have e12 := e1.trans e2
      by_cases c3 : ∃ l, d = .dic l
      · obtain ⟨l, rfl⟩ := c3
        obtain ⟨a, es, rfl, _, ha, l5, pr⟩ := id hv2
        have ekeys := pair_keys pr
        have le := pair_len pr
        refine Evl.q_when (b := true) (Evl.et_B (ev_kind (d := .dic l) true (Evl.ev_var rfl) hv2 (show kitB "dict" "dict" = some true by decide +kernel))) (fun _ H3 e3 => ?_) (fun h => nomatch h)
        have ha3 := e3 _ _ ha
        have e13 := e12.trans e3
        refine ⟨a, .dK es, ha3, trivial, fun od => ⟨_, rfl, a, od, es, rfl, upd_same, fun Dl hD => ?_⟩⟩
        have nDa : Dl ≠ a := fun e => by rw [e, upd_same] at hD; cases hD
        have hD3 : H3 Dl = none := by rw [upd_ne nDa] at hD; exact hD
        refine dc_it walk_items (vs := [2, 1]) (fun i H' => ∃ es' : List (Key × V), Ex (upd H3 a (.frz od (.dK es))) H' ∧ H' Dl = some (.dK es') ∧ Paired (fun (q : Str × D) (e : Key × V) => e.1 = Sum.inr q.1 ∧ Rep H' n (fun b => H3 b = none ∧ b ≠ Dl) q.2 e.2) (l.take i) es') ⟨[], Ex.new hD, upd_same, .nil⟩ (fun i H' _ ⟨_, e, _⟩ => e _ _ upd_same) (fun i x H0 H' hlt pv y => ?_) fun H' pv => ?_
        · obtain ⟨es', e, h1', pes⟩ := pv
          obtain ⟨Tq, x1, y1, rfl, nT, rfl, hx1, hy1⟩ := y
          obtain ⟨⟨kk, vj⟩, hkv, rfl⟩ := Option.map_eq_some_iff.mp hx1
          have hy1 : es[i]?.map Prod.snd = some y1 := hy1
          rw [hkv] at hy1
          cases hy1
          obtain ⟨⟨nm, dj⟩, hdj, hk, hrj⟩ := pair_back pr hkv
          have hk : kk = Sum.inr nm := hk
          subst hk
          have eT := Ex.new (o := .tup [kV (Sum.inr nm : Key), vj]) nT
          refine ⟨Tq, _, rfl, Evl.st_of upd_same, rfl, _, _, rfl, _, _, rfl, rfl, ?_⟩
          have hrj' := rep_ex eT (rep_in ha3 e (rep_ex e3 hrj))
          have e := e.trans eT
          have h1' := eT _ _ h1'
          have pes := pair_imp pes fun a b h => (⟨h.1, rep_ex eT h.2⟩ : _ ∧ _)
          generalize (upd H0 Tq (.tup [kV (Sum.inr nm : Key), vj])) = HT at e h1' pes hrj' ⊢
          refine ⟨rfl, yes_go ?_⟩
          refine ⟨_, rfl, _, rfl, vj, _, dj, rfl, hrj', hkn.2 _ (List.mem_of_getElem? hdj), fun H4 v4 e4 hr4 => ?_⟩
          have nv : valV es' (Sum.inr nm : Key) = none := vV_no (by rw [pair_keys pes, List.map_take]; exact inr_not (not_take hkn.1 (by rw [List.getElem?_map, hdj]; rfl)))
          refine ⟨es', Sum.inr nm, rfl, e4 _ _ h1', ?_, es' ++ [(Sum.inr nm, v4)], Ex.mut (e.trans e4) hD, by rw [upd_same, putK_new _ nv], ?_⟩
          · rw [← pair_len pes, List.length_take]; exact Evl.sz_lt (by omega)
          · rw [take_snoc hdj]
            have back : ∀ b, HT b = none → H3 b = none := fun b hb => by
              have := Evl.fresh_back e hb
              by_cases z : b = a
              · rw [z, upd_same] at this; cases this
              · rw [upd_ne z] at this; exact this
            exact pair_snoc (pair_imp pes fun a b h => ⟨h.1, rep_upd (e4 _ _ h1') (fun _ z => nomatch z) (fun b z => z.2) (rep_ex e4 h.2)⟩) ⟨rfl, rep_upd (e4 _ _ h1') (fun _ z => nomatch z) (fun b z => z.2) (rep_S (fun b hb => ⟨back b hb, fun z => by rw [z, h1'] at hb; cases hb⟩) hr4)⟩
        · obtain ⟨es', e, h1', pes⟩ := pv
          rw [← le, List.take_of_length_le (Nat.le_refl _)] at pes
          have eu : Ex H3 (upd H' a (.dK es)) := unlock ha3 e
          refine ⟨e _ _ upd_same, k _ _ (e13.trans eu) ⟨Dl, es', rfl, Evl.fresh_back e13 hD3, by rw [upd_ne nDa]; exact h1', l5, pair_imp pes fun x en h => ⟨h.1, ?_⟩⟩⟩
          refine rep_S (fun b hb => ⟨Evl.fresh_back e13 hb.1, hb.2⟩) (rep_upd (e _ _ upd_same) (fun _ z => nomatch z) (fun b z ez => ?_) h.2)
          rw [ez] at z
          rw [ha3] at z
          exact nomatch z.1
      have c3 : ∀ l, d ≠ .dic l := fun l e => c3 ⟨l, e⟩
      refine Evl.q_when (b := false) (Evl.et_B (ev_kind false (Evl.ev_var rfl) hv2 (skip3 c3))) (fun h => nomatch h) fun _ H3 e3 => Evl.s_ret (Evl.ev_var rfl) fun H4 e4 => leaf (e12.trans (e3.trans e4)) c1 c2 c3
end
end Pk

namespace Pk
open PySem PySem.Spec PyProof.Rows L2 Ssb
open Evl (Ex Ev EvT EvL EvA EvU)
def forms : List (Str × Int) := [("append", 3), ("cut", 2), ("insert", 4), ("remove", 3), ("move", 4), ("field", 5), ("flag", 2)]
def isS (s : Str) : D → Bool
  | .str t => decide (t = s)
  | _ => false
theorem isS_iff {s : Str} {d : D} : isS s d = true ↔ d = .str s := by
  cases d with
  | str t => show decide (t = s) = true ↔ _; rw [decide_eq_true_eq]; simp
  | _ => simp [isS]
def hasF : D → Bool
  | .tup (d :: l) => forms.any fun p => isS p.1 d && decide (p.2 = ((l.length + 1 : Nat) : Int))
  | _ => false
theorem rep_str {H : Hp} {n : Nat} {S : Addr → Prop} {d : D} {v : V} (h : Rep H (n + 1) S d v) (s : Str) : v = .str s ↔ d = .str s := by
  cases d with
  | non => have e : v = .non := h; subst e; simp
  | bl b => have e : v = .bl b := h; subst e; simp
  | int i => have e : v = .int i := h; subst e; simp
  | str s => have e : v = .str s := h; subst e; simp
  | lst l => obtain ⟨a, xs, rfl, _⟩ := h; simp
  | tup l => obtain ⟨a, xs, rfl, _⟩ := h; simp
  | dic l => obtain ⟨a, xs, rfl, _⟩ := h; simp
theorem rep_kd {H : Hp} {n : Nat} {S : Addr → Prop} {d : D} {v : V} (h : Rep H (n + 1) S d v) : Kd H v := by
  cases d with
  | non => have e : v = .non := h; subst e; exact .flat rfl
  | bl b => have e : v = .bl b := h; subst e; exact .flat rfl
  | int i => have e : v = .int i := h; subst e; exact .flat rfl
  | str s => have e : v = .str s := h; subst e; exact .flat rfl
  | lst l => obtain ⟨a, xs, rfl, _, ha, _⟩ := h; exact .lst ha
  | tup l => obtain ⟨a, xs, rfl, ha, _⟩ := h; exact .tup ha
  | dic l => obtain ⟨a, xs, rfl, _, ha, _⟩ := h; exact .dic ha
theorem u65 {k : Nat} {A : Around} (r : Room k A) : A.units + 65 < cLine := by have := r.un; omega
section
variable {P : Program} {w : World} {K : PySem.W.Frag} {mg : Str → Option Value} {base : Heap} {C_Shape C_LimitExceeded C_InvalidDeed C_StayError C_FORMS : Addr}
def spHasF (K : PySem.W.Frag) (C : Addr) : Sp := fun vs H Q _ => ∃ (v : V) (n : Nat) (S : Addr → Prop) (d : D), vs = [v, .ref C] ∧ Rep H (n + 2) S d v ∧ ∀ H', Ex H H' → Q (.bl (hasF d)) H'
theorem ok_has_form (T : Txt K mg C_Shape C_LimitExceeded C_InvalidDeed C_StayError C_FORMS) (R : Prg K mg C_Shape C_LimitExceeded C_InvalidDeed C_StayError C_FORMS) : ∃ f fd, Fn P w K mg base "has_form" 1 ["value", "forms"] (spHasF K C_FORMS) f fd := by
  obtain ⟨f, fd, at_, F, kp⟩ := R.has_form
  refine ⟨f, fd, F.ok sc_has_form (fun vs H Q E h => ?_) (fun cdv A outer s H vs Q E hr h => ?_), at_, kp, F.binds (fun _ _ _ _ _ _ us hl => match us, hl with | [_, _], _ => rfl)⟩
  · obtain ⟨v, n, S, d, rfl, _⟩ := h; rfl
  · obtain ⟨v, n, S, d, rfl, hv, k⟩ := h
    refine ⟨_, (pss_one (ps_ret (pe_and (pe_callB (r := rIsi K) call_isi (by rfl) T.isinstance (by decide +kernel) (pa_cons (pv 0) (pa_cons (pe_bltn (v := .ty "tuple") (by rfl) T.tuple boot_tuple rfl) pa_nil))) (pe_and (pe_cmpR op_gt (pe_callB (r := rLenA K) call_len (by rfl) T.len (by decide +kernel) (pa_cons (pv 0) pa_nil)) pe_int (nomark _)) (pe_one (pe_cmpR (r := rInF K) (op_inF (u65 hr)) (pe_tup (pa_cons (pe_ix (r := rIxT K) ix_tup (pv 0) pe_int (fun _ _ => rfl)) (pa_cons (pe_callB (r := rLenA K) call_len (by rfl) T.len (by decide +kernel) (pa_cons (pv 0) pa_nil)) pa_nil))) (pv 1) (by rfl))))))), ?_⟩
    have no : kitB (dT d) "tuple" = some false → hasF d = false → _ := fun hk e =>
      Evl.s_ret (D := { nx := fun x H' => Q V.non H', rt := Q }) (σ := [some v, some (.ref C_FORMS)]) (H := H) (te := tAndV (tCB (rIsi K) (tCons (tVar 0) (tCons (tC (.ty "tuple")) tNil))) (tAndV (tOp (rI0 fun i j => .bl (decide (i > j))) (tCB (rLenA K) (tCons (tVar 0) tNil)) (tC (.int 0))) (tOp (rInF K) (tTup (tCons (tOp (rIxT K) (tVar 0) (tC (.int 0))) (tCons (tCB (rLenA K) (tCons (tVar 0) tNil)) tNil))) (tVar 1)))) (v := .bl false) (Evl.ev_is (Evl.ev_andV (a := false) (b := true) (ev_kind false (Evl.ev_var rfl) hv hk) fun h => nomatch h) rfl) fun H1 e1 => by have := k H1 e1; rw [e] at this; exact this
    cases d with
    | non => exact no (by show kitB "NoneType" "tuple" = _; decide +kernel) rfl
    | bl b => exact no (by show kitB "bool" "tuple" = _; decide +kernel) rfl
    | int i => exact no (by show kitB "int" "tuple" = _; decide +kernel) rfl
    | str s => exact no (by show kitB "str" "tuple" = _; decide +kernel) rfl
    | lst l => exact no (by show kitB "list" "tuple" = _; decide +kernel) rfl
    | dic l => exact no (by show kitB "dict" "tuple" = _; decide +kernel) rfl
    | tup l =>
      obtain ⟨a, xs, rfl, ha, l5, pr⟩ := id hv
      have lx := pair_len pr
      cases pr with
      | nil =>
        exact Evl.s_ret (v := .bl false) (Evl.ev_is (Evl.ev_andV (a := true) (b := false) (ev_kind true (Evl.ev_var rfl) hv (by show kitB "tuple" "tuple" = _; decide +kernel)) fun _ => Evl.ev_is (Evl.ev_andV (a := false) (b := true) (Evl.ev_is (Evl.ev_op (ev_lenL (Evl.ev_var rfl) (.inr (Evl.st_of ha))) Evl.ev_c Evl.rv_I0) rfl) fun h => nomatch h) rfl) rfl) fun H1 e1 => k H1 e1
      | @cons d x l xs hx pr =>
        obtain ⟨cs, hc, pc⟩ := TupK.forms (fs := forms) T.tu_FORMS
        refine Evl.s_ret (v := .bl (hasF (.tup (d :: l)))) (Evl.ev_is (Evl.ev_andV (a := true) (b := hasF (.tup (d :: l))) (ev_kind true (Evl.ev_var rfl) hv (by show kitB "tuple" "tuple" = _; decide +kernel)) fun _ => Evl.ev_is (Evl.ev_andV (a := true) (b := hasF (.tup (d :: l))) (Evl.ev_is (Evl.ev_op (ev_lenL (Evl.ev_var rfl) (.inr (Evl.st_of ha))) Evl.ev_c Evl.rv_I0) (by rw [decide_eq_true (by simp only [List.length_cons]; omega)])) fun _ => ?_) rfl) rfl) fun H1 e1 => k H1 e1
        intro H1 e1 Q1 q1
        refine Evl.eu_tup (σ := [some (.ref a), some (.ref C_FORMS)]) (vs := [x, .int ((x :: xs).length : Int)]) (Evl.ea_cons (Evl.ev_op (Evl.ev_var rfl) Evl.ev_c (Evl.rv_ixT (Evl.st_of ha) (atI_nat (j := 0) rfl))) (Evl.ea_cons (ev_lenL (Evl.ev_var rfl) (.inr (Evl.st_of ha))) Evl.ea_nil)) (by show 2 ≤ 100000; decide) H1 e1 _ fun p H2 np e2 hp => ?_
        refine ⟨_, rfl, p, x, ((x :: xs).length : Int), C_FORMS, cs, forms, rfl, hp, rep_kd (rep_ex (e1.trans e2) hx), rfl, hc, pc, ?_⟩
        have : (forms.any fun p => decide (x = .str p.1) && decide (p.2 = (((x :: xs).length : Nat) : Int))) = hasF (.tup (d :: l)) := by
          unfold hasF
          congr 1
          funext p
          have e1 : decide (x = .str p.1) = isS p.1 d := by rw [Bool.eq_iff_iff, decide_eq_true_eq, isS_iff]; exact rep_str hx p.1
          rw [e1, ← lx]; rfl
        rw [this]
        exact q1 H2 e2
end
/-- one form of the module -/
theorem form_mk {K : PySem.W.Frag} {b : Addr} {s : Str} {i : Int} {k t : Tok} {d : Option Addr} {n : Nat} {l : Array (Option Value)} (h : K.lookup b = some ⟨.type "tuple", d, .seq #[.str s k, .int i t] n, l⟩) : RepK K 3 (.tup [.str s, .int i]) (.ref b) :=
  ⟨_, [.str _, .int _], rfl, ⟨_, _, _, h, rfl, rfl, by show 2 ≤ sizeLine; decide, .cons ⟨_, rfl⟩ (.cons ⟨_, rfl⟩ .nil)⟩, .cons rfl (.cons rfl .nil)⟩
theorem tup_mk7 {K : PySem.W.Frag} {a a1 a2 a3 a4 a5 a6 a7 : Addr} {D1 D2 D3 D4 D5 D6 D7 : D} {d0 : Option Addr} {n0 : Nat} {l0 : Array (Option Value)}
    (h0 : K.lookup a = some ⟨.type "tuple", d0, .seq #[.ref a1, .ref a2, .ref a3, .ref a4, .ref a5, .ref a6, .ref a7] n0, l0⟩)
    (h1 : RepK K 3 D1 (.ref a1)) (h2 : RepK K 3 D2 (.ref a2)) (h3 : RepK K 3 D3 (.ref a3)) (h4 : RepK K 3 D4 (.ref a4)) (h5 : RepK K 3 D5 (.ref a5)) (h6 : RepK K 3 D6 (.ref a6)) (h7 : RepK K 3 D7 (.ref a7)) : TupK K a [D1, D2, D3, D4, D5, D6, D7] :=
  ⟨[.ref a1, .ref a2, .ref a3, .ref a4, .ref a5, .ref a6, .ref a7], ⟨_, _, _, h0, rfl, rfl, by show 7 ≤ sizeLine; decide, .cons rfl (.cons rfl (.cons rfl (.cons rfl (.cons rfl (.cons rfl (.cons rfl .nil))))))⟩, .cons h1 (.cons h2 (.cons h3 (.cons h4 (.cons h5 (.cons h6 (.cons h7 .nil))))))⟩
end Pk

namespace Pk
open PySem PySem.Spec PyProof.Rows L2 Ssb
open Evl (Ex Ev EvT EvL EvA EvU)
/-! ### indexes of a deed -/
def FitsIx (xs : List V) (many : Int) : Prop :=
  (∃ w r, xs = [.str "append", w, r]) ∨ (∃ w, xs = [.str "cut", w] ∧ 0 < many) ∨ (∃ w r, ∃ i : Int, xs = [.str "insert", w, .int i, r] ∧ 0 ≤ i ∧ i ≤ many) ∨
  (∃ w, ∃ i : Int, xs = [.str "remove", w, .int i] ∧ 0 ≤ i ∧ i ≤ many - 1) ∨ (∃ w, ∃ i j : Int, xs = [.str "move", w, .int i, .int j] ∧ 0 ≤ i ∧ i ≤ many - 1 ∧ 0 ≤ j ∧ j ≤ many - 1)
section
variable {P : Program} {w : World} {K : PySem.W.Frag} {mg : Str → Option Value} {base : Heap} {C_Shape C_LimitExceeded C_InvalidDeed C_StayError C_FORMS : Addr}
def spIF : Sp := fun vs H Q _ => ∃ (t : Addr) (xs : List V) (many : Int), vs = [.ref t, .int many] ∧ H t = some (.tup xs) ∧ FitsIx xs many ∧ ∀ H', Ex H H' → Q (.bl true) H'
theorem ok_indexes_fit (T : Txt K mg C_Shape C_LimitExceeded C_InvalidDeed C_StayError C_FORMS) (R : Prg K mg C_Shape C_LimitExceeded C_InvalidDeed C_StayError C_FORMS) : ∃ f fd, Fn P w K mg base "indexes_fit" 2 ["deed", "many"] spIF f fd := by
  obtain ⟨_, _, G_is_integer⟩ := ok_is_integer (P := P) (w := w) (base := base) T R
  obtain ⟨f, fd, at_, F, kp⟩ := R.indexes_fit
  refine ⟨f, fd, F.ok sc_indexes_fit (fun vs H Q E h => ?_) (fun cdv A outer s H vs Q E hr h => ?_), at_, kp, F.binds (fun _ _ _ _ _ _ us hl => match us, hl with | [_, _], _ => rfl)⟩
  · obtain ⟨t, xs, many, rfl, _⟩ := h; rfl
  · obtain ⟨t, xs, many, rfl, ht, hx, k⟩ := h
    refine ⟨_, (pss_cons (ps_if (pt_cmpR op_eq (pe_ix (r := rIxT K) ix_tup (pv 0) pe_int (fun _ _ => rfl)) pe_str (nomark _)) (pss_one (ps_ret pe_bl)) pss_nil)
  (pss_cons (ps_if (pt_cmpR op_eq (pe_ix (r := rIxT K) ix_tup (pv 0) pe_int (fun _ _ => rfl)) pe_str (nomark _)) (pss_one (ps_ret (pe_cmpR op_gt (pv 1) pe_int (nomark _)))) pss_nil)
  (pss_cons (ps_if (pt_cmpR op_eq (pe_ix (r := rIxT K) ix_tup (pv 0) pe_int (fun _ _ => rfl)) pe_str (nomark _)) (pss_one (ps_ret (pcl G_is_integer hr (pa_cons (pe_ix (r := rIxT K) ix_tup (pv 0) pe_int (fun _ _ => rfl)) (pa_cons pe_int (pa_cons (pv 1) pa_nil)))))) pss_nil)
  (pss_cons (ps_if (PW.pt (pw_and (pt_cmpR op_eq (pe_ix (r := rIxT K) ix_tup (pv 0) pe_int (fun _ _ => rfl)) pe_str (nomark _)) (pw_and1 (pt_not (pt_val (pcl G_is_integer hr (pa_cons (pe_ix (r := rIxT K) ix_tup (pv 0) pe_int (fun _ _ => rfl)) (pa_cons pe_int (pa_cons (pe_op op_sub (pv 1) pe_int) pa_nil))))))))) pss_never pss_nil)
  (pss_one (ps_ret (pcl G_is_integer hr (pa_cons (pe_ix (r := rIxT K) ix_tup (pv 0) pe_int (fun _ _ => rfl)) (pa_cons pe_int (pa_cons (pe_op op_sub (pv 1) pe_int) pa_nil)))))))))), ?_⟩
    have ix : ∀ {j : Nat} {z : V} {H3 : Hp}, Ex H H3 → xs[j]? = some z → Ev (tOp (rIxT K) (tVar 0) (tC (.int (j : Int)))) [some (.ref t), some (.int many)] H3 z := fun e3 hz => Evl.ev_op (Evl.ev_var rfl) Evl.ev_c (Evl.rv_ixT (Evl.st_of (e3 _ _ ht)) (atI_nat hz))
    have is : ∀ {H3 : Hp} {a b : String} (r : Bool), Ex H H3 → xs[0]? = some (.str a) → decide (V.str a = V.str b) = r → EvT (tTest (tOp rEq (tOp (rIxT K) (tVar 0) (tC (.int 0))) (tC (.str b)))) [some (.ref t), some (.int many)] H3 r := fun r e3 h0 hr => Evl.et_is (Evl.et_test (Evl.ev_op (ix (j := 0) e3 h0) Evl.ev_c (Evl.rv_eq rfl))) hr
    rcases hx with ⟨w, r, rfl⟩ | ⟨w, rfl, h1⟩ | ⟨w, r, i, rfl, h1, h2⟩ | ⟨w, i, rfl, h1, h2⟩ | ⟨w, i, j, rfl, h1, h2, h3, h4⟩
    · refine Evl.q_when (is (a := "append") (b := "append") true (Ex.refl _) rfl (by decide)) (fun _ H1 e1 => Evl.s_ret Evl.ev_c fun H2 e2 => k H2 (e1.trans e2)) (fun h => nomatch h)
    · refine Evl.q_when (is (a := "cut") (b := "append") false (Ex.refl _) rfl (by decide)) (fun h => nomatch h) (fun _ H1 e1 => ?_)
      refine Evl.q_when (is (a := "cut") (b := "cut") true e1 rfl (by decide)) (fun _ H2 e2 => ?_) (fun h => nomatch h)
      exact Evl.s_ret (v := .bl true) (Evl.ev_is (Evl.ev_op (Evl.ev_var rfl) Evl.ev_c Evl.rv_I0) (by rw [decide_eq_true h1])) fun H3 e3 => k H3 ((e1.trans e2).trans e3)
    · refine Evl.q_when (is (a := "insert") (b := "append") false (Ex.refl _) rfl (by decide)) (fun h => nomatch h) (fun _ H1 e1 => ?_)
      refine Evl.q_when (is (a := "insert") (b := "cut") false e1 rfl (by decide)) (fun h => nomatch h) (fun _ H2 e2 => ?_)
      have e02 := e1.trans e2
      refine Evl.q_when (is (a := "insert") (b := "insert") true e02 rfl (by decide)) (fun _ H3 e3 => ?_) (fun h => nomatch h)
      have e03 := e02.trans e3
      exact Evl.s_ret (spV_ev (Evl.ea_cons (ix (j := 2) e03 rfl) (Evl.ea_cons Evl.ev_c (Evl.ea_cons (Evl.ev_var rfl) Evl.ea_nil))) fun H4 _ => ⟨i, 0, many, rfl, h1, h2⟩) fun H4 e4 => k H4 (e03.trans e4)
    · refine Evl.q_when (is (a := "remove") (b := "append") false (Ex.refl _) rfl (by decide)) (fun h => nomatch h) (fun _ H1 e1 => ?_)
      refine Evl.q_when (is (a := "remove") (b := "cut") false e1 rfl (by decide)) (fun h => nomatch h) (fun _ H2 e2 => ?_)
      have e02 := e1.trans e2
      refine Evl.q_when (is (a := "remove") (b := "insert") false e02 rfl (by decide)) (fun h => nomatch h) (fun _ H3 e3 => ?_)
      have e03 := e02.trans e3
      refine Evl.q_when (b := false && true) (Evl.et_and (a := false) (b := true) (is (a := "remove") (b := "move") false e03 rfl (by decide)) fun h => nomatch h) (fun h => nomatch h) (fun _ H4 e4 => ?_)
      have e04 := e03.trans e4
      exact Evl.s_ret (spV_ev (Evl.ea_cons (ix (j := 2) e04 rfl) (Evl.ea_cons Evl.ev_c (Evl.ea_cons (Evl.ev_op (Evl.ev_var rfl) Evl.ev_c Evl.rv_I0) Evl.ea_nil))) fun H5 _ => ⟨i, 0, many - 1, rfl, h1, h2⟩) fun H5 e5 => k H5 (e04.trans e5)
    · refine Evl.q_when (is (a := "move") (b := "append") false (Ex.refl _) rfl (by decide)) (fun h => nomatch h) (fun _ H1 e1 => ?_)
      refine Evl.q_when (is (a := "move") (b := "cut") false e1 rfl (by decide)) (fun h => nomatch h) (fun _ H2 e2 => ?_)
      have e02 := e1.trans e2
      refine Evl.q_when (is (a := "move") (b := "insert") false e02 rfl (by decide)) (fun h => nomatch h) (fun _ H3 e3 => ?_)
      have e03 := e02.trans e3
      refine Evl.q_when (b := true && !true) (Evl.et_and (is (a := "move") (b := "move") true e03 rfl (by decide)) fun _ => Evl.et_not (Evl.et_B (spV_ev (Evl.ea_cons (ix (j := 3) e03 rfl) (Evl.ea_cons Evl.ev_c (Evl.ea_cons (Evl.ev_op (Evl.ev_var rfl) Evl.ev_c Evl.rv_I0) Evl.ea_nil))) fun H5 _ => ⟨j, 0, many - 1, rfl, h3, h4⟩))) (fun h => nomatch h) (fun _ H4 e4 => ?_)
      have e04 := e03.trans e4
      exact Evl.s_ret (spV_ev (Evl.ea_cons (ix (j := 2) e04 rfl) (Evl.ea_cons Evl.ev_c (Evl.ea_cons (Evl.ev_op (Evl.ev_var rfl) Evl.ev_c Evl.rv_I0) Evl.ea_nil))) fun H5 _ => ⟨i, 0, many - 1, rfl, h1, h2⟩) fun H5 e5 => k H5 (e04.trans e5)
end
end Pk

namespace Pk
open PySem PySem.Spec PyProof.Rows L2 Ssb
open Evl (Ex Ev EvT EvL EvA EvU)
/-! ### the list that a deed speaks of -/
/-- where a deed is: a list, or a list within a row -/
def AtW (s : Sh) (ls : List (Str × D)) (xs : List V) (nm : Str) : Prop :=
  (xs = [.str nm] ∧ nm ∈ kids s none) ∨
  ∃ (n1 : Str) (id : Int) (rs : List D) (ids : List Int), xs = [.str n1, .int id, .str nm] ∧ n1 ∈ kids s none ∧ nm ∈ kids s (some n1) ∧ ls.lookup n1 = some (.lst rs) ∧ rs.length ≤ 400 ∧ Paired (fun (row : D) (i : Int) => ∃ l, row = .dic l ∧ l.lookup ("id" : Str) = some (.int i)) rs ids ∧ id ∈ ids ∧ 0 ≤ id ∧ id ≤ 1000000
theorem inV_str {x : Str} {ys : List Str} : inV (.str x) (ys.map V.str) = decide (x ∈ ys) := by
  induction ys with
  | nil => rfl
  | cons y ys ih =>
    show (eqV (.str y) (.str x) || inV (.str x) (ys.map V.str)) = _
    rw [ih]
    show ((y == x) || decide (x ∈ ys)) = _
    rw [Bool.eq_iff_iff, Bool.or_eq_true, beq_iff_eq, decide_eq_true_eq, decide_eq_true_eq, List.mem_cons]
    exact or_congr eq_comm Iff.rfl
theorem inV_int {x : Int} {ys : List Int} : inV (.int x) (ys.map V.int) = decide (x ∈ ys) := by
  induction ys with
  | nil => rfl
  | cons y ys ih =>
    show (eqV (.int y) (.int x) || inV (.int x) (ys.map V.int)) = _
    rw [ih]
    show ((y == x) || decide (x ∈ ys)) = _
    rw [Bool.eq_iff_iff, Bool.or_eq_true, beq_iff_eq, decide_eq_true_eq, decide_eq_true_eq, List.mem_cons]
    exact or_congr eq_comm Iff.rfl
theorem all_flat_str (ys : List Str) : (ys.map V.str).all flatV = true := by
  rw [List.all_map]; exact List.all_eq_true.mpr fun _ _ => rfl
theorem rep_succ {H : Hp} {n : Nat} {S : Addr → Prop} {d : D} {v : V} (h : Rep H n S d v) : ∃ m, n = m + 1 := by
  cases n with
  | zero => exact h.elim
  | succ m => exact ⟨m, rfl⟩
section
variable {P : Program} {w : World} {K : PySem.W.Frag} {mg : Str → Option Value} {base : Heap} {C_Shape C_LimitExceeded C_InvalidDeed C_StayError C_FORMS : Addr}
def spLA (C : Addr) : Sp := fun vs H Q _ => ∃ (p t : Addr) (v : V) (n : Nat) (S S' : Addr → Prop) (fl : List Str) (s : Sh) (l ls : List (Str × D)) (xs : List V) (nm : Str), vs = [.ref p, v, .ref t] ∧ ShapeAt C H p fl s S' ∧ okSh s ∧ Rep H n S (.dic l) v ∧ l.lookup ("lists" : Str) = some (.dic ls) ∧ H t = some (.tup xs) ∧ AtW s ls xs nm ∧ ∀ H', Ex H H' → Q (.str nm) H'
theorem ok_list_at (T : Txt K mg C_Shape C_LimitExceeded C_InvalidDeed C_StayError C_FORMS) (R : Prg K mg C_Shape C_LimitExceeded C_InvalidDeed C_StayError C_FORMS) : ∃ f fd, Fn P w K mg base "list_at" 5 ["shape", "data", "where"] (spLA C_Shape) f fd := by
  obtain ⟨_, _, G_is_integer⟩ := ok_is_integer (P := P) (w := w) (base := base) T R
  obtain ⟨_, _, G_Shape_outer⟩ := ok_Shape_outer (P := P) (w := w) (base := base) T R
  obtain ⟨_, _, G_Shape_inner⟩ := ok_Shape_inner (P := P) (w := w) (base := base) T R
  obtain ⟨tG, gG⟩ := T.g_GREATEST_ID
  obtain ⟨f, fd, at_, F, kp⟩ := R.list_at
  refine ⟨f, fd, F.ok sc_list_at (fun vs H Q E h => ?_) (fun cdv A outer s H vs Q E hr h => ?_), at_, kp, F.binds (fun _ _ _ _ _ _ us hl => match us, hl with | [_, _, _], _ => rfl)⟩
  · obtain ⟨p, t, v, n, S, S', fl, s, l, ls, xs, nm, rfl, _⟩ := h; rfl
  · obtain ⟨p, t, v, n, S, S', fl, z, l, ls, xs, nm, rfl, hS, hz, hv, hls, ht, hat, k⟩ := h
    obtain ⟨dx, ft, tb, hp, _, _⟩ := id hS
    refine ⟨_, (pss_cons (ps_if (PW.pt (pw_or (pt_not (pt_val (pe_callB (r := rIsi K) call_isi (by rfl) T.isinstance (by decide +kernel) (pa_cons (pv 2) (pa_cons (pe_bltn (v := .ty "tuple") (by rfl) T.tuple boot_tuple rfl) pa_nil))))) (pw_or (pt_cmpR (r := rIn K true) op_notIn_seq (pe_callB (r := rLenA K) call_len (by rfl) T.len (by decide +kernel) (pa_cons (pv 2) pa_nil)) (pe_tup (pa_cons pe_int (pa_cons pe_int pa_nil))) (by rfl)) (pw_or1 (pt_cmpR (r := rIn K true) op_notIn_seq (pe_ix (r := rIxT K) ix_tup (pv 2) pe_int (fun _ _ => rfl)) (pmt0 (pv 0) T.cl_Shape G_Shape_outer hr) (by rfl)))))) pss_never pss_nil)
  (pss_cons (ps_if (pt_cmpR op_eq (pe_callB (r := rLenA K) call_len (by rfl) T.len (by decide +kernel) (pa_cons (pv 2) pa_nil)) pe_int (nomark _)) (pss_one (ps_ret (pe_ix (r := rIxT K) ix_tup (pv 2) pe_int (fun _ _ => rfl)))) pss_nil)
  (pss_cons (ps_if (PW.pt (pw_or (pt_not (pt_val (pcl G_is_integer hr (pa_cons (pe_ix (r := rIxT K) ix_tup (pv 2) pe_int (fun _ _ => rfl)) (pa_cons pe_int (pa_cons (pe_glob (v := .int 1000000) rfl gG ⟨_, rfl⟩) pa_nil)))))) (pw_or1 (pt_cmpR (r := rIn K true) op_notIn_seq (pe_ix (r := rIxT K) ix_tup (pv 2) pe_int (fun _ _ => rfl)) (pmt (pv 0) T.cl_Shape G_Shape_inner hr (pa_cons (pe_ix (r := rIxT K) ix_tup (pv 2) pe_int (fun _ _ => rfl)) pa_nil)) (by rfl))))) pss_never pss_nil)
  (pss_one (ps_ret (pe_ifExp (pt_cmpR (r := rIn K false) op_in_seq (pe_ix (r := rIxT K) ix_tup (pv 2) pe_int (fun _ _ => rfl)) (pe_lc (own := [("row", 3)]) rfl sc_list_at.nd (show PI _ _ _ (iList K _) from pi_list (pe_dget (hu_of hr) (pe_dget (hu_of hr) (pv 1) pe_str (fun _ _ => rfl)) (pe_ix (r := rIxT K) ix_tup (pv 2) pe_int (fun _ _ => rfl)) (fun _ _ => rfl))) (blkOk_by (own := [("row", 3)]) (N := ["shape", "data", "where", "row"]) (sc := defScope s_list_at) (by decide +kernel)) (fun _ _ _ _ _ => (pg_name (i := 3) sc_list_at.nd rfl (Or.inl rfl))) (fun _ _ _ _ _ => pts_nil) (fun _ _ _ _ _ => (pe_dget (hu_of hr) (pv 3) pe_str (fun _ _ => rfl)))) (by rfl)) (pe_ix (r := rIxT K) ix_tup (pv 2) pe_int (fun _ _ => rfl)) pe_non)))))), ?_⟩
    have ix : ∀ {j : Nat} {y : V} {H3 : Hp} {o : Option V}, Ex H H3 → xs[j]? = some y → Ev (tOp (rIxT K) (tVar 2) (tC (.int (j : Int)))) [some (.ref p), some v, some (.ref t), o] H3 y := fun e3 hy => Evl.ev_op (Evl.ev_var rfl) Evl.ev_c (Evl.rv_ixT (Evl.st_of (e3 _ _ ht)) (atI_nat hy))
    have len : ∀ {H1 : Hp} {o : Option V}, Ex H H1 → Ev (tCB (rLenA K) (tCons (tVar 2) tNil)) [some (.ref p), some v, some (.ref t), o] H1 (.int (xs.length : Int)) := fun e => ev_lenL (Evl.ev_var rfl) (.inr (Evl.st_of (e _ _ ht)))
    have isT : EvT (tNot (tB (tCB (rIsi K) (tCons (tVar 2) (tCons (tC (.ty "tuple")) tNil))))) [some (.ref p), some v, some (.ref t), none] H (!true) := Evl.et_not (Evl.et_B (ev_isi (ty := .type "tuple") (Evl.ev_var rfl) (fun H1 e1 => .base (.tup (e1 _ _ ht))) (kit_ty (by decide +kernel))))
    have few : ∀ {b : Bool}, (!inV (.int (xs.length : Int)) [.int 1, .int 3]) = b → EvT (tTest (tOp (rIn K true) (tCB (rLenA K) (tCons (tVar 2) tNil)) (tTup (tCons (tC (.int 1)) (tCons (tC (.int 3)) tNil))))) [some (.ref p), some v, some (.ref t), none] H b := fun hb =>
      Evl.et_is (Evl.et_test (Evl.ev_niU (len (Ex.refl _)) (Evl.eu_tup (Evl.ea_cons Evl.ev_c (Evl.ea_cons Evl.ev_c Evl.ea_nil)) (by show 2 ≤ 100000; decide)) rfl rfl)) hb
    rcases hat with ⟨rfl, hk⟩ | ⟨n1, id, rs, ids, rfl, hk1, hk2, hl1, l400, prs, hid, i0, i1⟩
    · refine Evl.q_when (b := !true || (false || false)) (Evl.et_or isT fun _ => Evl.et_or (few rfl) fun _ => ?_) (fun h => nomatch h) (fun _ H1 e1 => ?_)
      · refine Evl.et_test (Evl.ev_is (v := .bl (!decide (nm ∈ kids z none))) ?_ (by rw [decide_eq_true hk]; rfl))
        intro H1 e1 Q1 q1
        refine ix (j := 0) e1 rfl H1 (Ex.refl _) _ fun H2 e2 => ?_
        have e02 := e1.trans e2
        refine ⟨_, rfl, p, dx, _, rfl, e02 _ _ hp, shF_no _ _ (by decide +kernel) (by decide +kernel), p, fl, z, S', rfl, hS.ex e02, hz, fun H8 q8 nms e8 nq8 hq8 perm _ => ?_⟩
        refine ⟨q8, nms.map V.str, rfl, .inl (Evl.sq_of hq8), rfl, all_flat_str nms, ?_⟩
        rw [inV_str, show decide (nm ∈ nms) = decide (nm ∈ kids z none) by rw [Bool.eq_iff_iff, decide_eq_true_eq, decide_eq_true_eq]; exact perm.mem_iff]
        exact q1 H8 (e2.trans e8)
      · refine Evl.q_when (b := true) (Evl.et_is (Evl.et_test (Evl.ev_op (len e1) Evl.ev_c (Evl.rv_eq rfl))) (decide_eq_true rfl)) (fun _ H2 e2 => ?_) (fun h => nomatch h)
        exact Evl.s_ret (ix (j := 0) (e1.trans e2) rfl) fun H3 e3 => k H3 ((e1.trans e2).trans e3)
    · refine Evl.q_when (b := !true || (false || false)) (Evl.et_or isT fun _ => Evl.et_or (few rfl) fun _ => ?_) (fun h => nomatch h) (fun _ H1 e1 => ?_)
      · refine Evl.et_test (Evl.ev_is (v := .bl (!decide (n1 ∈ kids z none))) ?_ (by rw [decide_eq_true hk1]; rfl))
        intro H1 e1 Q1 q1
        refine ix (j := 0) e1 rfl H1 (Ex.refl _) _ fun H2 e2 => ?_
        have e02 := e1.trans e2
        refine ⟨_, rfl, p, dx, _, rfl, e02 _ _ hp, shF_no _ _ (by decide +kernel) (by decide +kernel), p, fl, z, S', rfl, hS.ex e02, hz, fun H8 q8 nms e8 nq8 hq8 perm _ => ?_⟩
        refine ⟨q8, nms.map V.str, rfl, .inl (Evl.sq_of hq8), rfl, all_flat_str nms, ?_⟩
        rw [inV_str, show decide (n1 ∈ nms) = decide (n1 ∈ kids z none) by rw [Bool.eq_iff_iff, decide_eq_true_eq, decide_eq_true_eq]; exact perm.mem_iff]
        exact q1 H8 (e2.trans e8)
      refine Evl.q_when (b := false) (Evl.et_is (Evl.et_test (Evl.ev_op (len e1) Evl.ev_c (Evl.rv_eq rfl))) (decide_eq_false (fun h => nomatch h))) (fun h => nomatch h) (fun _ H2 e2 => ?_)
      have e02 := e1.trans e2
      refine Evl.q_when (b := !true || false) (Evl.et_or (Evl.et_not (Evl.et_B (spV_ev (Evl.ea_cons (ix (j := 1) e02 rfl) (Evl.ea_cons Evl.ev_c (Evl.ea_cons Evl.ev_c Evl.ea_nil))) fun H3 _ => ⟨id, 0, 1000000, rfl, i0, i1⟩))) fun _ => ?_) (fun h => nomatch h) (fun _ H3 e3 => ?_)
      · refine Evl.et_test (Evl.ev_is (v := .bl (!decide (nm ∈ kids z (some n1)))) ?_ (by rw [decide_eq_true hk2]; rfl))
        intro H3 e3 Q3 q3
        have e03 := e02.trans e3
        refine ix (j := 2) e03 rfl H3 (Ex.refl _) _ fun H4 e4 => ?_
        have e04 := e03.trans e4
        refine ⟨_, rfl, p, dx, _, rfl, e04 _ _ hp, shF_no _ _ (by decide +kernel) (by decide +kernel), ?_⟩
        refine ix (j := 0) e04 rfl H4 (Ex.refl _) _ fun H5 e5 => ?_
        have e05 := e04.trans e5
        obtain ⟨r, hr1, _, hr2⟩ := kids_mem hk1
        refine ⟨p, fl, z, S', n1, rfl, hS.ex e05, hz, List.mem_map.mpr ⟨r, hr1, hr2⟩, fun H8 q8 nms e8 nq8 hq8 perm _ => ?_⟩
        refine ⟨q8, nms.map V.str, rfl, .inl (Evl.sq_of hq8), rfl, all_flat_str nms, ?_⟩
        rw [inV_str, show decide (nm ∈ nms) = decide (nm ∈ kids z (some n1)) by rw [Bool.eq_iff_iff, decide_eq_true_eq, decide_eq_true_eq]; exact perm.mem_iff]
        exact q3 H8 ((e4.trans e5).trans e8)
      · have e03 := e02.trans e3
        obtain ⟨n, rfl⟩ := rep_succ hv
        obtain ⟨dv, des, rfl, _, hdv, _, dpr⟩ := hv
        obtain ⟨vl, hvl, hrl⟩ := rep_entry dpr hls
        obtain ⟨n, rfl⟩ := rep_succ hrl
        obtain ⟨dl, les, rfl, _, hdl, _, lpr⟩ := hrl
        obtain ⟨vr, hvr, hrr⟩ := rep_entry lpr hl1
        obtain ⟨n, rfl⟩ := rep_succ hrr
        obtain ⟨c, zs, rfl, _, hc, _, rpr⟩ := hrr
        have lz := pair_len rpr
        have li := pair_len prs
        have lc : EvL (tLc (iList K (tDGet (tDGet (tVar 1) (tC (.str "lists"))) (tOp (rIxT K) (tVar 2) (tC (.int 0))))) (gName 3) tYes (tDGet (tVar 3) (tC (.str "id"))) [3]) [some (.ref p), some (.ref dv), some (.ref t), none] H3 ((List.range zs.length).map fun i => V.int (ids.getD i 0)) :=
          el_lcA (ev_get (ev_get (Evl.ev_var rfl) Evl.ev_c (.inl (e03 _ _ hdv)) hvl) (ix (j := 0) e03 rfl) (.inl (e03 _ _ hdl)) hvr) (Evl.sq_of (e03 _ _ hc)) (by omega) (fun _ => rfl) fun i x hx H4 e4 => by
            obtain ⟨row, hrow, hr⟩ := pair_back rpr hx
            obtain ⟨i', hi', lr, rfl, hlr⟩ := pair_at prs hrow
            obtain ⟨n, rfl⟩ := rep_succ hr
            obtain ⟨rd, res, rfl, _, hrd, _, rdp⟩ := hr
            obtain ⟨vi, hvi, hri⟩ := rep_entry rdp hlr
            obtain ⟨n, rfl⟩ := rep_succ hri
            have ei : vi = .int i' := hri
            subst ei
            have : ids.getD i 0 = i' := by rw [List.getD_eq_getElem?_getD, hi']; rfl
            rw [this]
            exact ev_get (Evl.ev_var rfl) Evl.ev_c (.inl ((e03.trans e4) _ _ hrd)) hvi
        rw [map_range (g := V.int) (l := ids) (by omega) fun i a ha => by rw [List.getD_eq_getElem?_getD, ha]; rfl] at lc
        refine Evl.s_ret (Evl.ev_if (b := true) (Evl.et_is (Evl.et_test (Evl.ev_opL (ix (j := 1) e03 rfl) lc fun q H4 hq e4 => Evl.rv_isL (Evl.sq_of hq) rfl (by rw [List.all_map]; exact List.all_eq_true.mpr fun _ _ => rfl))) (by rw [inV_int]; exact decide_eq_true hid)) (fun _ => ix (j := 2) e03 rfl) (fun h => nomatch h)) fun H4 e4 => k H4 (e03.trans e4)
end
end Pk

namespace Pk
open PySem PySem.Spec PyProof.Rows L2 Ssb
open Evl (Ex Ev EvT EvL EvA EvU)
def wfLs : Nat → List (Str × D) → Prop
  | 0, _ => False
  | m + 1, ls => ∀ p ∈ ls, ∃ rs, p.2 = .lst rs ∧ ∀ r ∈ rs, wfR m r
def cntN : Nat → List (Str × D) → Int
  | 0, _ => 0
  | m + 1, ls => (ls.map fun p => rowsL m p.2).sum
theorem wfR_ls {m : Nat} {r : D} (h : wfR m r) : ∃ l ls, r = .dic l ∧ l.lookup ("lists" : Str) = some (.dic ls) ∧ wfLs m ls ∧ rowsN m r = cntN m ls := by
  cases m with
  | zero => exact h.elim
  | succ m =>
    obtain ⟨l, ls, rfl, h1, h2⟩ := h
    exact ⟨l, ls, rfl, h1, h2, rowsN_eq h1⟩
section
variable {P : Program} {w : World} {K : PySem.W.Frag} {mg : Str → Option Value} {base : Heap} {C_Shape C_LimitExceeded C_InvalidDeed C_StayError C_FORMS : Addr}
def spCnt (m : Nat) : Sp := fun vs H Q _ => ∃ (v : V) (n : Nat) (P : Addr → Prop) (ls : List (Str × D)), vs = [v] ∧ Rep H n P (.dic ls) v ∧ (ls.map (·.1)).Nodup ∧ kn n (.dic ls) ∧ wfLs m ls ∧ ∀ H', Ex H H' → Q (.int (cntN m ls)) H'
theorem ok__law_row_count (T : Txt K mg C_Shape C_LimitExceeded C_InvalidDeed C_StayError C_FORMS) (R : Prg K mg C_Shape C_LimitExceeded C_InvalidDeed C_StayError C_FORMS) : ∀ m, ∃ f fd, Fn P w K mg base "_law_row_count" (m + 1) ["_law_lists"] (spCnt m) f fd
  | 0 => by
    obtain ⟨f, fd, at_, F, kp⟩ := R._law_row_count
    refine ⟨f, fd, F.ok sc__law_row_count (fun vs H Q E h => ?_) (fun cdv A outer s H vs Q E hr h => ?_), at_, kp, F.binds (fun _ _ _ _ _ _ us hl => match us, hl with | [_], _ => rfl)⟩
    · obtain ⟨v, n, P, ls, rfl, _⟩ := h; rfl
    · obtain ⟨v, n, P, ls, rfl, _, _, _, h, _⟩ := h; exact h.elim
  | m + 1 => by
    obtain ⟨_, _, G__law_row_count⟩ := ok__law_row_count T R m
    obtain ⟨f, fd, at_, F, kp⟩ := R._law_row_count
    refine ⟨f, fd, F.ok sc__law_row_count (fun vs H Q E h => ?_) (fun cdv A outer s H vs Q E hr h => ?_), at_, kp, F.binds (fun _ _ _ _ _ _ us hl => match us, hl with | [_], _ => rfl)⟩
    · obtain ⟨v, n, P, ls, rfl, _⟩ := h; rfl
    · obtain ⟨v, n, PP, ls, rfl, hv, lnd, hkn, hw, k⟩ := h
      cases n with
      | zero => exact hv.elim
      | succ n =>
      obtain ⟨d, es, rfl, _, hd, _, pr⟩ := id hv
      have le := pair_len pr
      have ekeys := pair_keys pr
      refine ⟨_, (pss_cons (ps_set (i := 1) sc__law_row_count.nd rfl (Or.inl rfl) pe_int)
  (pss_cons (ps_lock (ps_for PassesOwn.never rfl (pi_keys (pv 0)) (pg_name (i := 2) sc__law_row_count.nd rfl (Or.inl rfl))
    (pss_one (ps_for PassesOwn.never rfl (show PI _ _ _ (iList K _) from pi_list (pe_dget (hu_of hr) (pv 0) (pv 2) (fun _ _ => rfl))) (pg_name (i := 3) sc__law_row_count.nd rfl (Or.inl rfl))
    (pss_one (ps_set (i := 1) sc__law_row_count.nd rfl (Or.inl rfl) (pe_op op_add (pe_op op_add (pv 1) pe_int) (pcl G__law_row_count hr (pa_cons (pe_dget (hu_of hr) (pv 3) pe_str (fun _ _ => rfl)) pa_nil)))))))))
  (pss_one (ps_ret (pv 1))))), ?_⟩
      refine Evl.q_asg Evl.ev_c fun H1 e1 => ?_
      have hd1 := e1 _ _ hd
      refine for_lock (J := fun od => Itk d od es) (xs := fun _ => none) hd1 (fun od R r => ⟨_, rfl, d, od, rfl, .inl ⟨es, upd_same, r⟩⟩) (fun od => walk_keys) (fun od j σ' H' => ∃ (t : Int) (o2 o3 : Option V), σ' = [some (.ref d), some (.int t), o2, o3] ∧ Ex (upd H1 d (.frz od (.dK es))) H' ∧ t = ((ls.take j).map fun p => rowsL m p.2).sum)
        (fun od => ⟨0, _, _, rfl, Ex.refl _, rfl⟩) (fun od j σ' H' _ ⟨_, _, _, _, e, _⟩ => e _ _ upd_same) (fun od j x σ' H0 H' hlt pv y => ?_) fun od σ' H' pv => ?_
      · obtain ⟨t, o2, o3, rfl, e, et⟩ := pv
        obtain ⟨rfl, kk, vj, hkv, rfl⟩ := y
        obtain ⟨⟨nm, dj⟩, hdj, hk, hrj⟩ := pair_back pr hkv
        have hk : kk = Sum.inr nm := hk
        subst hk
        obtain ⟨rs, erj, hrs⟩ := hw _ (List.mem_of_getElem? hdj)
        have erj : dj = .lst rs := erj
        subst erj
        have hvj : valV es (Sum.inr nm : Key) = some vj := valV_at (by rw [ekeys]; exact inr_nd lnd) hkv
        have hknj := hkn.2 _ (List.mem_of_getElem? hdj)
        have hrj' := rep_in hd1 e (rep_ex e1 hrj)
        cases n with
        | zero => exact hrj'.elim
        | succ n =>
        obtain ⟨ra, xs, rfl, _, hra, l5, pp⟩ := id hrj'
        have lx := pair_len pp
        refine ⟨_, rfl, _, rfl, d, .ref ra, rfl, .inl ⟨es, Sum.inr nm, .inr ⟨od, e _ _ upd_same⟩, rfl, hvj.symm⟩, ra, rfl, ⟨_, Evl.sq_of hra⟩, ?_⟩
        refine for_list (K := K) (a := ra) (xs := xs) (fun i σ' H2 => ∃ (u : Int) (o3 : Option V), σ' = [some (.ref d), some (.int u), some (.str nm), o3] ∧ Ex H' H2 ∧ u = t + (i : Int) + ((rs.take i).map (rowsN m)).sum) ⟨t, _, rfl, Ex.refl _, by simp⟩ (fun i σ' H2 _ ⟨_, _, _, e2, _⟩ => Evl.sq_of (e2 _ _ hra)) (fun i x σ' H2 hx pv => ?_) fun σ' H2 pv => ?_
        · obtain ⟨u, o3, rfl, e2, eu⟩ := pv
          obtain ⟨r, hr1, hr2⟩ := pair_back pp hx
          obtain ⟨l, ls', rfl, hl, hwl, en⟩ := wfR_ls (hrs r (List.mem_of_getElem? hr1))
          have hr3 := rep_ex e2 hr2
          have hkr := hknj _ (List.mem_of_getElem? hr1)
          cases n with
          | zero => exact hr3.elim
          | succ n =>
          obtain ⟨rv, res, rfl, _, hrv, _, rpr⟩ := id hr3
          obtain ⟨vl, hvl, hrl⟩ := rep_entry rpr hl
          have hkl : kn n (.dic ls') := hkr.2 (("lists" : Str), .dic ls') (by
            have : ∀ {l : List (Str × D)} {k : Str} {d : D}, l.lookup k = some d → (k, d) ∈ l := by
              intro l k d h
              induction l with
              | nil => cases h
              | cons p l ih =>
                obtain ⟨j, d0⟩ := p
                rw [lk_cons] at h
                by_cases c : k = j
                · rw [if_pos c] at h; cases h; rw [c]; exact List.mem_cons_self
                · rw [if_neg c] at h; exact List.mem_cons_of_mem _ (ih h)
            exact this hl)
          refine Evl.s_asg (Evl.ev_op (Evl.ev_op (Evl.ev_var rfl) Evl.ev_c Evl.rv_I0) (ev_fn (Evl.ea_cons (ev_get (Evl.ev_var rfl) Evl.ev_c (.inl hrv) hvl) Evl.ea_nil) fun H4 e4 Q' q' => ⟨vl, n, _, ls', rfl, rep_ex e4 hrl, ?_, hkl, hwl, q'⟩) Evl.rv_I0) fun H4 e4 => ⟨_, _, rfl, e2.trans e4, ?_⟩
          · cases n with
            | zero => exact hrl.elim
            | succ n => exact hkl.1
          · rw [take_snoc hr1, List.map_append, List.sum_append, eu]
            simp only [List.map_cons, List.map_nil, List.sum_cons, List.sum_nil]
            rw [en]; omega
        · obtain ⟨u, o3, rfl, e2, eu⟩ := pv
          refine ⟨u, _, _, rfl, e.trans e2, ?_⟩
          rw [take_snoc hdj, List.map_append, List.sum_append, eu, et, ← lx, List.take_of_length_le (Nat.le_refl _)]
          simp only [List.map_cons, List.map_nil, List.sum_cons, List.sum_nil]
          show _ = _ + ((rs.length : Int) + (rs.map (rowsN m)).sum + 0)
          omega
      · obtain ⟨t, o2, o3, rfl, e, et⟩ := pv
        rw [← le, List.take_of_length_le (Nat.le_refl _)] at et
        subst et
        exact Evl.s_ret (Evl.ev_var rfl) fun H7 e7 => k H7 (e1.trans ((unlock hd1 e).trans e7))
end
end Pk

namespace Pk
open PySem PySem.Spec PyProof.Rows L2 Ssb
open Evl (Ex Ev EvT EvL EvA EvU)
/-! ### the rows that a deed speaks of, at their place -/
/-- u stands under k in the dict v -/
def Kid (H : Hp) (v : V) (k : Str) (u : V) : Prop := ∃ (a : Addr) (es : List (Key × V)), v = .ref a ∧ H a = some (.dK es) ∧ valV es (Sum.inr k : Key) = some u
theorem Kid.ex {H H' : Hp} {v u : V} {k : Str} (e : Ex H H') (h : Kid H v k u) : Kid H' v k u := let ⟨a, es, h1, h2, h3⟩ := h; ⟨a, es, h1, e _ _ h2, h3⟩
theorem ev_kid {σ : L2.St} {H : Hp} {ta tb : TE} {v u : V} {k : Str} (h : Ev ta σ H v) (hk : Ev tb σ H (.str k)) (hx : Kid H v k u) : Ev (tDGet ta tb) σ H u := by
  obtain ⟨a, es, rfl, h1, h2⟩ := hx
  exact ev_get h hk (.inl h1) h2
/-- the way to the rows -/
def RowsP (H : Hp) (v : V) (xs : List V) (u : V) : Prop :=
  (∃ nm w, xs = [.str nm] ∧ Kid H v "lists" w ∧ Kid H w nm u) ∨
  ∃ (n1 nm : Str) (m : Int) (w : V) (c : Addr) (zs : List V) (i : Nat) (row w2 : V), xs = [.str n1, .int m, .str nm] ∧ Kid H v "lists" w ∧ Kid H w n1 (.ref c) ∧ H c = some (.lst zs) ∧ zs.length ≤ 400 ∧ zs[i]? = some row ∧
    (∀ (j : Nat) (r : V), zs[j]? = some r → ∃ q : Int, Kid H r "id" (.int q) ∧ (q = m ↔ j = i)) ∧ Kid H row "lists" w2 ∧ Kid H w2 nm u
theorem given_one {i : Nat} {v : Nat → V} : ∀ {n : Nat}, Evl.given n (fun j => decide (j = i)) v = if i < n then [v i] else []
  | 0 => rfl
  | n + 1 => by
    by_cases c : n = i
    · rw [Evl.given_yes (decide_eq_true c), given_one, if_neg (by omega), if_pos (by omega), c]; rfl
    · rw [Evl.given_no (decide_eq_false c), given_one]
      by_cases d : i < n
      · rw [if_pos d, if_pos (by omega)]
      · rw [if_neg d, if_neg (by omega)]
section
variable {P : Program} {w : World} {K : PySem.W.Frag} {mg : Str → Option Value} {base : Heap} {C_Shape C_LimitExceeded C_InvalidDeed C_StayError C_FORMS : Addr}
def spRA : Sp := fun vs H Q _ => ∃ (v u : V) (t : Addr) (xs : List V), vs = [v, .ref t] ∧ H t = some (.tup xs) ∧ RowsP H v xs u ∧ ∀ H', Ex H H' → Q u H'
theorem ok_rows_at (T : Txt K mg C_Shape C_LimitExceeded C_InvalidDeed C_StayError C_FORMS) (R : Prg K mg C_Shape C_LimitExceeded C_InvalidDeed C_StayError C_FORMS) : ∃ f fd, Fn P w K mg base "rows_at" 1 ["data", "where"] spRA f fd := by
  obtain ⟨f, fd, at_, F, kp⟩ := R.rows_at
  refine ⟨f, fd, F.ok sc_rows_at (fun vs H Q E h => ?_) (fun cdv A outer s H vs Q E hr h => ?_), at_, kp, F.binds (fun _ _ _ _ _ _ us hl => match us, hl with | [_, _], _ => rfl)⟩
  · obtain ⟨v, u, t, xs, rfl, _⟩ := h; rfl
  · obtain ⟨v, u, t, xs, rfl, ht, hp, k⟩ := h
    refine ⟨_, (pss_cons (ps_set (i := 2) sc_rows_at.nd rfl (Or.inl rfl) (pe_dget (hu_of hr) (pe_dget (hu_of hr) (pv 0) pe_str (fun _ _ => rfl)) (pe_ix (r := rIxT K) ix_tup (pv 1) pe_int (fun _ _ => rfl)) (fun _ _ => rfl)))
  (pss_cons (ps_if (pt_cmpR op_eq (pe_callB (r := rLenA K) call_len (by rfl) T.len (by decide +kernel) (pa_cons (pv 1) pa_nil)) pe_int (nomark _)) (pss_one (ps_ret (pv 2))) pss_nil)
  (pss_one (ps_ret (pe_dget (hu_of hr) (pe_dget (hu_of hr) (pe_ix (r := rIxL K) ix_list (pe_lc (own := [("row", 3)]) rfl sc_rows_at.nd (show PI _ _ _ (iList K _) from pi_list (pv 2)) (blkOk_by (own := [("row", 3)]) (N := ["data", "where", "rows", "row"]) (sc := defScope s_rows_at) (by decide +kernel)) (fun _ _ _ _ _ => (pg_name (i := 3) sc_rows_at.nd rfl (Or.inl rfl))) (fun _ _ _ _ _ => (pts_one (pt_cmpR op_eq (pe_dget (hu_of hr) (pv 3) pe_str (fun _ _ => rfl)) (pe_ix (r := rIxT K) ix_tup (pv 1) pe_int (fun _ _ => rfl)) (nomark _)))) (fun _ _ _ _ _ => (pv 3))) pe_int (fun _ _ => rfl)) pe_str (fun _ _ => rfl)) (pe_ix (r := rIxT K) ix_tup (pv 1) pe_int (fun _ _ => rfl)) (fun _ _ => rfl)))))), ?_⟩
    have ix : ∀ {j : Nat} {y : V} {H3 : Hp} {o2 o3 : Option V}, Ex H H3 → xs[j]? = some y → Ev (tOp (rIxT K) (tVar 1) (tC (.int (j : Int)))) [some v, some (.ref t), o2, o3] H3 y := fun e3 hy => Evl.ev_op (Evl.ev_var rfl) Evl.ev_c (Evl.rv_ixT (Evl.st_of (e3 _ _ ht)) (atI_nat hy))
    have len : ∀ {H1 : Hp} {o2 o3 : Option V}, Ex H H1 → Ev (tCB (rLenA K) (tCons (tVar 1) tNil)) [some v, some (.ref t), o2, o3] H1 (.int (xs.length : Int)) := fun e => ev_lenL (Evl.ev_var rfl) (.inr (Evl.st_of (e _ _ ht)))
    rcases hp with ⟨nm, w', rfl, h1, h2⟩ | ⟨n1, nm, m, w', c, zs, i, row, w2, rfl, h1, h2, hc, l400, hi, hids, h3, h4⟩
    · refine Evl.q_asg (ev_kid (ev_kid (Evl.ev_var rfl) Evl.ev_c h1) (ix (j := 0) (Ex.refl _) rfl) h2) fun H1 e1 => ?_
      refine Evl.q_when (b := true) (Evl.et_is (Evl.et_test (Evl.ev_op (len e1) Evl.ev_c (Evl.rv_eq rfl))) (decide_eq_true rfl)) (fun _ H2 e2 => ?_) (fun h => nomatch h)
      exact Evl.s_ret (Evl.ev_var rfl) fun H3 e3 => k H3 ((e1.trans e2).trans e3)
    · refine Evl.q_asg (ev_kid (ev_kid (Evl.ev_var rfl) Evl.ev_c h1) (ix (j := 0) (Ex.refl _) rfl) h2) fun H1 e1 => ?_
      refine Evl.q_when (b := false) (Evl.et_is (Evl.et_test (Evl.ev_op (len e1) Evl.ev_c (Evl.rv_eq rfl))) (decide_eq_false (fun h => nomatch h))) (fun h => nomatch h) (fun _ H2 e2 => ?_)
      have e02 := e1.trans e2
      have il := (List.getElem?_eq_some_iff.mp hi).1
      have lc := Evl.el_lcL (K := K) (σ := [some v, some (.ref t), some (.ref c), none]) (H := H2) (tl := tVar 2) (te := tVar 3) (t := tTest (tOp rEq (tDGet (tVar 3) (tC (.str "id"))) (tOp (rIxT K) (tVar 1) (tC (.int 1))))) (vs := [3]) (j := 3) (fun j => decide (j = i)) (fun j => zs.getD j .non) (Evl.ev_var rfl) (Evl.sq_of (e02 _ _ hc)) (by omega) (fun _ => rfl) (fun j x H3 e3 hx => by
        obtain ⟨q, hq, hqi⟩ := hids j x hx
        exact Evl.et_is (Evl.et_test (Evl.ev_op (ev_kid (Evl.ev_var rfl) Evl.ev_c (hq.ex (e02.trans e3))) (ix (j := 1) (e02.trans e3) rfl) (Evl.rv_eq rfl))) (by rw [Bool.eq_iff_iff, decide_eq_true_eq, decide_eq_true_eq, V.int.injEq]; exact hqi)) (fun j x H3 e3 hx _ => by
        have : zs.getD j .non = x := by rw [List.getD_eq_getElem?_getD, hx]; rfl
        rw [this]; exact Evl.ev_var rfl)
      rw [given_one, if_pos il, show zs.getD i .non = row by rw [List.getD_eq_getElem?_getD, hi]; rfl] at lc
      exact Evl.s_ret (ev_kid (ev_kid (Evl.ev_opL1 lc (fun _ _ => Evl.ev_c) fun p H3 hp3 e3 => Evl.rv_ixL (Evl.sq_of hp3) (atI_nat (j := 0) rfl)) Evl.ev_c (h3.ex e02)) (ix (j := 2) e02 rfl) (h4.ex e02)) fun H3 e3 => k H3 (e02.trans e3)
theorem ok__law_list_at (T : Txt K mg C_Shape C_LimitExceeded C_InvalidDeed C_StayError C_FORMS) (R : Prg K mg C_Shape C_LimitExceeded C_InvalidDeed C_StayError C_FORMS) : ∃ f fd, Fn P w K mg base "_law_list_at" 1 ["_law_data", "_law_where"] spRA f fd := by
  obtain ⟨f, fd, at_, F, kp⟩ := R._law_list_at
  refine ⟨f, fd, F.ok sc__law_list_at (fun vs H Q E h => ?_) (fun cdv A outer s H vs Q E hr h => ?_), at_, kp, F.binds (fun _ _ _ _ _ _ us hl => match us, hl with | [_, _], _ => rfl)⟩
  · obtain ⟨v, u, t, xs, rfl, _⟩ := h; rfl
  · obtain ⟨v, u, t, xs, rfl, ht, hp, k⟩ := h
    refine ⟨_, (pss_cons (ps_set (i := 2) sc__law_list_at.nd rfl (Or.inl rfl) (pe_dget (hu_of hr) (pe_dget (hu_of hr) (pv 0) pe_str (fun _ _ => rfl)) (pe_ix (r := rIxT K) ix_tup (pv 1) pe_int (fun _ _ => rfl)) (fun _ _ => rfl)))
  (pss_cons (ps_if (pt_cmpR op_eq (pe_callB (r := rLenA K) call_len (by rfl) T.len (by decide +kernel) (pa_cons (pv 1) pa_nil)) pe_int (nomark _)) (pss_one (ps_ret (pv 2))) pss_nil)
  (pss_one (ps_ret (pe_dget (hu_of hr) (pe_dget (hu_of hr) (pe_ix (r := rIxL K) ix_list (pe_lc (own := [("_law_row", 3)]) rfl sc__law_list_at.nd (show PI _ _ _ (iList K _) from pi_list (pv 2)) (blkOk_by (own := [("_law_row", 3)]) (N := ["_law_data", "_law_where", "_law_rows", "_law_row"]) (sc := defScope s__law_list_at) (by decide +kernel)) (fun _ _ _ _ _ => (pg_name (i := 3) sc__law_list_at.nd rfl (Or.inl rfl))) (fun _ _ _ _ _ => (pts_one (pt_cmpR op_eq (pe_dget (hu_of hr) (pv 3) pe_str (fun _ _ => rfl)) (pe_ix (r := rIxT K) ix_tup (pv 1) pe_int (fun _ _ => rfl)) (nomark _)))) (fun _ _ _ _ _ => (pv 3))) pe_int (fun _ _ => rfl)) pe_str (fun _ _ => rfl)) (pe_ix (r := rIxT K) ix_tup (pv 1) pe_int (fun _ _ => rfl)) (fun _ _ => rfl)))))), ?_⟩
    have ix : ∀ {j : Nat} {y : V} {H3 : Hp} {o2 o3 : Option V}, Ex H H3 → xs[j]? = some y → Ev (tOp (rIxT K) (tVar 1) (tC (.int (j : Int)))) [some v, some (.ref t), o2, o3] H3 y := fun e3 hy => Evl.ev_op (Evl.ev_var rfl) Evl.ev_c (Evl.rv_ixT (Evl.st_of (e3 _ _ ht)) (atI_nat hy))
    have len : ∀ {H1 : Hp} {o2 o3 : Option V}, Ex H H1 → Ev (tCB (rLenA K) (tCons (tVar 1) tNil)) [some v, some (.ref t), o2, o3] H1 (.int (xs.length : Int)) := fun e => ev_lenL (Evl.ev_var rfl) (.inr (Evl.st_of (e _ _ ht)))
    rcases hp with ⟨nm, w', rfl, h1, h2⟩ | ⟨n1, nm, m, w', c, zs, i, row, w2, rfl, h1, h2, hc, l400, hi, hids, h3, h4⟩
    · refine Evl.q_asg (ev_kid (ev_kid (Evl.ev_var rfl) Evl.ev_c h1) (ix (j := 0) (Ex.refl _) rfl) h2) fun H1 e1 => ?_
      refine Evl.q_when (b := true) (Evl.et_is (Evl.et_test (Evl.ev_op (len e1) Evl.ev_c (Evl.rv_eq rfl))) (decide_eq_true rfl)) (fun _ H2 e2 => ?_) (fun h => nomatch h)
      exact Evl.s_ret (Evl.ev_var rfl) fun H3 e3 => k H3 ((e1.trans e2).trans e3)
    · refine Evl.q_asg (ev_kid (ev_kid (Evl.ev_var rfl) Evl.ev_c h1) (ix (j := 0) (Ex.refl _) rfl) h2) fun H1 e1 => ?_
      refine Evl.q_when (b := false) (Evl.et_is (Evl.et_test (Evl.ev_op (len e1) Evl.ev_c (Evl.rv_eq rfl))) (decide_eq_false (fun h => nomatch h))) (fun h => nomatch h) (fun _ H2 e2 => ?_)
      have e02 := e1.trans e2
      have il := (List.getElem?_eq_some_iff.mp hi).1
      have lc := Evl.el_lcL (K := K) (σ := [some v, some (.ref t), some (.ref c), none]) (H := H2) (tl := tVar 2) (te := tVar 3) (t := tTest (tOp rEq (tDGet (tVar 3) (tC (.str "id"))) (tOp (rIxT K) (tVar 1) (tC (.int 1))))) (vs := [3]) (j := 3) (fun j => decide (j = i)) (fun j => zs.getD j .non) (Evl.ev_var rfl) (Evl.sq_of (e02 _ _ hc)) (by omega) (fun _ => rfl) (fun j x H3 e3 hx => by
        obtain ⟨q, hq, hqi⟩ := hids j x hx
        exact Evl.et_is (Evl.et_test (Evl.ev_op (ev_kid (Evl.ev_var rfl) Evl.ev_c (hq.ex (e02.trans e3))) (ix (j := 1) (e02.trans e3) rfl) (Evl.rv_eq rfl))) (by rw [Bool.eq_iff_iff, decide_eq_true_eq, decide_eq_true_eq, V.int.injEq]; exact hqi)) (fun j x H3 e3 hx _ => by
        have : zs.getD j .non = x := by rw [List.getD_eq_getElem?_getD, hx]; rfl
        rw [this]; exact Evl.ev_var rfl)
      rw [given_one, if_pos il, show zs.getD i .non = row by rw [List.getD_eq_getElem?_getD, hi]; rfl] at lc
      exact Evl.s_ret (ev_kid (ev_kid (Evl.ev_opL1 lc (fun _ _ => Evl.ev_c) fun p H3 hp3 e3 => Evl.rv_ixL (Evl.sq_of hp3) (atI_nat (j := 0) rfl)) Evl.ev_c (h3.ex e02)) (ix (j := 2) e02 rfl) (h4.ex e02)) fun H3 e3 => k H3 (e02.trans e3)
end
end Pk

/-! try: .. except C1 as e: .. except C2 as e: .. except C0: .. (one of the first two fits). -/
namespace Ssb
open PySem PySem.Spec L2 PyProof.Rows
section
variable {X : Cx} {x0 x1 x n : Str} {c1 c : Value} {i : Nat} {body suite suite1 suite0 : List Stmt} {b0 b₀ b₁ : Stmt} {nq0 np1 np pos pos0 pos1 pos' : Pos} {tb : WX → TS} {ts ts1 : Addr → Value → Option Addr → TS} {Wout : WX}
/-- the first of two clauses that fits -/
def wTwo (K : PySem.W.Frag) (c1 c : Value) (i : Nat) (ts1 ts : Addr → Value → Option Addr → TS) (D : Ends) : WX := fun cls d σ H => ∃ b, PySem.W.exmOne K cls c1 = some b ∧
  (b = true → ∀ a, H a = none → ts1 a cls d { nx := fun σ' H' => D.nx (σ'.set i none) H', rt := D.rt, bk := fun σ' H' => D.bk (σ'.set i none) H', ct := fun σ' H' => D.ct (σ'.set i none) H' } (σ.set i (some (.ref a))) H) ∧
  (b = false → PySem.W.exmOne K cls c = some true ∧ ∀ a, H a = none → ts a cls d { nx := fun σ' H' => D.nx (σ'.set i none) H', rt := D.rt, bk := fun σ' H' => D.bk (σ'.set i none) H', ct := fun σ' H' => D.ct (σ'.set i none) H' } (σ.set i (some (.ref a))) H)
theorem ps_try_as3 (hs : X.stack = X.env :: X.outer) (hf : X.env.frame = some X.env.locals) (hN : X.N.Nodup) (hi : X.N[i]? = some n) (hln : X.env.kindOf n = some .local) (hc1 : Names X x1 c1) (hc : Names X x c)
    (hb : ∀ (W : WX) (pn : List (Addr × Obj)) (xe : Value → Shared → Prop), Takes (X.tr pn xe) W → PassesOwn (model X.prog X.w) X.A X.env xe → PSs (X.tr pn xe) body (tb W))
    (hsu1 : ∀ (a : Addr) (oe : Obj) (cls : Value) (d : Option Addr) (pn : List (Addr × Obj)), Zc cls d oe → (∃ vs, oe.data = .fields vs) → PSs (X.suite a ((a, oe) :: pn)) (b₁ :: suite1) (ts1 a cls d))
    (hsu : ∀ (a : Addr) (oe : Obj) (cls : Value) (d : Option Addr) (pn : List (Addr × Obj)), Zc cls d oe → (∃ vs, oe.data = .fields vs) → PSs (X.suite a ((a, oe) :: pn)) (b₀ :: suite) (ts a cls d)) :
    PS X (.Try body [.ExceptHandler (some (.Name x1 np1)) (some n) (b₁ :: suite1) pos1, .ExceptHandler (some (.Name x np)) (some n) (b₀ :: suite) pos', .ExceptHandler (some (.Name x0 nq0)) none (b0 :: suite0) pos0] [] [] pos) (fun D σ H => tb (wTwo X.K c1 c i ts1 ts D) D σ H) := by
  refine ⟨fun pins s σ H D I h => ?_⟩
  have ok := I.ok
  have fr0 : X.A.frames = some (X.env :: X.outer) := by rw [ok.frames, hs]
  refine wpAny_Try_except (wpAny_mono ((hb (wTwo X.K c1 c i ts1 ts D) (X.pn ++ pins) (fun e s₁ => wpAny (model X.prog X.w) X.A (noteFrame e X.env) (fun _ s₂ => wpAny (model X.prog X.w) X.A (setFlight e none) (fun _ s₃ => wpAny (model X.prog X.w) X.A (handleBy e X.env [.ExceptHandler (some (.Name x1 np1)) (some n) (b₁ :: suite1) pos1, .ExceptHandler (some (.Name x np)) (some n) (b₀ :: suite) pos', .ExceptHandler (some (.Name x0 nq0)) none (b0 :: suite0) pos0]) (SP X pins D) X.xe s₃) X.xe s₂) X.xe s₁) (fun u s' xx => ?_) PassesOwn.looking).run [] s σ H D (I.toTry _) h) (fun f s1 hsp => ?_) (fun e s1 he => he))
  · obtain ⟨a, B, sI, pins', σ1, HH, cls, d, rfl, J0, nb, up, sky, na, os, ag, b, hb1, hyes, hno⟩ := xx
    have J : Inv X pins σ1 HH sI := J0.ofTry ok
    rw [show (X.tr (X.pn ++ pins) _).stack = X.env :: X.outer from hs] at sky
    refine Sky.land Zc.steady fr0 hf sky fun h3 fl3 up3 => ?_
    have J3 : Inv X pins σ1 HH { s' with heap := h3 } := J.landed nb fl3.1 (up.trans up3) os ag
    obtain ⟨oe3, vs3, he3, hz3, hd3⟩ := fl3.there
    have nfr : a ∉ frs (X.env :: X.outer) := fun hm => by
      obtain ⟨_, o', e', hnf⟩ := fl3.2.2.1.mem hm
      rw [he3] at e'; cases e'; exact hnf _ hd3
    have nL : a ≠ X.env.locals := fun z => nfr (List.mem_filterMap.mpr ⟨X.env, List.mem_cons_self, (by rw [hf, z])⟩)
    have nF : a ∉ X.fs := fun hm => (List.mem_filterMap.mp hm).elim fun e he => nfr (List.mem_filterMap.mpr ⟨e, List.mem_cons_of_mem _ he.1, he.2⟩)
    have young : sI.heap.get? a = none := by
      cases hg : sI.heap.get? a with
      | none => rfl
      | some o =>
        have := nb a o hg (by rw [show (X.tr (X.pn ++ pins) _).stack = X.env :: X.outer from hs]; exact nfr)
        rw [fl3.2.1] at this; cases this
    have n0 : ∀ b o, X.s_0.heap.get? b = some o → b ∉ X.ex → b ≠ a := fun b o q hx z => by
      obtain ⟨o', h'⟩ := J.base.there b o q hx
      rw [z, young] at h'; cases h'
    have np0 : ∀ p ∈ X.pn ++ pins, p.1 ≠ a := fun p hp z => by
      have := (J.pin p hp).1
      rw [z, young] at this; cases this
    have S3 := J3.suite he3 hd3 na nL nF
    have looks : PySem.W.Looks (model X.prog X.w) h3 (typeOf (.ref a)) cls := fun A Q E s k q => wpAny_typeOf_ref (k _ _ he3) (by rw [hz3.1]; exact q)
    have LM := PySem.W.exm_one (M := model X.prog X.w) J3.kIn looks hb1
    have ask : ∀ {y : Str} {cy : Value} {npy : Pos}, Names X y cy → ∀ {Q : Value → Shared → Prop} {E : Value → Shared → Prop}, Q cy { s' with heap := h3 } → wpAny (model X.prog X.w) (X.A.mark (some (.ref a))) (eval (.Name y npy) X.env) Q E { s' with heap := h3 } := fun {y cy npy} hy {Q E} q => by
      obtain ⟨hg, hdb, hm | ⟨hm, hv, hnn⟩⟩ := hy
      · exact ld_glob S3 hg hm q hdb
      · exact ld_blt S3 hg hm hv q hnn hdb
    refine wpAny_handleBy_cons (codeAny_handlers_test (ask hc1 (LM.here ?_))) (by intro q; cases q)
    cases b with
    | true =>
      refine codeAny_handlers_suite_as (HandSPX.lands_againZ fl3 fun h4 fl4 up4 => ?_)
      have J4 : Inv X pins σ1 HH { s' with heap := h4 } := J.landed nb fl4.1 ((up.trans up3).trans up4) os ag
      obtain ⟨oe4, vs4, he4, hz4, hd4⟩ := fl4.there
      refine store_ok (X := X.suite a ((a, oe4) :: (X.pn ++ pins))) (v := .ref a) (J4.suite he4 hd4 na nL nF) hN hi (.inl hln) rfl (fun s5 S5 => ?_) (.inr hln)
      refine wpAny_mono ((hsu1 a oe4 cls d (X.pn ++ pins) hz4 ⟨_, hd4⟩).run [] s5 _ HH _ S5 (hyes rfl a na)) (fun f s6 hsp => ?_) (fun _ _ z => False.elim z)
      have fin : ∀ {σ6 : L2.St} {H6 : Hp} {Q : Shared → Prop}, Inv (X.suite a ((a, oe4) :: (X.pn ++ pins))) [] σ6 H6 s6 → (∀ s7, Inv X pins (σ6.set i none) H6 s7 → Q s7) →
          wpAny (model X.prog X.w) X.A (do bindName X.env n .none; unbindBehindTheSuite X.env n pos1) (fun _ s7 => Q s7) X.xe s6 := fun {σ6 H6 Q} S6 hq => gone_ok (S6.unsuite ok) hN hi hln hq
      cases f with
      | ret u => obtain ⟨v6, σ6, H6, S6, r6, q6⟩ := hsp; exact fin S6 fun s7 J7 => ⟨_, _, _, J7, r6, q6⟩
      | next => obtain ⟨σ6, H6, S6, q6⟩ := hsp; exact fin S6 fun s7 J7 => ⟨_, _, J7, q6⟩
      | brk => obtain ⟨σ6, H6, S6, q6⟩ := hsp; exact fin S6 fun s7 J7 => ⟨_, _, J7, q6⟩
      | cont => obtain ⟨σ6, H6, S6, q6⟩ := hsp; exact fin S6 fun s7 J7 => ⟨_, _, J7, q6⟩
    | false =>
      obtain ⟨hb2, hyes⟩ := hno rfl
      have LM2 := PySem.W.exm_one (M := model X.prog X.w) J3.kIn looks hb2
      show wpAny _ X.A (handleBy (.ref a) X.env [.ExceptHandler (some (.Name x np)) (some n) (b₀ :: suite) pos', .ExceptHandler (some (.Name x0 nq0)) none (b0 :: suite0) pos0]) _ _ _
      refine wpAny_handleBy_cons (codeAny_handlers_test (ask hc (LM2.here ?_))) (by intro q; cases q)
      refine codeAny_handlers_suite_as (HandSPX.lands_againZ fl3 fun h4 fl4 up4 => ?_)
      have J4 : Inv X pins σ1 HH { s' with heap := h4 } := J.landed nb fl4.1 ((up.trans up3).trans up4) os ag
      obtain ⟨oe4, vs4, he4, hz4, hd4⟩ := fl4.there
      refine store_ok (X := X.suite a ((a, oe4) :: (X.pn ++ pins))) (v := .ref a) (J4.suite he4 hd4 na nL nF) hN hi (.inl hln) rfl (fun s5 S5 => ?_) (.inr hln)
      refine wpAny_mono ((hsu a oe4 cls d (X.pn ++ pins) hz4 ⟨_, hd4⟩).run [] s5 _ HH _ S5 (hyes a na)) (fun f s6 hsp => ?_) (fun _ _ z => False.elim z)
      have fin : ∀ {σ6 : L2.St} {H6 : Hp} {Q : Shared → Prop}, Inv (X.suite a ((a, oe4) :: (X.pn ++ pins))) [] σ6 H6 s6 → (∀ s7, Inv X pins (σ6.set i none) H6 s7 → Q s7) →
          wpAny (model X.prog X.w) X.A (do bindName X.env n .none; unbindBehindTheSuite X.env n pos') (fun _ s7 => Q s7) X.xe s6 := fun {σ6 H6 Q} S6 hq => gone_ok (S6.unsuite ok) hN hi hln hq
      cases f with
      | ret u => obtain ⟨v6, σ6, H6, S6, r6, q6⟩ := hsp; exact fin S6 fun s7 J7 => ⟨_, _, _, J7, r6, q6⟩
      | next => obtain ⟨σ6, H6, S6, q6⟩ := hsp; exact fin S6 fun s7 J7 => ⟨_, _, J7, q6⟩
      | brk => obtain ⟨σ6, H6, S6, q6⟩ := hsp; exact fin S6 fun s7 J7 => ⟨_, _, J7, q6⟩
      | cont => obtain ⟨σ6, H6, S6, q6⟩ := hsp; exact fin S6 fun s7 J7 => ⟨_, _, J7, q6⟩
  · cases f with
    | ret u => obtain ⟨v, σ1, HH, J, r, q⟩ := hsp; exact ⟨v, σ1, HH, J.ofTry ok, r, q⟩
    | next => obtain ⟨σ1, HH, J, q⟩ := hsp; exact wpAny_execs_nil ⟨σ1, HH, J.ofTry ok, q⟩
    | brk => obtain ⟨σ1, HH, J, q⟩ := hsp; exact ⟨σ1, HH, J.ofTry ok, q⟩
    | cont => obtain ⟨σ1, HH, J, q⟩ := hsp; exact ⟨σ1, HH, J.ofTry ok, q⟩
end
end Ssb

/-! == and != of deep data that are alike: lists, tuples and dicts in one another. -/
namespace Ssb
open PySem PySem.Spec PyProof.Rows L2 PySem.SeqAt PySem.AutoSeq1
/-- names of a dict are different, all the way down -/
def kN : Nat → D → Prop
  | n + 1, .lst l => ∀ x ∈ l, kN n x
  | n + 1, .tup l => ∀ x ∈ l, kN n x
  | n + 1, .dic l => (l.map (·.1)).Nodup ∧ ∀ p ∈ l, kN n p.2
  | _, _ => True
theorem keys_pr {F : D → V → Prop} : ∀ {l : List (Str × D)} {es : List (Key × V)}, Paired (fun (q : Str × D) (e : Key × V) => e.1 = Sum.inr q.1 ∧ F q.2 e.2) l es → es.map (·.1) = (l.map (·.1)).map Sum.inr
  | _, _, .nil => rfl
  | _, _, .cons h t => by rw [List.map_cons, List.map_cons, List.map_cons, keys_pr t, h.1]
theorem val_mem {es : List (Key × V)} {k : Key} {v : V} (nd : (es.map (·.1)).Nodup) (h : (k, v) ∈ es) : valV es k = some v := by
  induction es with
  | nil => cases h
  | cons e es ih =>
    rw [List.map_cons, List.nodup_cons] at nd
    rw [vV_cons]
    rcases List.mem_cons.mp h with h | h
    · rw [← h, if_pos rfl]
    · rw [if_neg fun z => nd.1 (List.mem_map.mpr ⟨_, h, z.symm⟩)]
      exact ih nd.2 h
theorem all_tt {n : Nat} : ((List.range n).all fun _ => true) = true := List.all_eq_true.mpr fun _ _ => rfl
theorem vals_i {xs : List V} {us : List Value} (r : Vals xs us) {j : Nat} (h : j < us.length) : ∃ x, xs[j]? = some x ∧ RelV x us[j] := by
  induction r generalizing j with
  | nil => exact absurd h (Nat.not_lt_zero j)
  | cons a b ih =>
    cases j with
    | zero => exact ⟨_, rfl, a⟩
    | succ j => exact ih (Nat.lt_of_succ_lt_succ h)
section
variable {X : Cx} {pins : List (Addr × Obj)} {σ : L2.St} {H : Hp} {s : Shared}
theorem eqT_leaf {n : Nat} {x : V} {v u : Value} (f : flatV x = true) (e : eqV x x = true) (rx : RelV x v) (ry : RelV x u) : PySem.W.EqTree X.prog X.w s n v u true := by
  rw [← e]; exact .leaf fun A hu => eqAt_V rx ry f f
theorem kv_in {κ : Type} {ks : List (κ × V)} {va : List (κ × Value)} (ra : KV ks va) : ∀ {k : κ} {v : Value}, (k, v) ∈ va → ∃ x, (k, x) ∈ ks ∧ RelV x v := by
  unfold KV at ra
  induction ra with
  | nil => intro k v h; exact nomatch h
  | @cons p q ps qs h t ih =>
    intro k v hm
    rcases List.mem_cons.mp hm with hm | hm
    · refine ⟨p.2, ?_, ?_⟩
      · have : p.1 = k := by rw [h.1, ← hm]
        rw [← this]; exact List.mem_cons_self
      · rw [← hm] at h; exact h.2
    · obtain ⟨x, h1, h2⟩ := ih hm
      exact ⟨x, List.mem_cons_of_mem _ h1, h2⟩
theorem items_T {F : D → V → V → Prop} {n : Nat} {l : List D} {xs ys : List V} {us ws : List Value} {F1 F2 : D → V → Prop} (p1 : Paired F1 l xs) (p2 : Paired F2 l ys) (r1 : Vals xs us) (r2 : Vals ys ws)
    (ih : ∀ d ∈ l, ∀ x y v u, F1 d x → F2 d y → RelV x v → RelV y u → PySem.W.EqTree X.prog X.w s n v u true) : us.toArray.size = ws.toArray.size ∧ ∀ j (h1 : j < us.toArray.size) (h2 : j < ws.toArray.size), PySem.W.EqTree X.prog X.w s n us.toArray[j] ws.toArray[j] true := by
  refine ⟨by rw [List.size_toArray, List.size_toArray, ← r1.length, ← r2.length, ← pair_len p1, ← pair_len p2], fun j h1 h2 => ?_⟩
  obtain ⟨x, hx, rx⟩ := vals_i r1 (j := j) (by simpa using h1)
  obtain ⟨y, hy, ry⟩ := vals_i r2 (j := j) (by simpa using h2)
  obtain ⟨d1, hd1, q1⟩ := pair_back p1 hx
  obtain ⟨d2, hd2, q2⟩ := pair_back p2 hy
  rw [hd1] at hd2; cases hd2
  have := ih _ (List.mem_of_getElem? hd1) _ _ _ _ q1 q2 rx ry
  simpa using this
theorem dic_T {n : Nat} {l : List (Str × D)} {ks ls : List (Key × V)} {va vb : List (Key × Value)} {F1 F2 : D → V → Prop} (pr : Paired (fun (q : Str × D) (e : Key × V) => e.1 = Sum.inr q.1 ∧ F1 q.2 e.2) l ks) (pr' : Paired (fun (q : Str × D) (e : Key × V) => e.1 = Sum.inr q.1 ∧ F2 q.2 e.2) l ls)
    (ra : KV ks va) (rb : KV ls vb) (nd : (l.map (·.1)).Nodup) (ih : ∀ p ∈ l, ∀ x y v u, F1 p.2 x → F2 p.2 y → RelV x v → RelV y u → PySem.W.EqTree X.prog X.w s n v u true) :
    (va.length == vb.length && va.all fun p => (valueAt vb p.1).isSome && (fun _ => true) p.1) = true ∧ ∀ k v y, (k, v) ∈ va → valueAt vb k = some y → PySem.W.EqTree X.prog X.w s n v y true := by
  have k2 := keys_pr pr'
  have nd : ((l.map (·.1)).map (Sum.inr : Str → Key)).Nodup := List.Pairwise.map _ (fun a b h z => h (Sum.inr.inj z)) nd
  have there : ∀ {k : Key} {v : Value}, (k, v) ∈ va → ∃ (i : Nat) (q : Str × D) (x y : V), l[i]? = some q ∧ k = Sum.inr q.1 ∧ RelV x v ∧ F1 q.2 x ∧ valV ls k = some y ∧ F2 q.2 y := by
    intro k v hm
    obtain ⟨x, hx, rx⟩ := kv_in ra hm
    obtain ⟨i, hi⟩ := List.getElem?_of_mem hx
    obtain ⟨q, hq, e1, q1⟩ := pair_back pr hi
    obtain ⟨⟨k', y⟩, hy, e2, q2⟩ := pair_at pr' hq
    have e1 : k = Sum.inr q.1 := e1
    have e2 : k' = Sum.inr q.1 := e2
    refine ⟨i, q, x, y, hq, e1, rx, q1, ?_, q2⟩
    rw [e1, ← e2]
    exact val_mem (by rw [k2]; exact nd) (List.mem_of_getElem? hy)
  refine ⟨?_, fun k v y hm hv => ?_⟩
  · have : va.length = vb.length := by rw [← ra.length, ← rb.length, ← pair_len pr, ← pair_len pr']
    rw [this, beq_self_eq_true, Bool.true_and]
    refine List.all_eq_true.mpr fun p hp => ?_
    obtain ⟨i, q, x, y, _, _, _, _, hy, _⟩ := there (k := p.1) (v := p.2) hp
    have := rb.val p.1
    rw [hy] at this
    cases hv : valueAt vb p.1 with
    | none => rw [hv] at this; exact this.elim
    | some u => rfl
  · obtain ⟨i, q, x, y', hq, _, rx, q1, hy, q2⟩ := there hm
    have := rb.val k
    rw [hv, hy] at this
    exact ih _ (List.mem_of_getElem? hq) _ _ _ _ q1 q2 rx this
theorem eqT_rep (I : Inv X pins σ H s) : ∀ {n m1 m2 : Nat} {S1 S2 : Addr → Prop} {d : D} {x y : V} {v u : Value}, Rep H m1 S1 d x → Rep H m2 S2 d y → m1 ≤ n → kN n d → RelV x v → RelV y u → PySem.W.EqTree X.prog X.w s n v u true := by
  intro n
  induction n with
  | zero =>
    intro m1 m2 S1 S2 d x y v u h1 h2 hn
    have : m1 = 0 := by omega
    subst this; exact h1.elim
  | succ n ih =>
    intro m1 m2 S1 S2 d x y v u h1 h2 hn hk rx ry
    cases m1 with
    | zero => exact h1.elim
    | succ m1 =>
    cases m2 with
    | zero => exact h2.elim
    | succ m2 =>
    cases d with
    | non => rw [show x = .non from h1] at rx; rw [show y = .non from h2] at ry; exact eqT_leaf (X := X) (x := .non) rfl rfl rx ry
    | bl b => rw [show x = .bl b from h1] at rx; rw [show y = .bl b from h2] at ry; exact eqT_leaf (X := X) (x := .bl b) rfl (by simp [eqV]) rx ry
    | int i => rw [show x = .int i from h1] at rx; rw [show y = .int i from h2] at ry; exact eqT_leaf (X := X) (x := .int i) rfl (by simp [eqV]) rx ry
    | str t => rw [show x = .str t from h1] at rx; rw [show y = .str t from h2] at ry; exact eqT_leaf (X := X) (x := .str t) rfl (by simp [eqV]) rx ry
    | lst l =>
      obtain ⟨a, xs, rfl, _, ha, _, pr⟩ := h1
      obtain ⟨c, ys, rfl, _, hc, _, pr'⟩ := h2
      cases rx; cases ry
      by_cases e : a = c
      · subst e; exact .same
      obtain ⟨us, r1, p1, _⟩ := I.list (Evl.sq_of ha)
      obtain ⟨ws, r2, p2, _⟩ := I.list (Evl.sq_of hc)
      obtain ⟨sz, it⟩ := items_T (F := fun _ _ _ => True) pr pr' r1 r2 fun d hd x y v u q1 q2 rx ry => ih q1 q2 (by omega) (hk d hd) rx ry
      rw [← all_tt (n := us.toArray.size)]
      exact .lists e p1.isList p2.isList sz it
    | tup l =>
      obtain ⟨a, xs, rfl, ha, _, pr⟩ := h1
      obtain ⟨c, ys, rfl, hc, _, pr'⟩ := h2
      cases rx; cases ry
      by_cases e : a = c
      · subst e; exact .same
      obtain ⟨us, r1, p1, _⟩ := I.tuple (Evl.st_of ha)
      obtain ⟨ws, r2, p2, _⟩ := I.tuple (Evl.st_of hc)
      obtain ⟨sz, it⟩ := items_T (F := fun _ _ _ => True) pr pr' r1 r2 fun d hd x y v u q1 q2 rx ry => ih q1 q2 (by omega) (hk d hd) rx ry
      have et : ((List.range (min us.toArray.size ws.toArray.size)).all (fun _ => true) && us.toArray.size == ws.toArray.size) = true := by rw [all_tt, sz]; simp
      rw [← et]
      exact .tuples e p1 p2 it
    | dic l =>
      obtain ⟨a, ks, rfl, _, ha, _, pr⟩ := h1
      obtain ⟨c, ls, rfl, _, hc, _, pr'⟩ := h2
      cases rx; cases ry
      by_cases e : a = c
      · subst e; exact .same
      obtain ⟨_, ya, va, ra, da⟩ := (show ObjOk X.prog X.w H s.heap a (.dK ks) from I.hok a _ ha)
      obtain ⟨_, yb, vb, rb, db⟩ := (show ObjOk X.prog X.w H s.heap c (.dK ls) from I.hok c _ hc)
      obtain ⟨et, it⟩ := dic_T pr pr' ra rb hk.1 fun p hp x y v u q1 q2 rx ry => ih q1 q2 (by omega) (hk.2 p hp) rx ry
      rw [← et]
      exact .dicts (knd := mixKind X.prog X.w) (e := fun _ => true) e ya yb da db it
end
/-- two tuples that are alike, by != -/
theorem ne_like {prog : Program} {w : World} (l b : Addr) (us ws : Array Value) (n m : Nat) (d d2 : Option Addr) (t t2 : Array (Option Value)) (sz : us.size = ws.size) :
    MeetsIn prog w (Builtin.«tuple.__ne__» ⟨[.ref l, .ref b], []⟩) (fun A R s => s.heap.get? l = some ⟨.type "tuple", d, .seq us n, t⟩ ∧ s.heap.get? b = some ⟨.type "tuple", d2, .seq ws m, t2⟩ ∧ (∀ p ∈ us.toList.zip ws.toList, EqIn prog w A.in1 s p.1 p.2 true) ∧ R (.ok (.ret (.bool false))) s) :=
  .of_wp fun A R s h => by
    obtain ⟨H, c1, c2, c3, c4⟩ := s
    obtain ⟨hl, hb, hq, hr⟩ := h
    have f2 := AutoSeq1.sub_tuple_tuple
    wp_walk using wpAny_loadPart' hl, wpAny_loadPart' hb, wpAny_forIn_list _ (fun rest b s' => b.1 = none ∧ s' = ⟨H, c1, c2, c3, c4⟩ ∧ ∀ p ∈ rest, EqIn prog w A.in1 ⟨H, c1, c2, c3, c4⟩ p.1 p.2 true) _
    case turn =>
      rintro ⟨y, x⟩ rest b s' ⟨_, rfl, hp⟩
      refine wpAny_bind (hp _ List.mem_cons_self _ _ ?_)
      wp_walk
      exact ⟨rfl, rfl, fun p h => hp p (List.mem_cons_of_mem _ h)⟩
    case fin =>
      rintro ⟨b1, b2⟩ s' ⟨hb', rfl, _⟩
      cases (show b1 = none from hb')
      wp_walk
      exact ⟨_, rfl, by simpa [Builtin.Tuple.tupleCompareSizes, bne, sz] using hr⟩
    case h => exact ⟨rfl, rfl, hq⟩
section
variable {X : Cx}
/-- a != b, two tuples of the same data -/
def rNeT : R2 := fun x y H Q => ∃ (m1 m2 : Nat) (S1 S2 : Addr → Prop) (l : List D), m1 ≤ 50 ∧ Rep H m1 S1 (.tup l) x ∧ Rep H m2 S2 (.tup l) y ∧ kN m1 (.tup l) ∧ Q (.bl false) H
theorem op_neT (hu : X.A.units + 64 < cLine) : OpR X (compareOp .NotEq) rNeT := by
  intro pins s σ H x y v u Q I rx ry h
  obtain ⟨m1, m2, S1, S2, l, hm, h1, h2, hk, q⟩ := h
  cases m1 with
  | zero => exact h1.elim
  | succ m1 =>
  cases m2 with
  | zero => exact h2.elim
  | succ m2 =>
  obtain ⟨a, xs, rfl, ha, _, pr⟩ := h1
  obtain ⟨c, ys, rfl, hc, _, pr'⟩ := h2
  cases rx; cases ry
  obtain ⟨us, r1, p1, _⟩ := I.tuple (Evl.st_of ha)
  obtain ⟨ws, r2, p2, _⟩ := I.tuple (Evl.st_of hc)
  obtain ⟨sz, it⟩ := items_T (F := fun _ _ _ => True) pr pr' r1 r2 fun d hd x y v u q1 q2 rx ry => eqT_rep I q1 q2 (Nat.le_refl _) (hk d hd) rx ry
  obtain ⟨⟨cls, dd, data, sl⟩, ho, hcl, n, hd⟩ := id p1
  obtain ⟨⟨cls2, dd2, data2, sl2⟩, ho2, hcl2, n2, hd2⟩ := id p2
  simp only at hcl hd hcl2 hd2
  subst hcl hd hcl2 hd2
  refine wpAny_richCompare_same_room (T := "tuple") (op := .NotEq) ⟨_, ho, rfl⟩ ⟨_, ho2, rfl⟩ PySem.F.slot_tuple_ne (call_meetsIn PySem.F.slot_tuple_ne ⟨_, ho, rfl⟩ PySem.F.entry_tuple_ne (PySem.F.args_tuple_ne_2 _ _) (ne_like a c us.toArray ws.toArray n n2 dd dd2 sl sl2 sz) ⟨ho, ho2, fun p hp => ?_, (fun z => nomatch z), ?_⟩) (by omega)
  · obtain ⟨j, hj⟩ := List.getElem?_of_mem hp
    rw [List.getElem?_zip_eq_some] at hj
    obtain ⟨h1, h2⟩ := hj
    obtain ⟨l1, e1⟩ := List.getElem?_eq_some_iff.mp h1
    obtain ⟨l2, e2⟩ := List.getElem?_eq_some_iff.mp h2
    have := (it j (by simpa using l1) (by simpa using l2)).at X.A.in1 (by show X.A.units + 1 + _ < cLine; omega)
    rw [← e1, ← e2]
    simpa using this
  · exact ⟨.bl false, H, I, rfl, q⟩
end
section
variable {X : Cx}
/-- a == b, the same data twice: two dicts or two tuples -/
def rEqT : R2 := fun x y H Q => ∃ (m1 m2 : Nat) (S1 S2 : Addr → Prop) (d : D), m1 ≤ 50 ∧ ((∃ l, d = .tup l) ∨ ∃ l, d = .dic l) ∧ Rep H m1 S1 d x ∧ Rep H m2 S2 d y ∧ kN m1 d ∧ Q (.bl true) H
theorem op_eqT (hu : X.A.units + 64 < cLine) : OpR X (compareOp .Eq) rEqT := by
  intro pins s σ H x y v u Q I rx ry h
  obtain ⟨m1, m2, S1, S2, d, hm, hd, h1, h2, hk, q⟩ := h
  cases m1 with
  | zero => exact h1.elim
  | succ m1 =>
  cases m2 with
  | zero => exact h2.elim
  | succ m2 =>
  rcases hd with ⟨l, rfl⟩ | ⟨l, rfl⟩
  · obtain ⟨a, xs, rfl, ha, _, pr⟩ := h1
    obtain ⟨c, ys, rfl, hc, _, pr'⟩ := h2
    cases rx; cases ry
    obtain ⟨us, r1, p1, _⟩ := I.tuple (Evl.st_of ha)
    obtain ⟨ws, r2, p2, _⟩ := I.tuple (Evl.st_of hc)
    obtain ⟨sz, it⟩ := items_T (F := fun _ _ _ => True) pr pr' r1 r2 fun d hd x y v u q1 q2 rx ry => eqT_rep I q1 q2 (Nat.le_refl _) (hk d hd) rx ry
    have et : ((List.range (min us.toArray.size ws.toArray.size)).all (fun _ => true) && us.toArray.size == ws.toArray.size) = true := by rw [all_tt, sz]; simp
    refine PySem.W.eq_tuplesT (n := m1) p1 p2 it (by omega) ?_
    rw [et]
    exact ⟨.bl true, H, I, rfl, q⟩
  · obtain ⟨a, ks, rfl, _, ha, _, pr⟩ := h1
    obtain ⟨c, ls, rfl, _, hc, _, pr'⟩ := h2
    cases rx; cases ry
    obtain ⟨_, ya, va, ra, da⟩ := (show ObjOk X.prog X.w H s.heap a (.dK ks) from I.hok a _ ha)
    obtain ⟨_, yb, vb, rb, db⟩ := (show ObjOk X.prog X.w H s.heap c (.dK ls) from I.hok c _ hc)
    obtain ⟨et, it⟩ := dic_T pr pr' ra rb hk.1 fun p hp x y v u q1 q2 rx ry => eqT_rep I q1 q2 (Nat.le_refl _) (hk.2 p hp) rx ry
    refine PySem.W.eq_dictsT (knd := mixKind X.prog X.w) (n := m1) (e := fun _ => true) ya yb da db it (by omega) ?_
    rw [et]
    exact ⟨.bl true, H, I, rfl, q⟩
end
end Ssb

namespace Pk
open PySem PySem.Spec PyProof.Rows L2 Ssb
open Evl (Ex Ev EvT EvL EvA EvU)
def Tr (R : (Addr → Prop) → D → V → Prop) (S : Addr → Prop) (a : Addr) (ix : Addr → Nat) (l : List D) (xs : List V) : Prop := l.length = xs.length ∧ ∀ (i : Nat) (d : D) (x : V), l[i]? = some d → xs[i]? = some x → R (fun b => (S b ∧ b ≠ a) ∧ ix b = i) d x
def RepT (H : Hp) : Nat → (Addr → Prop) → D → V → Prop
  | 0, _, _, _ => False
  | _ + 1, _, .non, v => v = .non
  | _ + 1, _, .bl b, v => v = .bl b
  | _ + 1, _, .int i, v => v = .int i
  | _ + 1, _, .str s, v => v = .str s
  | n + 1, S, .lst l, v => ∃ a xs ix, v = .ref a ∧ S a ∧ H a = some (.lst xs) ∧ l.length ≤ 100000 ∧ Tr (fun S d v => RepT H n S d v) S a ix l xs
  | _ + 1, _, .tup _, _ => False
  | n + 1, S, .dic l, v => ∃ a es ix, v = .ref a ∧ S a ∧ H a = some (.dK es) ∧ l.length ≤ 100000 ∧ es.map (·.1) = l.map (fun q => (Sum.inr q.1 : Key)) ∧ Tr (fun S d v => RepT H n S d v) S a ix (l.map (·.2)) (es.map (·.2))
theorem tr_imp {R R' : (Addr → Prop) → D → V → Prop} {S S' : Addr → Prop} {a : Addr} {ix : Addr → Nat} {l : List D} {xs : List V} (h : ∀ i d x, R (fun b => (S b ∧ b ≠ a) ∧ ix b = i) d x → R' (fun b => (S' b ∧ b ≠ a) ∧ ix b = i) d x) (t : Tr R S a ix l xs) : Tr R' S' a ix l xs := ⟨t.1, fun i d x h1 h2 => h i d x (t.2 i d x h1 h2)⟩
theorem rt_to {H H' : Hp} : ∀ {n : Nat} {S : Addr → Prop} {d : D} {v : V}, (∀ b o, S b → H b = some o → H' b = some o) → RepT H n S d v → RepT H' n S d v
  | 0, _, _, _, _, h => h.elim
  | n + 1, S, d, v, k, h => by
    cases d with
    | non => exact h
    | bl b => exact h
    | int i => exact h
    | str s => exact h
    | tup l => exact h.elim
    | lst l =>
      obtain ⟨a, xs, ix, e, s, ha, hl, p⟩ := h
      exact ⟨a, xs, ix, e, s, k a _ s ha, hl, tr_imp (fun i d x r => rt_to (fun b o hb h => k b o hb.1.1 h) r) p⟩
    | dic l =>
      obtain ⟨a, es, ix, e, s, ha, hl, hk, p⟩ := h
      exact ⟨a, es, ix, e, s, k a _ s ha, hl, hk, tr_imp (fun i d x r => rt_to (fun b o hb h => k b o hb.1.1 h) r) p⟩
theorem rt_ex {H H' : Hp} {n : Nat} {S : Addr → Prop} {d : D} {v : V} (e : Ex H H') (h : RepT H n S d v) : RepT H' n S d v := rt_to (fun b o _ hb => e b o hb) h
theorem rt_S {H : Hp} : ∀ {n : Nat} {S S' : Addr → Prop} {d : D} {v : V}, (∀ b, S b → S' b) → RepT H n S d v → RepT H n S' d v
  | 0, _, _, _, _, _, h => h.elim
  | n + 1, S, S', d, v, k, h => by
    cases d with
    | non => exact h
    | bl b => exact h
    | int i => exact h
    | str s => exact h
    | tup l => exact h.elim
    | lst l =>
      obtain ⟨a, xs, ix, e, s, ha, hl, p⟩ := h
      exact ⟨a, xs, ix, e, k a s, ha, hl, tr_imp (fun i d x r => rt_S (fun b hb => ⟨⟨k b hb.1.1, hb.1.2⟩, hb.2⟩) r) p⟩
    | dic l =>
      obtain ⟨a, es, ix, e, s, ha, hl, hk, p⟩ := h
      exact ⟨a, es, ix, e, k a s, ha, hl, hk, tr_imp (fun i d x r => rt_S (fun b hb => ⟨⟨k b hb.1.1, hb.1.2⟩, hb.2⟩) r) p⟩
theorem rt_dom {H : Hp} : ∀ {n : Nat} {S : Addr → Prop} {d : D} {v : V}, RepT H n S d v → RepT H n (fun b => S b ∧ H b ≠ none) d v
  | 0, _, _, _, h => h.elim
  | n + 1, S, d, v, h => by
    cases d with
    | non => exact h
    | bl b => exact h
    | int i => exact h
    | str s => exact h
    | tup l => exact h.elim
    | lst l =>
      obtain ⟨a, xs, ix, e, s, ha, hl, p⟩ := h
      exact ⟨a, xs, ix, e, ⟨s, by rw [ha]; exact fun z => nomatch z⟩, ha, hl, tr_imp (fun i d x r => rt_S (fun b hb => ⟨⟨⟨hb.1.1.1, hb.2⟩, hb.1.1.2⟩, hb.1.2⟩) (rt_dom r)) p⟩
    | dic l =>
      obtain ⟨a, es, ix, e, s, ha, hl, hk, p⟩ := h
      exact ⟨a, es, ix, e, ⟨s, by rw [ha]; exact fun z => nomatch z⟩, ha, hl, hk, tr_imp (fun i d x r => rt_S (fun b hb => ⟨⟨⟨hb.1.1.1, hb.2⟩, hb.1.1.2⟩, hb.1.2⟩) (rt_dom r)) p⟩
theorem rt_Sd {H : Hp} {n : Nat} {S S' : Addr → Prop} {d : D} {v : V} (k : ∀ b, S b → H b ≠ none → S' b) (h : RepT H n S d v) : RepT H n S' d v := rt_S (fun b z => k b z.1 z.2) (rt_dom h)
theorem pair_of {α β : Type} {F : α → β → Prop} : ∀ {l : List α} {m : List β}, l.length = m.length → (∀ (i : Nat) (a : α) (b : β), l[i]? = some a → m[i]? = some b → F a b) → Paired F l m
  | [], [], _, _ => .nil
  | [], _ :: _, h, _ => nomatch h
  | _ :: _, [], h, _ => nomatch h
  | a :: l, b :: m, h, k => .cons (k 0 a b rfl rfl) (pair_of (Nat.succ.inj h) fun i x y h1 h2 => k (i + 1) x y h1 h2)
theorem rt_rep {H : Hp} : ∀ {n : Nat} {S : Addr → Prop} {d : D} {v : V}, RepT H n S d v → Rep H n S d v
  | 0, _, _, _, h => h.elim
  | n + 1, S, d, v, h => by
    cases d with
    | non => exact h
    | bl b => exact h
    | int i => exact h
    | str s => exact h
    | tup l => exact h.elim
    | lst l =>
      obtain ⟨a, xs, ix, e, s, ha, hl, p⟩ := h
      exact ⟨a, xs, e, s, ha, hl, pair_of p.1 fun i d x h1 h2 => rep_S (fun b hb => hb.1.1) (rt_rep (p.2 i d x h1 h2))⟩
    | dic l =>
      obtain ⟨a, es, ix, e, s, ha, hl, hk, p⟩ := h
      have le : l.length = es.length := by have := p.1; rw [List.length_map, List.length_map] at this; exact this
      refine ⟨a, es, e, s, ha, hl, pair_of le fun i q en h1 h2 => ⟨?_, rep_S (fun b hb => hb.1) (rt_rep (p.2 i q.2 en.2 (by rw [List.getElem?_map, h1]; rfl) (by rw [List.getElem?_map, h2]; rfl)))⟩⟩
      have := congrArg (fun l => l[i]?) hk
      simp only [List.getElem?_map, h1, h2] at this
      exact Option.some.inj this
/-- one more part, younger than Hk -/
theorem tr_snoc {R : (Addr → Prop) → D → V → Prop} {S : Addr → Prop} {a : Addr} {ix : Addr → Nat} {l : List D} {xs : List V} {Hk : Hp} {d : D} {x : V} (mono : ∀ S S' d x, (∀ b, S b → S' b) → R S d x → R S' d x)
    (t : Tr R (fun b => S b ∧ Hk b ≠ none) a ix l xs) (h : R (fun b => (S b ∧ b ≠ a) ∧ Hk b = none) d x) : ∃ ix', Tr R S a ix' (l ++ [d]) (xs ++ [x]) := by
  refine ⟨fun b => if (Hk b).isNone = true then l.length else ix b, by rw [List.length_append, List.length_append, t.1]; rfl, fun i d' x' h1 h2 => ?_⟩
  by_cases hi : i < l.length
  · rw [List.getElem?_append_left hi] at h1
    rw [List.getElem?_append_left (by rw [← t.1]; exact hi)] at h2
    refine mono _ _ _ _ (fun b hb => ⟨⟨hb.1.1.1, hb.1.2⟩, ?_⟩) (t.2 i d' x' h1 h2)
    have : ¬ (Hk b).isNone = true := by
      cases e : Hk b with
      | none => exact absurd e hb.1.1.2
      | some o => exact fun z => nomatch z
    show (if (Hk b).isNone = true then l.length else ix b) = i
    rw [if_neg this]; exact hb.2
  · rw [List.getElem?_append_right (by omega)] at h1
    rw [List.getElem?_append_right (by rw [← t.1]; omega)] at h2
    have ei : i = l.length := by
      cases hc : i - l.length with
      | zero => omega
      | succ m => rw [hc] at h1; cases h1
    subst ei
    rw [Nat.sub_self] at h1
    rw [← t.1, Nat.sub_self] at h2
    cases h1
    cases h2
    refine mono _ _ _ _ (fun b hb => ⟨hb.1, ?_⟩) h
    show (if (Hk b).isNone = true then l.length else ix b) = l.length
    rw [if_pos (by rw [hb.2]; rfl)]
theorem rt_upd {H : Hp} {n : Nat} {S : Addr → Prop} {d : D} {v : V} {a : Addr} {u : HO} (hS : ∀ b, S b → b ≠ a) (h : RepT H n S d v) : RepT (upd H a u) n S d v :=
  rt_to (fun b o hb h => by rw [upd_ne (hS b hb)]; exact h) h
theorem tr_nil {R : (Addr → Prop) → D → V → Prop} {S : Addr → Prop} {a : Addr} {ix : Addr → Nat} : Tr R S a ix [] [] := ⟨rfl, fun _ _ _ h => by simp at h⟩
theorem tr_step {H' H3 : Hp} {n : Nat} {S : Addr → Prop} {Dl : Addr} {o0 o : HO} {ix : Addr → Nat} {l : List D} {ys : List V} {d : D} {v3 : V} (e3 : Ex H' H3) (hDl : H' Dl = some o0) (back : ∀ b, H' b = none → S b)
    (t : Tr (fun S d v => RepT H' n S d v) S Dl ix l ys) (h : RepT H3 n (fun b => H' b = none) d v3) : ∃ ix', Tr (fun S d v => RepT (upd H3 Dl o) n S d v) S Dl ix' (l ++ [d]) (ys ++ [v3]) := by
  refine tr_snoc (Hk := H') (ix := ix) (fun S S' d x k r => rt_S k r) (tr_imp (fun i d x r => ?_) t) ?_
  · exact rt_S (fun b hb => ⟨⟨⟨hb.1.1.1, hb.2⟩, hb.1.1.2⟩, hb.1.2⟩) (rt_upd (fun b hb => hb.1.1.2) (rt_ex e3 (rt_dom r)))
  · have nD : ∀ b, H' b = none → b ≠ Dl := fun b hb z => by rw [z, hDl] at hb; cases hb
    exact rt_S (fun b hb => ⟨⟨back b hb, nD b hb⟩, hb⟩) (rt_upd nD h)
theorem List.map_map_inr {α : Type} {l : List (Str × α)} : (l.map (·.1)).map (Sum.inr : Str → Key) = l.map fun q => (Sum.inr q.1 : Key) := by rw [List.map_map]; rfl
section
variable {P : Program} {w : World} {K : PySem.W.Frag} {mg : Str → Option Value} {base : Heap} {C_Shape C_LimitExceeded C_InvalidDeed C_StayError C_FORMS : Addr}
def spCopyT (n : Nat) : Sp := fun vs H Q _ => ∃ (v : V) (P : Addr → Prop) (d : D), vs = [v] ∧ Rep H n P d v ∧ pl n d ∧ ∀ H' v', Ex H H' → RepT H' n (fun b => H b = none) d v' → Q v' H'
theorem ok__law_copyT (T : Txt K mg C_Shape C_LimitExceeded C_InvalidDeed C_StayError C_FORMS) (R : Prg K mg C_Shape C_LimitExceeded C_InvalidDeed C_StayError C_FORMS) : ∀ n, ∃ f fd, Fn P w K mg base "_law_copy" (n + 1) ["_law_value"] (spCopyT n) f fd
  | 0 => by
    obtain ⟨f, fd, at_, F, kp⟩ := R._law_copy
    refine ⟨f, fd, F.ok sc__law_copy (fun vs H Q E h => ?_) (fun cdv A outer s H vs Q E hr h => ?_), at_, kp, F.binds (fun _ _ _ _ _ _ us hl => match us, hl with | [_], _ => rfl)⟩
    · obtain ⟨v, P, d, rfl, _⟩ := h; rfl
    · obtain ⟨v, P, d, rfl, h, _⟩ := h; exact h.elim
  | n + 1 => by
    obtain ⟨_, _, G__law_copy⟩ := ok__law_copyT T R n
    obtain ⟨f, fd, at_, F, kp⟩ := R._law_copy
    refine ⟨f, fd, F.ok sc__law_copy (fun vs H Q E h => ?_) (fun cdv A outer s H vs Q E hr h => ?_), at_, kp, F.binds (fun _ _ _ _ _ _ us hl => match us, hl with | [_], _ => rfl)⟩
    · obtain ⟨v, P, d, rfl, _⟩ := h; rfl
    · obtain ⟨v, PP, d, rfl, hv, hkn, k⟩ := h
      refine ⟨_, (pss_cons (ps_if (pt_val (pe_callB (r := rIsi K) call_isi (by rfl) T.isinstance (by decide +kernel) (pa_cons (pv 0) (pa_cons (pe_bltn (v := .ty "list") (by rfl) T.list boot_list rfl) pa_nil)))) (pss_one (ps_ret (pe_lc (own := [("_law_part", 3)]) rfl sc__law_copy.nd (show PI _ _ _ (iList K _) from pi_list (pv 0)) (blkOk_by (own := [("_law_part", 3)]) (N := ["_law_value", "_law_result", "_law_name", "_law_part"]) (sc := defScope s__law_copy) (by decide +kernel)) (fun _ _ _ _ _ => (pg_name (i := 3) sc__law_copy.nd rfl (Or.inl rfl))) (fun _ _ _ _ _ => pts_nil) (fun _ _ _ _ _ => (pcl G__law_copy hr (pa_cons (pv 3) pa_nil)))))) pss_nil)
  (pss_cons (ps_if (pt_val (pe_callB (r := rIsi K) call_isi (by rfl) T.isinstance (by decide +kernel) (pa_cons (pv 0) (pa_cons (pe_bltn (v := .ty "tuple") (by rfl) T.tuple boot_tuple rfl) pa_nil)))) (pss_one (ps_ret (pe_callTy (r := rTupA K) call_tuple_of (by rfl) T.tuple (by decide +kernel) (pa_cons (pe_lc (own := [("_law_part", 3)]) rfl sc__law_copy.nd (show PI _ _ _ (iTup K _) from pi_tup (pv 0)) (blkOk_by (own := [("_law_part", 3)]) (N := ["_law_value", "_law_result", "_law_name", "_law_part"]) (sc := defScope s__law_copy) (by decide +kernel)) (fun _ _ _ _ _ => (pg_name (i := 3) sc__law_copy.nd rfl (Or.inl rfl))) (fun _ _ _ _ _ => pts_nil) (fun _ _ _ _ _ => (pcl G__law_copy hr (pa_cons (pv 3) pa_nil)))) pa_nil)))) pss_nil)
  (pss_cons (ps_if (pt_val (pe_callB (r := rIsi K) call_isi (by rfl) T.isinstance (by decide +kernel) (pa_cons (pv 0) (pa_cons (pe_bltn (v := .ty "dict") (by rfl) T.dict boot_dict rfl) pa_nil)))) (pss_cons (ps_set (i := 1) sc__law_copy.nd rfl (Or.inl rfl) pe_dnewK)
  (pss_cons (ps_lock (ps_for PassesOwn.never rfl (pi_keys (pv 0)) (pg_name (i := 2) sc__law_copy.nd rfl (Or.inl rfl))
    (pss_one (ps_dput (hu_of hr) (pv 1) (pv 2) (pcl G__law_copy hr (pa_cons (pe_dget (hu_of hr) (pv 0) (pv 2) (fun _ _ => rfl)) pa_nil)) rfl))))
  (pss_one (ps_ret (pv 1))))) pss_nil)
  (pss_one (ps_ret (pv 0)))))), ?_⟩
      -- a part of a list or a tuple
      have kidL : ∀ {l : List D} {xs : List V} {H1 : Hp} {Q2 : VK} {J : It}, Walk J xs.length (fun H' => Ex H1 H') (YAt xs) → xs.length ≤ 100000 → Paired (fun d x => Rep H1 n PP d x) l xs → (∀ x ∈ l, pl n x) → (∀ H' Dl ys ix, H1 Dl = none → Ex H1 H' → H' Dl = some (.lst ys) → Tr (fun S d v => RepT H' n S d v) (fun b => H1 b = none) Dl ix l ys → Q2 (.ref Dl) H') →
          ∀ Dl, H1 Dl = none → ∃ W : Nat → Nat → Hp → Prop, (∃ m, W 0 m (upd H1 Dl (.lst []))) ∧ ∀ i m H, W i m H → (J.stop i H ∧ Q2 (.ref Dl) H) ∨ (J.go i H ∧ ∃ Nx : Hp → Prop, (∀ H', Nx H' → ∃ m', m' < m ∧ W (i + 1) m' H') ∧ ∀ x H', J.yld i H x H' → gName 3 x (wipe [some v, none, none, none] [3]) H' fun σ2 H2 => wipe σ2 [3] = wipe [some v, none, none, none] [3] ∧ tYes σ2 H2 fun b H3 =>
            if b = true then tCall (spCopyT n) [] E0 (tCons (tVar 3) tNil) σ2 H3 fun y H4 => ∃ acc, H4 Dl = some (.lst acc) ∧ acc.length < sizeLine ∧ Nx (upd H4 Dl (.lst (acc ++ [y]))) else Nx H3) := by
        intro l xs H1 Q2 J wk l5 pr hk q Dl hD
        refine lc_it wk (fun i H' => Ex H1 H' ∧ ∃ ys ix, H' Dl = some (.lst ys) ∧ Tr (fun S d v => RepT H' n S d v) (fun b => H1 b = none) Dl ix (l.take i) ys) ⟨Ex.new hD, [], fun _ => 0, upd_same, tr_nil⟩ (fun i H' _ p => p.1) (fun i x H0 H' hi pv y => ?_) fun H' pv => ?_
        · obtain ⟨e, ys, ix, hys, pys⟩ := pv
          obtain ⟨rfl, hx⟩ := y
          obtain ⟨dx, hdx, hrx⟩ := pair_back pr hx
          refine ⟨rfl, ?_⟩
          refine yes_go ?_
          refine ⟨_, rfl, x, PP, dx, rfl, rep_ex e hrx, hk _ (List.mem_of_getElem? hdx), fun H3 v3 e3 hr3 => ⟨ys, e3 _ _ hys, ?_, ?_⟩⟩
          · rw [← pys.1, List.length_take]; exact Evl.sz_lt (by omega)
          · obtain ⟨ix', t'⟩ := tr_step (o := .lst (ys ++ [v3])) e3 hys (fun b hb => Evl.fresh_back e hb) pys hr3
            rw [take_snoc hdx]
            exact ⟨Ex.mut (e.trans e3) hD, ys ++ [v3], ix', upd_same, t'⟩
        · obtain ⟨e, ys, ix, hys, pys⟩ := pv
          rw [← pair_len pr, List.take_of_length_le (Nat.le_refl _)] at pys
          exact q H' Dl ys ix hD e hys pys
      have leaf : ∀ {H1 : Hp}, Ex H H1 → (∀ l, d ≠ .lst l) → (∀ l, d ≠ .tup l) → (∀ l, d ≠ .dic l) → Q v H1 := fun {H1} e1 a b c => by
        refine k H1 v e1 ?_
        cases d with
        | lst l => exact absurd rfl (a l)
        | tup l => exact absurd rfl (b l)
        | dic l => exact absurd rfl (c l)
        | non => exact (show False from hkn).elim
        | bl b => exact hv
        | int i => exact hv
        | str s => exact hv
      have skip1 : (∀ l, d ≠ .lst l) → kitB (dT d) "list" = some false := fun a => by
        refine kit_list _ ?_
        cases d with
        | lst l => exact absurd rfl (a l)
        | _ => simp [dT]
      have skip2 : (∀ l, d ≠ .tup l) → kitB (dT d) "tuple" = some false := fun a => by
        refine kit_tuple _ ?_
        cases d with
        | tup l => exact absurd rfl (a l)
        | _ => simp [dT]
      have skip3 : (∀ l, d ≠ .dic l) → kitB (dT d) "dict" = some false := fun a => by
        refine kit_dict _ ?_
        cases d with
        | dic l => exact absurd rfl (a l)
        | _ => simp [dT]
      by_cases c1 : ∃ l, d = .lst l
      · obtain ⟨l, rfl⟩ := c1
        obtain ⟨a, xs, rfl, _, ha, l5, pr⟩ := id hv
        refine Evl.q_when (b := true) (Evl.et_B (ev_kind (d := .lst l) true (Evl.ev_var rfl) hv (show kitB "list" "list" = some true by decide +kernel))) (fun _ H1 e1 => ?_) (fun h => nomatch h)
        have hv1 := pair_imp pr fun a b h => rep_ex e1 h
        refine ⟨_, rfl, a, rfl, ⟨_, Evl.sq_of (e1 _ _ ha)⟩, kidL (walk_list.mono (fun H' e => Evl.sq_of (e _ _ (e1 _ _ ha))) fun i H v H' _ _ y => y) (by rw [← pair_len pr]; exact l5) hv1 hkn fun H' Dl ys ix hD e hys pys => ?_⟩
        exact k H' _ (e1.trans e) ⟨Dl, ys, ix, rfl, Evl.fresh_back e1 hD, hys, l5, tr_imp (fun i d x r => rt_S (fun b hb => ⟨⟨Evl.fresh_back e1 hb.1.1, hb.1.2⟩, hb.2⟩) r) pys⟩
      have c1 : ∀ l, d ≠ .lst l := fun l e => c1 ⟨l, e⟩
      refine Evl.q_when (b := false) (Evl.et_B (ev_kind false (Evl.ev_var rfl) hv (skip1 c1))) (fun h => nomatch h) fun _ H1 e1 => ?_
      have hv1 := rep_ex e1 hv
      by_cases c2 : ∃ l, d = .tup l
      · obtain ⟨l, rfl⟩ := c2
        exact (show False from hkn).elim
      have c2 : ∀ l, d ≠ .tup l := fun l e => c2 ⟨l, e⟩
      refine Evl.q_when (b := false) (Evl.et_B (ev_kind false (Evl.ev_var rfl) hv1 (skip2 c2))) (fun h => nomatch h) fun _ H2 e2 => ?_
      have hv2 := rep_ex e2 hv1
      have e12 := e1.trans e2
      by_cases c3 : ∃ l, d = .dic l
      · obtain ⟨l, rfl⟩ := c3
        obtain ⟨a, es, rfl, _, ha, l5, pr⟩ := id hv2
        have ekeys := pair_keys pr
        have le := pair_len pr
        refine Evl.q_when (b := true) (Evl.et_B (ev_kind (d := .dic l) true (Evl.ev_var rfl) hv2 (show kitB "dict" "dict" = some true by decide +kernel))) (fun _ H3 e3 => ?_) (fun h => nomatch h)
        have ha3 := e3 _ _ ha
        have e13 := e12.trans e3
        intro a1 h1
        have n1a : a1 ≠ a := fun e => by rw [e, ha3] at h1; cases h1
        refine for_lock (J := fun od => Itk a od es) (xs := fun _ => none) (d := a) (es := es) (by rw [upd_ne n1a.symm]; exact ha3) (fun od R r => ⟨_, rfl, a, od, rfl, .inl ⟨es, upd_same, r⟩⟩) (fun od => walk_keys) (fun od j σ' H' => ∃ (es' : List (Key × V)) (o2 : Option V) (ix : Addr → Nat), σ' = [some (.ref a), some (.ref a1), o2, none] ∧ Ex (upd H3 a (.frz od (.dK es))) H' ∧ H' a1 = some (.dK es') ∧ es'.map (·.1) = (l.take j).map (fun q => (Sum.inr q.1 : Key)) ∧ Tr (fun S d v => RepT H' n S d v) (fun b => H3 b = none) a1 ix ((l.take j).map (·.2)) (es'.map (·.2)))
          (fun od => ⟨[], _, fun _ => 0, rfl, fun b o hb => ?_, by rw [upd_ne n1a]; exact upd_same, rfl, tr_nil⟩) (fun od j σ' H' _ ⟨_, _, _, _, e, _⟩ => e _ _ upd_same) (fun od j x σ' H0 H' hlt pv y => ?_) fun od σ' H' pv => ?_
        · by_cases e : b = a
          · rw [e] at hb ⊢; rw [upd_same] at hb ⊢; exact hb
          · rw [upd_ne e] at hb ⊢
            have : b ≠ a1 := fun z => by rw [z, h1] at hb; cases hb
            rw [upd_ne this]; exact hb
        · obtain ⟨es', o2, ix, rfl, e, h1', pk, pes⟩ := pv
          obtain ⟨rfl, kk, vj, hkv, rfl⟩ := y
          obtain ⟨⟨nm, dj⟩, hdj, hk, hrj⟩ := pair_back pr hkv
          have hk : kk = Sum.inr nm := hk
          subst hk
          have hvj : valV es (Sum.inr nm : Key) = some vj := valV_at (by rw [ekeys]; exact inr_nd hkn.1) hkv
          have hrj' := rep_in ha3 e (rep_ex e3 hrj)
          refine ⟨_, rfl, _, rfl, a, vj, rfl, .inl ⟨es, Sum.inr nm, .inr ⟨od, e _ _ upd_same⟩, rfl, hvj.symm⟩, vj, _, dj, rfl, hrj', hkn.2 _ (List.mem_of_getElem? hdj), fun H4 v4 e4 hr4 => ?_⟩
          have nv : valV es' (Sum.inr nm : Key) = none := vV_no (by rw [pk, ← List.map_map_inr, List.map_take]; exact inr_not (not_take hkn.1 (by rw [List.getElem?_map, hdj]; rfl)))
          have back : ∀ b, H' b = none → H3 b = none := fun b hb => by
            have := Evl.fresh_back e hb
            by_cases z : b = a
            · rw [z, upd_same] at this; cases this
            · rw [upd_ne z] at this; exact this
          have le' : es'.length = (l.take j).length := by have := congrArg List.length pk; simpa using this
          obtain ⟨ix', t'⟩ := tr_step (o := .dK (es' ++ [(Sum.inr nm, v4)])) e4 h1' back pes hr4
          refine ⟨_, rfl, _, rfl, a1, _, rfl, .inl ⟨es', Sum.inr nm, e4 _ _ h1', rfl, ?_, rfl⟩, es' ++ [(Sum.inr nm, v4)], _, ix', rfl, Ex.mut (e.trans e4) (by rw [upd_ne n1a]; exact h1), by rw [upd_same, putK_new _ nv], ?_, ?_⟩
          · rw [le', List.length_take]; exact Evl.sz_lt (by omega)
          · rw [take_snoc hdj, List.map_append, List.map_append, pk]; rfl
          · rw [take_snoc hdj, List.map_append, List.map_append, putK_new _ nv]; exact t'
        · obtain ⟨es', o2, ix, rfl, e, h1', pk, pes⟩ := pv
          rw [← le, List.take_of_length_le (Nat.le_refl _)] at pes pk
          have eu : Ex H3 (upd H' a (.dK es)) := unlock ha3 e
          have fin : Tr (fun S d v => RepT (upd H' a (.dK es)) n S d v) (fun b => H b = none) a1 ix (l.map (·.2)) (es'.map (·.2)) := tr_imp (fun i d x r => rt_S (fun b hb => ⟨⟨Evl.fresh_back e13 hb.1.1, hb.1.2⟩, hb.2⟩) (rt_upd (fun b hb z => by have := hb.1.1; rw [z, ha3] at this; cases this) r)) pes
          exact Evl.s_ret (Evl.ev_var rfl) fun H7 e7 => k H7 _ (e13.trans (eu.trans e7)) (rt_ex e7 ⟨a1, es', ix, rfl, Evl.fresh_back e13 h1, by rw [upd_ne n1a]; exact h1', l5, pk, fin⟩)
      have c3 : ∀ l, d ≠ .dic l := fun l e => c3 ⟨l, e⟩
      refine Evl.q_when (b := false) (Evl.et_B (ev_kind false (Evl.ev_var rfl) hv2 (skip3 c3))) (fun h => nomatch h) fun _ H3 e3 => Evl.s_ret (Evl.ev_var rfl) fun H4 e4 => leaf (e12.trans (e3.trans e4)) c1 c2 c3
def spFreshT (n : Nat) : Sp := spCopyT n
theorem ok_freshT (T : Txt K mg C_Shape C_LimitExceeded C_InvalidDeed C_StayError C_FORMS) (R : Prg K mg C_Shape C_LimitExceeded C_InvalidDeed C_StayError C_FORMS) : ∀ n, ∃ f fd, Fn P w K mg base "fresh" (n + 1) ["value"] (spFreshT n) f fd
  | 0 => by
    obtain ⟨f, fd, at_, F, kp⟩ := R.fresh
    refine ⟨f, fd, F.ok sc_fresh (fun vs H Q E h => ?_) (fun cdv A outer s H vs Q E hr h => ?_), at_, kp, F.binds (fun _ _ _ _ _ _ us hl => match us, hl with | [_], _ => rfl)⟩
    · obtain ⟨v, P, d, rfl, _⟩ := h; rfl
    · obtain ⟨v, P, d, rfl, h, _⟩ := h; exact h.elim
  | n + 1 => by
    obtain ⟨_, _, G_fresh⟩ := ok_freshT T R n
    obtain ⟨f, fd, at_, F, kp⟩ := R.fresh
    refine ⟨f, fd, F.ok sc_fresh (fun vs H Q E h => ?_) (fun cdv A outer s H vs Q E hr h => ?_), at_, kp, F.binds (fun _ _ _ _ _ _ us hl => match us, hl with | [_], _ => rfl)⟩
    · obtain ⟨v, P, d, rfl, _⟩ := h; rfl
    · obtain ⟨v, PP, d, rfl, hv, hkn, k⟩ := h
      refine ⟨_, (pss_cons (ps_if (pt_val (pe_callB (r := rIsi K) call_isi (by rfl) T.isinstance (by decide +kernel) (pa_cons (pv 0) (pa_cons (pe_bltn (v := .ty "list") (by rfl) T.list boot_list rfl) pa_nil)))) (pss_one (ps_ret (pe_lc (own := [("one", 1)]) rfl sc_fresh.nd (show PI _ _ _ (iList K _) from pi_list (pv 0)) (blkOk_by (own := [("one", 1)]) (N := ["value", "one", "key"]) (sc := defScope s_fresh) (by decide +kernel)) (fun _ _ _ _ _ => (pg_name (i := 1) sc_fresh.nd rfl (Or.inl rfl))) (fun _ _ _ _ _ => pts_nil) (fun _ _ _ _ _ => (pcl G_fresh hr (pa_cons (pv 1) pa_nil)))))) pss_nil)
  (pss_cons (ps_if (pt_val (pe_callB (r := rIsi K) call_isi (by rfl) T.isinstance (by decide +kernel) (pa_cons (pv 0) (pa_cons (pe_bltn (v := .ty "tuple") (by rfl) T.tuple boot_tuple rfl) pa_nil)))) pss_never pss_nil)
  (pss_cons (ps_if (pt_val (pe_callB (r := rIsi K) call_isi (by rfl) T.isinstance (by decide +kernel) (pa_cons (pv 0) (pa_cons (pe_bltn (v := .ty "dict") (by rfl) T.dict boot_dict rfl) pa_nil)))) (pss_one (ps_ret (pe_lock (pe_dc (own := [("key", 2), ("one", 1)]) rfl sc_fresh.nd (pi_items (pv 0)) (blkOk_by (own := [("key", 2), ("one", 1)]) (N := ["value", "one", "key"]) (sc := defScope s_fresh) (by decide +kernel)) (fun _ _ _ _ _ => (show PG _ _ (gTup K 2 _) from pg_tup (n := 2) rfl (pgs_cons (pg_name (i := 2) sc_fresh.nd rfl (Or.inl rfl)) (pgs_cons (pg_name (i := 1) sc_fresh.nd rfl (Or.inl rfl)) pgs_nil)))) (fun _ _ _ _ _ => pts_nil) (fun _ _ _ _ _ => (pv 2)) (fun _ _ _ _ _ => (pcl G_fresh hr (pa_cons (pv 1) pa_nil))))))) pss_nil)
  (pss_one (ps_ret (pv 0)))))), ?_⟩
      -- a part of a list or a tuple
      have kidL : ∀ {l : List D} {xs : List V} {H1 : Hp} {Q2 : VK} {J : It}, Walk J xs.length (fun H' => Ex H1 H') (YAt xs) → xs.length ≤ 100000 → Paired (fun d x => Rep H1 n PP d x) l xs → (∀ x ∈ l, pl n x) → (∀ H' Dl ys ix, H1 Dl = none → Ex H1 H' → H' Dl = some (.lst ys) → Tr (fun S d v => RepT H' n S d v) (fun b => H1 b = none) Dl ix l ys → Q2 (.ref Dl) H') →
          ∀ Dl, H1 Dl = none → ∃ W : Nat → Nat → Hp → Prop, (∃ m, W 0 m (upd H1 Dl (.lst []))) ∧ ∀ i m H, W i m H → (J.stop i H ∧ Q2 (.ref Dl) H) ∨ (J.go i H ∧ ∃ Nx : Hp → Prop, (∀ H', Nx H' → ∃ m', m' < m ∧ W (i + 1) m' H') ∧ ∀ x H', J.yld i H x H' → gName 1 x (wipe [some v, none, none] [1]) H' fun σ2 H2 => wipe σ2 [1] = wipe [some v, none, none] [1] ∧ tYes σ2 H2 fun b H3 =>
            if b = true then tCall (spFreshT n) [] E0 (tCons (tVar 1) tNil) σ2 H3 fun y H4 => ∃ acc, H4 Dl = some (.lst acc) ∧ acc.length < sizeLine ∧ Nx (upd H4 Dl (.lst (acc ++ [y]))) else Nx H3) := by
        intro l xs H1 Q2 J wk l5 pr hk q Dl hD
        refine lc_it wk (fun i H' => Ex H1 H' ∧ ∃ ys ix, H' Dl = some (.lst ys) ∧ Tr (fun S d v => RepT H' n S d v) (fun b => H1 b = none) Dl ix (l.take i) ys) ⟨Ex.new hD, [], fun _ => 0, upd_same, tr_nil⟩ (fun i H' _ p => p.1) (fun i x H0 H' hi pv y => ?_) fun H' pv => ?_
        · obtain ⟨e, ys, ix, hys, pys⟩ := pv
          obtain ⟨rfl, hx⟩ := y
          obtain ⟨dx, hdx, hrx⟩ := pair_back pr hx
          refine ⟨rfl, ?_⟩
          refine yes_go ?_
          refine ⟨_, rfl, x, PP, dx, rfl, rep_ex e hrx, hk _ (List.mem_of_getElem? hdx), fun H3 v3 e3 hr3 => ⟨ys, e3 _ _ hys, ?_, ?_⟩⟩
          · rw [← pys.1, List.length_take]; exact Evl.sz_lt (by omega)
          · obtain ⟨ix', t'⟩ := tr_step (o := .lst (ys ++ [v3])) e3 hys (fun b hb => Evl.fresh_back e hb) pys hr3
            rw [take_snoc hdx]
            exact ⟨Ex.mut (e.trans e3) hD, ys ++ [v3], ix', upd_same, t'⟩
        · obtain ⟨e, ys, ix, hys, pys⟩ := pv
          rw [← pair_len pr, List.take_of_length_le (Nat.le_refl _)] at pys
          exact q H' Dl ys ix hD e hys pys
      have leaf : ∀ {H1 : Hp}, Ex H H1 → (∀ l, d ≠ .lst l) → (∀ l, d ≠ .tup l) → (∀ l, d ≠ .dic l) → Q v H1 := fun {H1} e1 a b c => by
        refine k H1 v e1 ?_
        cases d with
        | lst l => exact absurd rfl (a l)
        | tup l => exact absurd rfl (b l)
        | dic l => exact absurd rfl (c l)
        | non => exact (show False from hkn).elim
        | bl b => exact hv
        | int i => exact hv
        | str s => exact hv
      have skip1 : (∀ l, d ≠ .lst l) → kitB (dT d) "list" = some false := fun a => by
        refine kit_list _ ?_
        cases d with
        | lst l => exact absurd rfl (a l)
        | _ => simp [dT]
      have skip2 : (∀ l, d ≠ .tup l) → kitB (dT d) "tuple" = some false := fun a => by
        refine kit_tuple _ ?_
        cases d with
        | tup l => exact absurd rfl (a l)
        | _ => simp [dT]
      have skip3 : (∀ l, d ≠ .dic l) → kitB (dT d) "dict" = some false := fun a => by
        refine kit_dict _ ?_
        cases d with
        | dic l => exact absurd rfl (a l)
        | _ => simp [dT]
      by_cases c1 : ∃ l, d = .lst l
      · obtain ⟨l, rfl⟩ := c1
        obtain ⟨a, xs, rfl, _, ha, l5, pr⟩ := id hv
        refine Evl.q_when (b := true) (Evl.et_B (ev_kind (d := .lst l) true (Evl.ev_var rfl) hv (show kitB "list" "list" = some true by decide +kernel))) (fun _ H1 e1 => ?_) (fun h => nomatch h)
        have hv1 := pair_imp pr fun a b h => rep_ex e1 h
        refine ⟨_, rfl, a, rfl, ⟨_, Evl.sq_of (e1 _ _ ha)⟩, kidL (walk_list.mono (fun H' e => Evl.sq_of (e _ _ (e1 _ _ ha))) fun i H v H' _ _ y => y) (by rw [← pair_len pr]; exact l5) hv1 hkn fun H' Dl ys ix hD e hys pys => ?_⟩
        exact k H' _ (e1.trans e) ⟨Dl, ys, ix, rfl, Evl.fresh_back e1 hD, hys, l5, tr_imp (fun i d x r => rt_S (fun b hb => ⟨⟨Evl.fresh_back e1 hb.1.1, hb.1.2⟩, hb.2⟩) r) pys⟩
      have c1 : ∀ l, d ≠ .lst l := fun l e => c1 ⟨l, e⟩
      refine Evl.q_when (b := false) (Evl.et_B (ev_kind false (Evl.ev_var rfl) hv (skip1 c1))) (fun h => nomatch h) fun _ H1 e1 => ?_
      have hv1 := rep_ex e1 hv
      by_cases c2 : ∃ l, d = .tup l
      · obtain ⟨l, rfl⟩ := c2
        exact (show False from hkn).elim
      have c2 : ∀ l, d ≠ .tup l := fun l e => c2 ⟨l, e⟩
      refine Evl.q_when (b := false) (Evl.et_B (ev_kind false (Evl.ev_var rfl) hv1 (skip2 c2))) (fun h => nomatch h) fun _ H2 e2 => ?_
      have hv2 := rep_ex e2 hv1
      have e12 := e1.trans e2
      by_cases c3 : ∃ l, d = .dic l
      · obtain ⟨l, rfl⟩ := c3
        obtain ⟨a, es, rfl, _, ha, l5, pr⟩ := id hv2
        have ekeys := pair_keys pr
        have le := pair_len pr
        refine Evl.q_when (b := true) (Evl.et_B (ev_kind (d := .dic l) true (Evl.ev_var rfl) hv2 (show kitB "dict" "dict" = some true by decide +kernel))) (fun _ H3 e3 => ?_) (fun h => nomatch h)
        have ha3 := e3 _ _ ha
        have e13 := e12.trans e3
        refine ⟨a, .dK es, ha3, trivial, fun od => ⟨_, rfl, a, od, es, rfl, upd_same, fun Dl hD => ?_⟩⟩
        have nDa : Dl ≠ a := fun e => by rw [e, upd_same] at hD; cases hD
        have hD3 : H3 Dl = none := by rw [upd_ne nDa] at hD; exact hD
        refine dc_it walk_items (vs := [2, 1]) (fun i H' => ∃ (es' : List (Key × V)) (ix : Addr → Nat), Ex (upd H3 a (.frz od (.dK es))) H' ∧ H' Dl = some (.dK es') ∧ es'.map (·.1) = (l.take i).map (fun q => (Sum.inr q.1 : Key)) ∧ Tr (fun S d v => RepT H' n S d v) (fun b => H3 b = none) Dl ix ((l.take i).map (·.2)) (es'.map (·.2))) ⟨[], fun _ => 0, Ex.new hD, upd_same, rfl, tr_nil⟩ (fun i H' _ ⟨_, _, e, _⟩ => e _ _ upd_same) (fun i x H0 H' hlt pv y => ?_) fun H' pv => ?_
        · obtain ⟨es', ix, e, h1', pk, pes⟩ := pv
          obtain ⟨Tq, x1, y1, rfl, nT, rfl, hx1, hy1⟩ := y
          obtain ⟨⟨kk, vj⟩, hkv, rfl⟩ := Option.map_eq_some_iff.mp hx1
          have hy1 : es[i]?.map Prod.snd = some y1 := hy1
          rw [hkv] at hy1
          cases hy1
          obtain ⟨⟨nm, dj⟩, hdj, hk, hrj⟩ := pair_back pr hkv
          have hk : kk = Sum.inr nm := hk
          subst hk
          have eT := Ex.new (o := .tup [kV (Sum.inr nm : Key), vj]) nT
          refine ⟨Tq, _, rfl, Evl.st_of upd_same, rfl, _, _, rfl, _, _, rfl, rfl, ?_⟩
          have hrj' := rep_ex eT (rep_in ha3 e (rep_ex e3 hrj))
          have e := e.trans eT
          have h1' := eT _ _ h1'
          have pes := tr_imp (R' := fun S d v => RepT (upd H0 Tq (.tup [kV (Sum.inr nm : Key), vj])) n S d v) (fun i d x r => rt_ex eT r) pes
          generalize (upd H0 Tq (.tup [kV (Sum.inr nm : Key), vj])) = HT at e h1' pes hrj' ⊢
          refine ⟨rfl, yes_go ?_⟩
          refine ⟨_, rfl, _, rfl, vj, _, dj, rfl, hrj', hkn.2 _ (List.mem_of_getElem? hdj), fun H4 v4 e4 hr4 => ?_⟩
          have nv : valV es' (Sum.inr nm : Key) = none := vV_no (by rw [pk, ← List.map_map_inr, List.map_take]; exact inr_not (not_take hkn.1 (by rw [List.getElem?_map, hdj]; rfl)))
          have back : ∀ b, HT b = none → H3 b = none := fun b hb => by
            have := Evl.fresh_back e hb
            by_cases z : b = a
            · rw [z, upd_same] at this; cases this
            · rw [upd_ne z] at this; exact this
          have le' : es'.length = (l.take i).length := by have := congrArg List.length pk; simpa using this
          obtain ⟨ix', t'⟩ := tr_step (o := .dK (es' ++ [(Sum.inr nm, v4)])) e4 h1' back pes hr4
          refine ⟨es', Sum.inr nm, rfl, e4 _ _ h1', ?_, es' ++ [(Sum.inr nm, v4)], ix', Ex.mut (e.trans e4) hD, by rw [upd_same, putK_new _ nv], ?_, ?_⟩
          · rw [le', List.length_take]; exact Evl.sz_lt (by omega)
          · rw [take_snoc hdj, List.map_append, List.map_append, pk]; rfl
          · rw [take_snoc hdj, List.map_append, List.map_append, putK_new _ nv]; exact t'
        · obtain ⟨es', ix, e, h1', pk, pes⟩ := pv
          rw [← le, List.take_of_length_le (Nat.le_refl _)] at pes pk
          have eu : Ex H3 (upd H' a (.dK es)) := unlock ha3 e
          have fin : Tr (fun S d v => RepT (upd H' a (.dK es)) n S d v) (fun b => H b = none) Dl ix (l.map (·.2)) (es'.map (·.2)) := tr_imp (fun i d x r => rt_S (fun b hb => ⟨⟨Evl.fresh_back e13 hb.1.1, hb.1.2⟩, hb.2⟩) (rt_upd (fun b hb z => by have := hb.1.1; rw [z, ha3] at this; cases this) r)) pes
          exact ⟨e _ _ upd_same, k _ _ (e13.trans eu) ⟨Dl, es', ix, rfl, Evl.fresh_back e13 hD3, by rw [upd_ne nDa]; exact h1', l5, pk, fin⟩⟩
      have c3 : ∀ l, d ≠ .dic l := fun l e => c3 ⟨l, e⟩
      refine Evl.q_when (b := false) (Evl.et_B (ev_kind false (Evl.ev_var rfl) hv2 (skip3 c3))) (fun h => nomatch h) fun _ H3 e3 => Evl.s_ret (Evl.ev_var rfl) fun H4 e4 => leaf (e12.trans (e3.trans e4)) c1 c2 c3
end
end Pk

namespace Pk
open PySem PySem.Spec PyProof.Rows L2 Ssb
open Evl (Ex Ev EvT EvL EvA EvU)
/-! ### what a deed does to a list -/
inductive Op where
  | app | ins (i : Nat) | cut | rem (i : Nat) | mov (i j : Nat)
def Op.ok : Op → Nat → Prop
  | .app, _ => True
  | .ins i, n => i ≤ n
  | .cut, n => 0 < n
  | .rem i, n => i < n
  | .mov i j, n => i < n ∧ j < n
def Op.new : Op → Bool
  | .app => true
  | .ins _ => true
  | _ => false
def Op.run {α : Type} : Op → α → List α → List α
  | .app, x, l => l ++ [x]
  | .ins i, x, l => l.take i ++ [x] ++ l.drop i
  | .cut, _, l => l.dropLast
  | .rem i, _, l => l.eraseIdx i
  | .mov i j, _, l => match l[i]? with
    | some y => (l.eraseIdx i).take j ++ [y] ++ (l.eraseIdx i).drop j
    | none => l
theorem erase_map {α β : Type} (f : α → β) : ∀ (l : List α) (i : Nat), (l.eraseIdx i).map f = (l.map f).eraseIdx i
  | [], _ => rfl
  | _ :: _, 0 => rfl
  | a :: l, i + 1 => by rw [List.eraseIdx_cons_succ, List.map_cons, List.map_cons, List.eraseIdx_cons_succ, erase_map f l i]
theorem erase_perm {α : Type} {y : α} : ∀ {l : List α} {i : Nat}, l[i]? = some y → (y :: l.eraseIdx i).Perm l
  | [], i, h => by simp at h
  | a :: l, 0, h => by cases h; exact .refl _
  | a :: l, i + 1, h => by
    rw [List.eraseIdx_cons_succ]
    exact (List.Perm.swap _ _ _).trans (List.Perm.cons a (erase_perm (l := l) (i := i) (by simpa using h)))
theorem run_map {α β : Type} (f : α → β) (o : Op) (x : α) (l : List α) : (o.run x l).map f = o.run (f x) (l.map f) := by
  cases o with
  | app => simp [Op.run]
  | ins i => simp [Op.run, List.map_take, List.map_drop]
  | cut => simp [Op.run, List.map_dropLast]
  | rem i => simp [Op.run, erase_map]
  | mov i j =>
    simp only [Op.run, List.getElem?_map]
    cases l[i]? with
    | none => rfl
    | some y => simp [erase_map, List.map_take, List.map_drop]
theorem ins_perm {α : Type} {l : List α} {i : Nat} {x : α} : (l.take i ++ [x] ++ l.drop i).Perm (x :: l) := by
  have h : (l.take i ++ [x] ++ l.drop i).Perm ([x] ++ l.take i ++ l.drop i) := List.Perm.append_right _ List.perm_append_comm
  rw [List.append_assoc, List.append_assoc, List.take_append_drop, ← List.append_assoc] at h
  exact h
theorem run_new {α : Type} {o : Op} {x : α} {l : List α} (h : o.new = true) : (o.run x l).Perm (x :: l) := by
  cases o with
  | app => exact List.perm_append_comm
  | ins i => exact ins_perm
  | cut => cases h
  | rem i => cases h
  | mov i j => cases h
theorem run_old {α : Type} {o : Op} {x : α} {l : List α} (h : o.new = false) : ∃ l', (o.run x l).Perm l' ∧ l'.Sublist l := by
  cases o with
  | app => cases h
  | ins i => cases h
  | cut => exact ⟨_, .refl _, List.dropLast_sublist _⟩
  | rem i => exact ⟨_, .refl _, List.eraseIdx_sublist _ _⟩
  | mov i j =>
    refine ⟨l, ?_, .refl _⟩
    simp only [Op.run]
    cases e : l[i]? with
    | none => exact .refl _
    | some y =>
      exact ins_perm.trans (erase_perm e)
theorem run_len {α : Type} {o : Op} {x : α} {l : List α} : (o.run x l).length ≤ l.length + 1 := by
  cases h : o.new with
  | true => rw [(run_new (x := x) (l := l) h).length_eq]; exact Nat.le_refl _
  | false =>
    obtain ⟨l', p, s⟩ := run_old (x := x) (l := l) h
    rw [p.length_eq]
    exact Nat.le_succ_of_le s.length_le
/-! ### parts with places of their own -/
abbrev Pt := D × V × (Addr → Prop)
structure Parts (R : (Addr → Prop) → D → V → Prop) (S : Addr → Prop) (a : Addr) (zs : List Pt) : Prop where
  r : ∀ z ∈ zs, R z.2.2 z.1 z.2.1
  ap : zs.Pairwise fun z z' => ∀ b, z.2.2 b → ¬ z'.2.2 b
  sub : ∀ z ∈ zs, ∀ b, z.2.2 b → S b ∧ b ≠ a
section
open Classical
theorem parts_tr {R : (Addr → Prop) → D → V → Prop} {S : Addr → Prop} {a : Addr} {zs : List Pt} (mono : ∀ S S' d x, (∀ b, S b → S' b) → R S d x → R S' d x) (h : Parts R S a zs) : ∃ ix, Tr R S a ix (zs.map (·.1)) (zs.map (·.2.1)) := by
  refine ⟨fun b => zs.findIdx fun z => decide (z.2.2 b), by simp, fun i d x h1 h2 => ?_⟩
  rw [List.getElem?_map] at h1 h2
  cases e : zs[i]? with
  | none => rw [e] at h1; cases h1
  | some z =>
    rw [e] at h1 h2
    cases h1; cases h2
    have hm := List.mem_of_getElem? e
    obtain ⟨hi, ez⟩ := List.getElem?_eq_some_iff.mp e
    refine mono _ _ _ _ (fun b hb => ⟨h.sub z hm b hb, ?_⟩) (h.r z hm)
    refine (List.findIdx_eq hi).mpr ⟨by rw [ez]; exact decide_eq_true hb, fun j hj => decide_eq_false fun hc => ?_⟩
    exact (List.pairwise_iff_getElem.mp h.ap j i (by omega) hi hj) b hc (by rw [ez]; exact hb)
end
theorem tr_parts {R : (Addr → Prop) → D → V → Prop} {S : Addr → Prop} {a : Addr} {ix : Addr → Nat} {l : List D} {xs : List V} (t : Tr R S a ix l xs) : ∃ zs, zs.map (·.1) = l ∧ zs.map (·.2.1) = xs ∧ Parts R S a zs := by
  refine ⟨(List.range l.length).map fun i => (l.getD i .non, xs.getD i .non, fun b => (S b ∧ b ≠ a) ∧ ix b = i), ?_, ?_, ⟨?_, ?_, ?_⟩⟩
  · rw [List.map_map]
    refine List.ext_getElem (by simp) fun i h1 h2 => ?_
    simp [List.getElem?_eq_getElem h2]
  · rw [List.map_map]
    refine List.ext_getElem (by simp [t.1]) fun i h1 h2 => ?_
    simp [List.getElem?_eq_getElem h2]
  · intro z hz
    obtain ⟨i, hi, rfl⟩ := List.mem_map.mp hz
    have hi := List.mem_range.mp hi
    have e1 : l[i]? = some (l.getD i .non) := by rw [List.getD_eq_getElem?_getD, List.getElem?_eq_getElem hi]; rfl
    have e2 : xs[i]? = some (xs.getD i .non) := by rw [List.getD_eq_getElem?_getD, List.getElem?_eq_getElem (by rw [← t.1]; exact hi)]; rfl
    exact t.2 i _ _ e1 e2
  · refine List.Pairwise.map _ (fun i j h b h1 h2 => ?_) (List.pairwise_lt_range (n := l.length))
    have h1 : ix b = i := h1.2
    have h2 : ix b = j := h2.2
    omega
  · intro z hz
    obtain ⟨i, hi, rfl⟩ := List.mem_map.mp hz
    exact fun b hb => hb.1
theorem tr_op {R : (Addr → Prop) → D → V → Prop} {S : Addr → Prop} {a : Addr} {ix : Addr → Nat} {l : List D} {xs : List V} {Hk : Hp} {d : D} {x : V} {o : Op} (mono : ∀ S S' d x, (∀ b, S b → S' b) → R S d x → R S' d x)
    (t : Tr R (fun b => S b ∧ Hk b ≠ none) a ix l xs) (h : o.new = true → R (fun b => (S b ∧ b ≠ a) ∧ Hk b = none) d x) : ∃ ix', Tr R S a ix' (o.run d l) (o.run x xs) := by
  obtain ⟨zs, rfl, rfl, p⟩ := tr_parts t
  let z0 : Pt := (d, x, fun b => (S b ∧ b ≠ a) ∧ Hk b = none)
  have q : Parts R S a (o.run z0 zs) := by
    cases hn : o.new with
    | true =>
      have pm := run_new (o := o) (x := z0) (l := zs) hn
      refine ⟨fun z hz => ?_, ?_, fun z hz => ?_⟩
      · rcases List.mem_cons.mp (pm.mem_iff.mp hz) with rfl | hz
        · exact h hn
        · exact p.r z hz
      · refine (pm.pairwise_iff (fun h b h1 h2 => h b h2 h1)).mpr (List.pairwise_cons.mpr ⟨fun z hz b hb hc => ?_, p.ap⟩)
        exact (p.sub z hz b hc).1.2 hb.2
      · rcases List.mem_cons.mp (pm.mem_iff.mp hz) with rfl | hz
        · exact fun b hb => hb.1
        · exact fun b hb => ⟨(p.sub z hz b hb).1.1, (p.sub z hz b hb).2⟩
    | false =>
      obtain ⟨l', pm, sb⟩ := run_old (o := o) (x := z0) (l := zs) hn
      refine ⟨fun z hz => p.r z (sb.subset (pm.mem_iff.mp hz)), (pm.pairwise_iff (fun h b h1 h2 => h b h2 h1)).mpr (p.ap.sublist sb), fun z hz b hb => ?_⟩
      have := p.sub z (sb.subset (pm.mem_iff.mp hz)) b hb
      exact ⟨this.1.1, this.2⟩
  have := parts_tr mono q
  rw [run_map, run_map] at this
  exact this
/-! ### a part of a tree, and what becomes of the tree when it changes -/
def Hole (H : Hp) (n : Nat) (S : Addr → Prop) (v : V) (C : D → D) (m : Nat) (T : Addr → Prop) (u : V) (d : D) : Prop :=
  RepT H m T d u ∧ ∀ H' d', (∀ b o, ¬ T b → H b = some o → H' b = some o) → RepT H' m (fun b => T b ∨ H b = none) d' u → RepT H' n (fun b => S b ∨ H b = none) (C d') v
theorem hole_top {H : Hp} {n : Nat} {S : Addr → Prop} {v : V} {d : D} (h : RepT H n S d v) : Hole H n S v id n S v d := ⟨h, fun H' d' _ h => h⟩
/-- a part changes, the others stand -/
theorem tr_put {H H' : Hp} {m : Nat} {T : Addr → Prop} {a : Addr} {ix : Addr → Nat} {l : List D} {xs : List V} {j : Nat} {d' : D} {u : V} {oa : HO} (ha : H a = some oa) (hj : xs[j]? = some u) (t : Tr (fun S d v => RepT H m S d v) T a ix l xs)
    (fr : ∀ b o, ¬ ((T b ∧ b ≠ a) ∧ ix b = j) → H b = some o → H' b = some o) (h : RepT H' m (fun b => ((T b ∧ b ≠ a) ∧ ix b = j) ∨ H b = none) d' u) :
    Tr (fun S d v => RepT H' m S d v) (fun b => T b ∨ H b = none) a (fun b => if (H b).isNone = true then j else ix b) (l.set j d') xs := by
  refine ⟨by rw [List.length_set]; exact t.1, fun i d x h1 h2 => ?_⟩
  by_cases e : i = j
  · subst e
    rw [List.getElem?_set] at h1
    rw [if_pos rfl] at h1
    by_cases c : i < l.length
    · rw [if_pos c] at h1
      cases h1
      rw [hj] at h2; cases h2
      refine rt_S (fun b hb => ?_) h
      by_cases z : H b = none
      · exact ⟨⟨.inr z, fun e => by rw [e, ha] at z; cases z⟩, if_pos (by rw [z]; rfl)⟩
      · rcases hb with hb | hb
        · refine ⟨⟨.inl hb.1.1, hb.1.2⟩, ?_⟩
          show (if (H b).isNone = true then i else ix b) = i
          rw [if_neg (fun q => z (Option.isNone_iff_eq_none.mp q))]; exact hb.2
        · exact absurd hb z
    · rw [if_neg c] at h1; cases h1
  · rw [List.getElem?_set, if_neg (fun z => e z.symm)] at h1
    have r := rt_dom (t.2 i d x h1 h2)
    refine rt_S (fun b hb => ⟨⟨.inl hb.1.1.1, hb.1.1.2⟩, ?_⟩) (rt_to (fun b o hb hbo => fr b o (fun z => e (hb.1.2.symm.trans z.2)) hbo) r)
    show (if (H b).isNone = true then j else ix b) = i
    rw [if_neg (fun q => hb.2 (Option.isNone_iff_eq_none.mp q))]; exact hb.1.2
theorem hole_key {H : Hp} {n m : Nat} {S T : Addr → Prop} {v u : V} {C : D → D} {l : List (Str × D)} {j : Nat} {k : Str} {d : D} (h : Hole H n S v C (m + 1) T u (.dic l)) (nd : (l.map (·.1)).Nodup) (hj : l[j]? = some (k, d)) :
    ∃ T' u', Kid H u k u' ∧ (∀ b, T' b → T b) ∧ Hole H n S v (fun d' => C (.dic (l.set j (k, d')))) m T' u' d := by
  obtain ⟨⟨a, es, ix, rfl, hT, ha, l5, hk, t⟩, up⟩ := h
  have le : l.length = es.length := by have := congrArg List.length hk; simpa using this.symm
  have hji := (List.getElem?_eq_some_iff.mp hj).1
  have he : es[j]? = some (es[j]'(by omega)) := List.getElem?_eq_getElem (by omega)
  have hkey : (es[j]'(by omega)).1 = Sum.inr k := by
    have := congrArg (fun l => l[j]?) hk
    simp only [List.getElem?_map, hj, he] at this
    exact Option.some.inj this
  have hu : (es.map (·.2))[j]? = some (es[j]'(by omega)).2 := by rw [List.getElem?_map, he]; rfl
  have hd : (l.map (·.2))[j]? = some d := by rw [List.getElem?_map, hj]; rfl
  have kid : Kid H (.ref a) k (es[j]'(by omega)).2 := ⟨a, es, rfl, ha, valV_at (i := j) (by rw [hk, ← List.map_map_inr]; exact inr_nd nd) (by rw [he, ← hkey])⟩
  refine ⟨fun b => (T b ∧ b ≠ a) ∧ ix b = j, (es[j]'(by omega)).2, kid, (fun b hb => hb.1.1), t.2 j d _ hd hu, fun H' d' fr r => ?_⟩
  · refine up H' _ (fun b o hb => fr b o fun z => hb z.1.1) ⟨a, es, fun b => if (H b).isNone = true then j else ix b, rfl, .inl hT, fr a _ (fun z => z.1.2 rfl) ha, by rw [List.length_set]; exact l5, ?_, ?_⟩
    · rw [hk, List.map_set]
      refine (List.ext_getElem? fun i => ?_)
      rw [List.getElem?_set]
      by_cases e : j = i
      · subst e
        rw [if_pos rfl, if_pos (by simpa using hji), List.getElem?_map, hj]; rfl
      · rw [if_neg e]
    · rw [List.map_set]
      exact tr_put ha hu t fr r
theorem hole_item {H : Hp} {n m : Nat} {S T : Addr → Prop} {v u : V} {C : D → D} {l : List D} {j : Nat} {d : D} (h : Hole H n S v C (m + 1) T u (.lst l)) (hj : l[j]? = some d) :
    ∃ T' u' c xs, u = .ref c ∧ H c = some (.lst xs) ∧ xs[j]? = some u' ∧ Paired (fun d x => Rep H m T d x) l xs ∧ (∀ b, T' b → T b) ∧ Hole H n S v (fun d' => C (.lst (l.set j d'))) m T' u' d := by
  obtain ⟨⟨a, xs, ix, rfl, hT, ha, l5, t⟩, up⟩ := h
  have hji := (List.getElem?_eq_some_iff.mp hj).1
  have he : xs[j]? = some (xs[j]'(by rw [← t.1]; exact hji)) := List.getElem?_eq_getElem (by rw [← t.1]; exact hji)
  refine ⟨fun b => (T b ∧ b ≠ a) ∧ ix b = j, xs[j]'(by rw [← t.1]; exact hji), a, xs, rfl, ha, he, pair_of t.1 fun i d x h1 h2 => rep_S (fun b hb => hb.1.1) (rt_rep (t.2 i d x h1 h2)), (fun b hb => hb.1.1), t.2 j d _ hj he, fun H' d' fr r => ?_⟩
  exact up H' _ (fun b o hb => fr b o fun z => hb z.1.1) ⟨a, xs, fun b => if (H b).isNone = true then j else ix b, rfl, .inl hT, fr a _ (fun z => z.1.2 rfl) ha, by rw [List.length_set]; exact l5, tr_put ha he t fr r⟩
/-- the list itself changes -/
theorem hole_op {H : Hp} {n m : Nat} {S T : Addr → Prop} {v u : V} {C : D → D} {l : List D} (h : Hole H n S v C (m + 1) T u (.lst l)) (l9 : l.length ≤ 90000) :
    ∃ c xs, u = .ref c ∧ T c ∧ H c = some (.lst xs) ∧ l.length = xs.length ∧ ∀ (o : Op) (H1 : Hp) (d : D) (x : V), Ex H H1 → (o.new = true → RepT H1 m (fun b => H b = none) d x) → RepT (upd H1 c (.lst (o.run x xs))) n (fun b => S b ∨ H b = none) (C (.lst (o.run d l))) v := by
  obtain ⟨⟨a, xs, ix, rfl, hT, ha, l5, t⟩, up⟩ := h
  refine ⟨a, xs, rfl, hT, ha, t.1, fun o H1 d x e hx => ?_⟩
  have nA : ∀ b, H b = none → b ≠ a := fun b hb z => by rw [z, ha] at hb; cases hb
  obtain ⟨ix', t'⟩ := tr_op (R := fun S d v => RepT (upd H1 a (.lst (o.run x xs))) m S d v) (S := fun b => T b ∨ H b = none) (Hk := H) (d := d) (x := x) (o := o) (fun S S' d x k r => rt_S k r)
    (tr_imp (fun i d x r => rt_S (fun b hb => ⟨⟨⟨.inl hb.1.1.1, hb.2⟩, hb.1.1.2⟩, hb.1.2⟩) (rt_upd (fun b hb => hb.1.1.2) (rt_ex e (rt_dom r)))) t)
    fun hn => rt_S (fun b hb => ⟨⟨.inr hb, nA b hb⟩, hb⟩) (rt_upd nA (hx hn))
  refine up _ _ (fun b o' hb ho => ?_) ⟨a, _, ix', rfl, .inl hT, upd_same, ?_, t'⟩
  · rw [upd_ne (fun z => hb (by rw [z]; exact hT))]; exact e _ _ ho
  · have := run_len (o := o) (x := d) (l := l); omega
/-- a value of a dict changes -/
theorem hole_val {H : Hp} {n m : Nat} {S T : Addr → Prop} {v u : V} {C : D → D} {l : List (Str × D)} {j : Nat} {k : Str} {d d' : D} {x : V} (h : Hole H n S v C (m + 1) T u (.dic l)) (nd : (l.map (·.1)).Nodup) (hj : l[j]? = some (k, d)) (hx : ∀ H' S', RepT H' m S' d' x) :
    ∃ c es, u = .ref c ∧ T c ∧ H c = some (.dK es) ∧ es.length = l.length ∧ ∀ H1, Ex H H1 → RepT (upd H1 c (.dK (putK es (Sum.inr k) x))) n (fun b => S b ∨ H b = none) (C (.dic (l.set j (k, d')))) v := by
  obtain ⟨⟨a, es, ix, rfl, hT, ha, l5, hk, t⟩, up⟩ := h
  have le : l.length = es.length := by have := congrArg List.length hk; simpa using this.symm
  have hji := (List.getElem?_eq_some_iff.mp hj).1
  have he : es[j]? = some (es[j]'(by omega)) := List.getElem?_eq_getElem (by omega)
  have hkey : (es[j]'(by omega)).1 = Sum.inr k := by
    have := congrArg (fun l => l[j]?) hk
    simp only [List.getElem?_map, hj, he] at this
    exact Option.some.inj this
  have ndk : (es.map (·.1)).Nodup := by rw [hk, ← List.map_map_inr]; exact inr_nd nd
  have pe : putK es (Sum.inr k : Key) x = es.set j (Sum.inr k, x) := by
    unfold putK
    have any : (es.any fun kv => decide (kv.1 = (Sum.inr k : Key))) = true := List.any_eq_true.mpr ⟨_, List.mem_of_getElem? he, decide_eq_true hkey⟩
    rw [if_pos any]
    refine List.ext_getElem? fun i => ?_
    rw [List.getElem?_map, List.getElem?_set]
    by_cases e : j = i
    · subst e
      rw [if_pos rfl, if_pos (by omega), he, Option.map_some, if_pos hkey, hkey]
    · rw [if_neg e]
      cases hi : es[i]? with
      | none => rfl
      | some q =>
        rw [Option.map_some, if_neg]
        intro z
        have h1 : (es.map (·.1))[i]? = some (Sum.inr k) := by rw [List.getElem?_map, hi, Option.map_some, z]
        have h2 : (es.map (·.1))[j]? = some (Sum.inr k) := by rw [List.getElem?_map, he, Option.map_some, hkey]
        have i1 := (List.getElem?_eq_some_iff.mp h1)
        have i2 := (List.getElem?_eq_some_iff.mp h2)
        rcases Nat.lt_or_gt_of_ne e with lt | lt
        · exact List.pairwise_iff_getElem.mp ndk _ _ i2.1 i1.1 lt (i2.2.trans i1.2.symm)
        · exact List.pairwise_iff_getElem.mp ndk _ _ i1.1 i2.1 lt (i1.2.trans i2.2.symm)
  refine ⟨a, es, rfl, hT, ha, le.symm, fun H1 e => ?_⟩
  rw [pe]
  refine up _ _ (fun b o' hb ho => ?_) ⟨a, _, ix, rfl, .inl hT, upd_same, by rw [List.length_set]; exact l5, ?_, ?_⟩
  · rw [upd_ne (fun z => hb (by rw [z]; exact hT))]; exact e _ _ ho
  · rw [List.map_set, hk, List.map_set]
  · rw [List.map_set, List.map_set]
    refine ⟨by rw [List.length_set, List.length_set]; exact t.1, fun i dd y h1 h2 => ?_⟩
    by_cases c : j = i
    · subst c
      rw [List.getElem?_set, if_pos rfl] at h1 h2
      rw [if_pos (by simpa using hji)] at h1
      rw [if_pos (by rw [List.length_map]; omega)] at h2
      cases h1; cases h2
      exact hx _ _
    · rw [List.getElem?_set, if_neg c] at h1 h2
      exact rt_S (fun b hb => ⟨⟨.inl hb.1.1, hb.1.2⟩, hb.2⟩) (rt_upd (fun b hb => hb.1.2) (rt_ex e (t.2 i dd y h1 h2)))
/-- no deeper than that -/
def dpt : Nat → D → Prop
  | 0, _ => False
  | n + 1, .lst l => ∀ x ∈ l, dpt n x
  | _ + 1, .tup _ => False
  | n + 1, .dic l => ∀ p ∈ l, dpt n p.2
  | _ + 1, _ => True
theorem rt_down {H : Hp} : ∀ {m n : Nat} {S : Addr → Prop} {d : D} {v : V}, dpt m d → RepT H n S d v → RepT H m S d v
  | 0, _, _, _, _, h, _ => h.elim
  | _, 0, _, _, _, _, h => h.elim
  | m + 1, n + 1, S, d, v, hd, h => by
    cases d with
    | non => exact h
    | bl b => exact h
    | int i => exact h
    | str s => exact h
    | tup l => exact h.elim
    | lst l =>
      obtain ⟨a, xs, ix, e, s, ha, hl, p⟩ := h
      exact ⟨a, xs, ix, e, s, ha, hl, p.1, fun i d x h1 h2 => rt_down (hd d (List.mem_of_getElem? h1)) (p.2 i d x h1 h2)⟩
    | dic l =>
      obtain ⟨a, es, ix, e, s, ha, hl, hk, p⟩ := h
      refine ⟨a, es, ix, e, s, ha, hl, hk, p.1, fun i d x h1 h2 => rt_down ?_ (p.2 i d x h1 h2)⟩
      obtain ⟨q, hq, rfl⟩ := List.mem_map.mp (List.mem_of_getElem? h1)
      exact hd q hq
theorem rep_kid {H : Hp} {n : Nat} {S : Addr → Prop} {l : List (Str × D)} {v : V} {k : Str} {d : D} (h : Rep H (n + 1) S (.dic l) v) (hk : l.lookup k = some d) : ∃ u S', Kid H v k u ∧ Rep H n S' d u := by
  obtain ⟨a, es, rfl, _, ha, _, pr⟩ := h
  obtain ⟨u, hu, r⟩ := rep_entry pr hk
  exact ⟨u, _, ⟨a, es, rfl, ha, hu⟩, r⟩
/-- where a deed is: the list that stands there, and the data around it -/
def Where (d : D) (w : List D) (C : D → D) (l : List D) : Prop :=
  (∃ (nm : Str) (L : List (Str × D)) (i : Nat) (ls : List (Str × D)) (j : Nat), w = [.str nm] ∧ d = .dic L ∧ (L.map (·.1)).Nodup ∧ L[i]? = some (("lists" : Str), D.dic ls) ∧ (ls.map (·.1)).Nodup ∧ ls[j]? = some (nm, .lst l) ∧ C = fun y => .dic (L.set i ("lists", .dic (ls.set j (nm, y))))) ∨
  ∃ (n1 nm : Str) (m : Int) (L : List (Str × D)) (i : Nat) (ls : List (Str × D)) (j : Nat) (rs : List D) (k : Nat) (R : List (Str × D)) (p : Nat) (ls2 : List (Str × D)) (q : Nat), w = [.str n1, .int m, .str nm] ∧ d = .dic L ∧ (L.map (·.1)).Nodup ∧ L[i]? = some (("lists" : Str), D.dic ls) ∧
    (ls.map (·.1)).Nodup ∧ ls[j]? = some (n1, .lst rs) ∧ rs.length ≤ 400 ∧ rs[k]? = some (.dic R) ∧ (∀ k' r, rs[k']? = some r → ∃ R' z, r = .dic R' ∧ R'.lookup ("id" : Str) = some (.int z) ∧ (z = m ↔ k' = k)) ∧ (R.map (·.1)).Nodup ∧ R[p]? = some (("lists" : Str), D.dic ls2) ∧
    (ls2.map (·.1)).Nodup ∧ ls2[q]? = some (nm, .lst l) ∧ C = fun y => .dic (L.set i ("lists", .dic (ls.set j (n1, .lst (rs.set k (.dic (R.set p ("lists", .dic (ls2.set q (nm, y)))))))))) 
def lvW : List D → Nat
  | [_] => 7
  | _ => 4
theorem str_of {H : Hp} {n : Nat} {S : Addr → Prop} {s : Str} {v : V} (h : Rep H n S (.str s) v) : v = .str s := by
  cases n with
  | zero => exact h.elim
  | succ n => exact h
theorem int_of {H : Hp} {n : Nat} {S : Addr → Prop} {s : Int} {v : V} (h : Rep H n S (.int s) v) : v = .int s := by
  cases n with
  | zero => exact h.elim
  | succ n => exact h
theorem where_hole {H : Hp} {S : Addr → Prop} {v : V} {d : D} {w : List D} {C : D → D} {l : List D} (h : Where d w C l) (r : RepT H 10 S d v) {H2 : Hp} {k : Nat} {S' : Addr → Prop} {xs : List V} (pw : Paired (fun d x => Rep H2 k S' d x) w xs) :
    ∃ T u, RowsP H v xs u ∧ (∀ b, T b → S b) ∧ Hole H 10 S v C (lvW w + 1) T u (.lst l) := by
  rcases h with ⟨nm, L, i, ls, j, rfl, rfl, nL, hi, nls, hj, rfl⟩ | ⟨n1, nm, m, L, i, ls, j, rs, k0, R, p, ls2, q, rfl, rfl, nL, hi, nls, hj, l400, hk, hids, nR, hp, nls2, hq, rfl⟩
  · cases pw with
    | cons h0 pw =>
    cases pw
    rw [str_of h0]
    obtain ⟨T1, u1, kd1, s1, h1⟩ := hole_key (m := 9) (hole_top r) nL hi
    obtain ⟨T2, u2, kd2, s2, h2⟩ := hole_key (m := 8) h1 nls hj
    exact ⟨T2, u2, .inl ⟨nm, u1, rfl, kd1, kd2⟩, fun b hb => s1 b (s2 b hb), h2⟩
  · cases pw with
    | cons h0 pw =>
    cases pw with
    | cons h1' pw =>
    cases pw with
    | cons h2' pw =>
    cases pw
    rw [str_of h0, int_of h1', str_of h2']
    obtain ⟨T1, u1, kd1, s1, h1⟩ := hole_key (m := 9) (hole_top r) nL hi
    obtain ⟨T2, u2, kd2, s2, h2⟩ := hole_key (m := 8) h1 nls hj
    obtain ⟨T3, u3, c, zs, rfl, hc, hz, pz, s3, h3⟩ := hole_item (m := 7) h2 hk
    obtain ⟨T4, u4, kd4, s4, h4⟩ := hole_key (m := 6) h3 nR hp
    obtain ⟨T5, u5, kd5, s5, h5⟩ := hole_key (m := 5) h4 nls2 hq
    refine ⟨T5, u5, .inr ⟨n1, nm, m, u1, c, zs, k0, u3, u4, rfl, kd1, kd2, hc, by rw [← pair_len pz]; exact l400, hz, fun j' r hr => ?_, kd4, kd5⟩, fun b hb => s1 b (s2 b (s3 b (s4 b (s5 b hb)))), h5⟩
    obtain ⟨dr, hdr, rr⟩ := pair_back pz hr
    obtain ⟨R', z, rfl, hid, hz'⟩ := hids j' dr hdr
    obtain ⟨u, _, kd, ru⟩ := rep_kid rr hid
    rw [int_of ru] at kd
    exact ⟨z, kd, hz'⟩
def deedD (w : List D) (x : D) : Op → D
  | .app => .tup [.str "append", .tup w, x]
  | .ins i => .tup [.str "insert", .tup w, .int i, x]
  | .cut => .tup [.str "cut", .tup w]
  | .rem i => .tup [.str "remove", .tup w, .int i]
  | .mov i j => .tup [.str "move", .tup w, .int i, .int j]
/-- what becomes of data by a deed -/
inductive Does : D → D → D → Prop
  | flag {L : List (Str × D)} {i : Nat} {fs : List (Str × D)} {j : Nat} {x : Str} {b : Bool} : (L.map (·.1)).Nodup → L[i]? = some (("flags" : Str), D.dic fs) → (fs.map (·.1)).Nodup → fs[j]? = some (x, .bl b) → fs.length ≤ 1000 → Does (.dic L) (.tup [.str "flag", .str x]) (.dic (L.set i ("flags", .dic (fs.set j (x, .bl (!b))))))
  | list {d : D} {w : List D} {C : D → D} {l : List D} {x : D} (o : Op) : Where d w C l → o.ok l.length → l.length ≤ 90000 → (o.new = true → pl 10 x ∧ dpt (lvW w) x) → Does d (deedD w x o) (C (.lst (o.run x l)))
end Pk

namespace Pk
open PySem PySem.Spec PyProof.Rows L2 Ssb
open Evl (Ex Ev EvT EvL EvA EvU)
theorem seq_ix {j n : Nat} (h : j < n) : seqIndex? (j : Int) n = some j := by
  unfold seqIndex?
  have h0 : ¬ ((j : Int) < 0) := by omega
  simp [h0, h]
theorem get_last {α : Type} {xs : List α} (h : 0 < xs.length) : ∃ y, xs[xs.length - 1]? = some y := ⟨_, List.getElem?_eq_getElem (by omega)⟩
theorem upd_upd {H : Hp} {p : Addr} {o u : HO} : upd (upd H p o) p u = upd H p u := by
  funext b
  by_cases e : b = p
  · rw [e, upd_same, upd_same]
  · rw [upd_ne e, upd_ne e, upd_ne e]
theorem q_dput {td ty tv : TE} {tz : TS} {D_ : Ends} {σ : L2.St} {H : Hp} {a : Addr} {es : List (Key × V)} {k : Key} {vv : V} (hv : Ev tv σ H vv) (hd : Ev td σ H (.ref a)) (hk : Ev ty σ H (kV k)) (ha : H a = some (.dK es)) (l : es.length ≤ 90000) (q : ∀ H1, Ex H H1 → tz D_ σ (upd H1 a (.dK (putK es k vv)))) : tSeq (sDPut td ty tv) tz D_ σ H :=
  hv H (Ex.refl _) _ fun H1 e1 => hd H1 e1 _ fun H2 e2 => hk H2 (e1.trans e2) _ fun H3 e3 => ⟨a, _, rfl, .inl ⟨es, k, ((e1.trans e2).trans e3) _ _ ha, rfl, Evl.sz_lt (by omega), rfl⟩, q _ ((e1.trans e2).trans e3)⟩
theorem q_go {te : TE} {i : Nat} {tz : TS} {D_ : Ends} {σ : L2.St} {H : Hp} (h : te σ H fun v H1 => tz D_ (σ.set i (some v)) H1) : tSeq (tAsg te (gName i)) tz D_ σ H := h
def opNm : Op → Str
  | .app => "append"
  | .ins _ => "insert"
  | .cut => "cut"
  | .rem _ => "remove"
  | .mov _ _ => "move"
def opRest : Op → D → List D
  | .app, x => [x]
  | .ins i, x => [.int i, x]
  | .cut, _ => []
  | .rem i, _ => [.int i]
  | .mov i j, _ => [.int i, .int j]
theorem opNm_flag : ∀ o : Op, decide (V.str (opNm o) = V.str "flag") = false
  | .app => by decide
  | .ins _ => by show decide (V.str "insert" = V.str "flag") = false; decide
  | .cut => by decide
  | .rem _ => by show decide (V.str "remove" = V.str "flag") = false; decide
  | .mov _ _ => by show decide (V.str "move" = V.str "flag") = false; decide
theorem deed_form (w : List D) (x : D) (o : Op) : deedD w x o = .tup (.str (opNm o) :: .tup w :: opRest o x) := by cases o <;> rfl
section
variable {P : Program} {w : World} {K : PySem.W.Frag} {mg : Str → Option Value} {base : Heap} {C_Shape C_LimitExceeded C_InvalidDeed C_StayError C_FORMS : Addr}
def spDo : Sp := fun vs H Q _ => ∃ (v : V) (t : Addr) (d dd d' : D) (S S' : Addr → Prop), vs = [v, .ref t] ∧ Rep H 10 S d v ∧ pl 10 d ∧ Rep H 11 S' dd (.ref t) ∧ Does d dd d' ∧ ∀ H' v', Ex H H' → RepT H' 10 (fun b => H b = none) d' v' → Q v' H'
theorem ok_after_deed (T : Txt K mg C_Shape C_LimitExceeded C_InvalidDeed C_StayError C_FORMS) (R : Prg K mg C_Shape C_LimitExceeded C_InvalidDeed C_StayError C_FORMS) : ∃ f fd, Fn P w K mg base "after_deed" 12 ["data", "deed"] spDo f fd := by
  obtain ⟨_, _, G_fresh⟩ := ok_freshT (P := P) (w := w) (base := base) T R 10
  obtain ⟨_, _, G_rows_at⟩ := ok_rows_at (P := P) (w := w) (base := base) T R
  obtain ⟨f, fd, at_, F, kp⟩ := R.after_deed
  refine ⟨f, fd, F.ok sc_after_deed (fun vs H Q E h => ?_) (fun cdv A outer s H vs Q E hr h => ?_), at_, kp, F.binds (fun _ _ _ _ _ _ us hl => match us, hl with | [_, _], _ => rfl)⟩
  · obtain ⟨v, t, d, dd, d', S, S', rfl, _⟩ := h; rfl
  · obtain ⟨v, t, d, dd, d', S, S', rfl, hv, hpl, hdd, does, k⟩ := h
    refine ⟨_, (pss_cons (ps_set (i := 2) sc_after_deed.nd rfl (Or.inl rfl) (pcl G_fresh hr (pa_cons (pv 0) pa_nil)))
  (pss_cons (ps_if (pt_cmpR op_eq (pe_ix (r := rIxT K) ix_tup (pv 1) pe_int (fun _ _ => rfl)) pe_str (nomark _)) (pss_cons (ps_dput (hu_of hr) (pe_dget (hu_of hr) (pv 2) pe_str (fun _ _ => rfl)) (pe_ix (r := rIxT K) ix_tup (pv 1) pe_int (fun _ _ => rfl)) (pe_not (pe_dget (hu_of hr) (pe_dget (hu_of hr) (pv 2) pe_str (fun _ _ => rfl)) (pe_ix (r := rIxT K) ix_tup (pv 1) pe_int (fun _ _ => rfl)) (fun _ _ => rfl))) rfl)
  (pss_one (ps_ret (pv 2)))) pss_nil)
  (pss_cons (ps_set (i := 3) sc_after_deed.nd rfl (Or.inl rfl) (pcl G_rows_at hr (pa_cons (pv 2) (pa_cons (pe_ix (r := rIxT K) ix_tup (pv 1) pe_int (fun _ _ => rfl)) pa_nil))))
  (pss_cons (ps_if (pt_cmpR op_eq (pe_ix (r := rIxT K) ix_tup (pv 1) pe_int (fun _ _ => rfl)) pe_str (nomark _)) (pss_one (ps_expr (show PE _ _ (tBM K _ _ _ _) from pe_bm PySem.F.plainAttrs_list PySem.F.slot_list_append PySem.F.type_list_append mt_append (pv 3) (pa_cons (pcl G_fresh hr (pa_cons (pe_ix (r := rIxT K) ix_tup (pv 1) pe_int (fun _ _ => rfl)) pa_nil)) pa_nil)))) (pss_one (ps_if (pt_cmpR op_eq (pe_ix (r := rIxT K) ix_tup (pv 1) pe_int (fun _ _ => rfl)) pe_str (nomark _)) (pss_one (ps_expr (show PE _ _ (tBM0 K _ _ _) from pe_bm0 PySem.F.plainAttrs_list PySem.F.slot_list_pop PySem.F.type_list_pop mt_pop (pv 3)))) (pss_one (ps_if (pt_cmpR op_eq (pe_ix (r := rIxT K) ix_tup (pv 1) pe_int (fun _ _ => rfl)) pe_str (nomark _)) (pss_one (ps_expr (show PE _ _ (tBM K _ _ _ _) from pe_bm PySem.F.plainAttrs_list PySem.F.slot_list_insert PySem.F.type_list_insert mt_insert (pv 3) (pa_cons (pe_ix (r := rIxT K) ix_tup (pv 1) pe_int (fun _ _ => rfl)) (pa_cons (pcl G_fresh hr (pa_cons (pe_ix (r := rIxT K) ix_tup (pv 1) pe_int (fun _ _ => rfl)) pa_nil)) pa_nil))))) (pss_one (ps_if (pt_cmpR op_eq (pe_ix (r := rIxT K) ix_tup (pv 1) pe_int (fun _ _ => rfl)) pe_str (nomark _)) (pss_one (ps_expr (show PE _ _ (tBM K _ _ _ _) from pe_bm PySem.F.plainAttrs_list PySem.F.slot_list_pop PySem.F.type_list_pop mt_popAt (pv 3) (pa_cons (pe_ix (r := rIxT K) ix_tup (pv 1) pe_int (fun _ _ => rfl)) pa_nil)))) (pss_one (ps_if (pt_cmpR op_eq (pe_ix (r := rIxT K) ix_tup (pv 1) pe_int (fun _ _ => rfl)) pe_str (nomark _)) (pss_one (ps_expr (show PE _ _ (tBM K _ _ _ _) from pe_bm PySem.F.plainAttrs_list PySem.F.slot_list_insert PySem.F.type_list_insert mt_insert (pv 3) (pa_cons (pe_ix (r := rIxT K) ix_tup (pv 1) pe_int (fun _ _ => rfl)) (pa_cons (show PE _ _ (tBM K _ _ _ _) from pe_bm PySem.F.plainAttrs_list PySem.F.slot_list_pop PySem.F.type_list_pop mt_popAt (pv 3) (pa_cons (pe_ix (r := rIxT K) ix_tup (pv 1) pe_int (fun _ _ => rfl)) pa_nil)) pa_nil))))) pss_never)))))))))
  (pss_one (ps_ret (pv 2))))))), ?_⟩
    refine ⟨_, rfl, v, S, d, rfl, hv, hpl, fun H1 v1 e1 r1 => ?_⟩
    refine gname_go ?_
    have hdd1 := rep_ex e1 hdd
    have tst : ∀ {H4 H5 : Hp} {σ : L2.St} {zs : List V} {a b : Str} (r : Bool), Ex H4 H5 → H4 t = some (.tup zs) → σ[1]? = some (some (.ref t)) → zs[0]? = some (.str a) → decide (V.str a = V.str b) = r → EvT (tTest (tOp rEq (tOp (rIxT K) (tVar 1) (tC (.int 0))) (tC (.str b)))) σ H5 r := fun r e ht hs h0 hr => Evl.et_is (Evl.et_test (Evl.ev_op (Evl.ev_op (Evl.ev_var hs) Evl.ev_c (Evl.rv_ixT (Evl.st_of (e _ _ ht)) (atI_nat (j := 0) h0))) Evl.ev_c (Evl.rv_eq rfl))) hr
    cases does with
    | @flag L i fs j x b nL hi nf hj f1 =>
      obtain ⟨a, xs, ea, ht, _, pr⟩ := id hdd1
      cases ea
      cases pr with
      | cons h0 pr =>
      cases pr with
      | cons h1 pr =>
      cases pr
      have h0 := str_of h0; have h1 := str_of h1
      subst h0 h1
      refine Evl.q_when (b := true) (tst (a := "flag") (b := "flag") true (Ex.refl _) ht rfl rfl (by decide)) (fun _ H2 e2 => ?_) (fun h => nomatch h)
      have r2 := rt_ex e2 r1
      have e02 := e1.trans e2
      obtain ⟨T1, u1, kd1, s1, h1⟩ := hole_key (m := 9) (hole_top r2) nL hi
      obtain ⟨_, ub, kdb, _, hb⟩ := hole_key (m := 8) h1 nf hj
      have eb : ub = .bl b := hb.1
      subst eb
      obtain ⟨c, es, rfl, Tc, hc, le, up⟩ := hole_val (m := 8) (d' := .bl (!b)) (x := .bl (!b)) h1 nf hj (fun _ _ => rfl)
      have hcH : H c = none := s1 c Tc
      have ht2 := e2 _ _ ht
      have ix : ∀ {H3 : Hp}, Ex H2 H3 → Ev (tOp (rIxT K) (tVar 1) (tC (.int 1))) [some v, some (.ref t), some v1, none] H3 (.str x) := fun e => Evl.ev_op (Evl.ev_var rfl) Evl.ev_c (Evl.rv_ixT (Evl.st_of (e _ _ ht2)) (atI_nat (j := 1) rfl))
      refine q_dput (k := Sum.inr x) (vv := .bl (!b)) (Evl.ev_notV (ev_kid (ev_kid (Evl.ev_var rfl) Evl.ev_c kd1) (ix (Ex.refl _)) kdb)) (ev_kid (Evl.ev_var rfl) Evl.ev_c kd1) (ix (Ex.refl _)) hc (by omega) fun H3 e3 => ?_
      exact Evl.s_ret (Evl.ev_var rfl) fun H4 e4 => k H4 v1 ((Ex.mut (e02.trans e3) hcH).trans e4) (rt_ex e4 (rt_S (fun b hb => hb.elim id fun z => Evl.fresh_back e02 z) (up H3 e3)))
    | @list _ w0 C l x o hw ho l9 hx =>
      rw [deed_form] at hdd1
      obtain ⟨a, zs, ea, ht, _, pr⟩ := id hdd1
      cases ea
      cases pr with
      | cons h0 pr =>
      cases pr with
      | cons h1 pr =>
      rename_i z0 _ z1 zr
      have h0 := str_of h0
      subst h0
      obtain ⟨tw, ws, rfl, htw, _, pw⟩ := id h1
      refine Evl.q_when (b := false) (tst (a := opNm o) (b := "flag") false (Ex.refl _) ht rfl rfl (opNm_flag o)) (fun h => nomatch h) (fun _ H2 e2 => ?_)
      have r2 := rt_ex e2 r1
      have e02 := e1.trans e2
      obtain ⟨T1, u, rp, s1, hole⟩ := where_hole hw r2 pw
      refine q_go ⟨_, rfl, _, rfl, t, _, 1, .ref tw, rfl, rfl, Evl.st_of (e2 _ _ ht), atI_nat (j := 1) rfl, v1, u, tw, ws, rfl, e2 _ _ htw, rp, fun H4 e4 => ?_⟩
      obtain ⟨c, xs, rfl, Tc, hc, lx, up⟩ := hole_op hole l9
      have hcH : H c = none := s1 c Tc
      have ht4 := e4 _ _ (e2 _ _ ht)
      have hc4 := e4 _ _ hc
      have e14 := e2.trans e4
      have prx := pair_imp pr fun a b h => rep_ex e14 h
      have e04 := e02.trans e4
      have fin : ∀ (xv : V) (H8 : Hp), Ex H4 H8 → (o.new = true → RepT H8 10 (fun b => H2 b = none) x xv) → ∀ H9, Ex (upd H8 c (.lst (o.run xv xs))) H9 → Q v1 H9 := fun xv H8 e8 hx8 H9 e9 => by
        have r9 := up o H8 x xv (e4.trans e8) fun hn => rt_down (hx hn).2 (hx8 hn)
        refine k H9 v1 ((Ex.mut (e04.trans e8) hcH).trans e9) (rt_ex e9 (rt_S (fun b hb => hb.elim id fun z => Evl.fresh_back e02 z) r9))
      have l9x : xs.length ≤ 90000 := by omega
      cases o with
      | app =>
        cases prx with
        | @cons _ x1 _ _ hx1 prx =>
        cases prx
        refine Evl.q_if (tst (a := "append") (b := "append") true (Ex.refl H4) ht4 rfl rfl (by decide)) (fun _ H5 e5 => ?_) (fun h => nomatch h)
        have ea := e5
        have hca := ea _ _ hc4
        have hta := ea _ _ ht4
        refine ⟨_, rfl, .inl ⟨rfl, _, Evl.sq_of hca⟩, _, rfl, t, _, 2, x1, rfl, rfl, Evl.st_of hta, rfl, x1, S', x, rfl, rep_ex ea hx1, (hx rfl).1, fun H8 v8 e8 r8 => ?_⟩
        have e48 := ea.trans e8
        refine ⟨c, xs, v8, rfl, rfl, e8 _ _ hca, Evl.sz_lt (by omega), ?_⟩
        exact Evl.s_ret (Evl.ev_var rfl) (fin v8 H8 e48 fun _ => rt_S (fun b hb => Evl.fresh_back (e4.trans ea) hb) r8)
      | ins i =>
        cases prx with
        | @cons _ xi _ _ hi1 prx =>
        cases prx with
        | @cons _ x1 _ _ hx1 prx =>
        cases prx
        have hi1 := int_of hi1
        subst hi1
        refine Evl.q_if (tst (a := "insert") (b := "append") false (Ex.refl H4) ht4 rfl rfl (by decide)) (fun h => nomatch h) (fun _ H5 e5 => ?_)
        refine Evl.s_if (tst (a := "insert") (b := "cut") false e5 ht4 rfl rfl (by decide)) (fun h => nomatch h) (fun _ H6 e6 => ?_)
        refine Evl.s_if (tst (a := "insert") (b := "insert") true (e5.trans e6) ht4 rfl rfl (by decide)) (fun _ H7 e7 => ?_) (fun h => nomatch h)
        have ea := ((e5.trans e6).trans e7)
        have hca := ea _ _ hc4
        have hta := ea _ _ ht4
        refine ⟨_, rfl, .inl ⟨rfl, _, Evl.sq_of hca⟩, _, rfl, t, _, 2, .int (i : Int), rfl, rfl, Evl.st_of hta, rfl, _, rfl, t, _, 3, x1, rfl, rfl, Evl.st_of hta, rfl, x1, S', x, rfl, rep_ex ea hx1, (hx rfl).1, fun H8 v8 e8 r8 => ?_⟩
        have e48 := ea.trans e8
        have ho : i ≤ l.length := ho
        refine ⟨c, xs, (i : Int), v8, rfl, rfl, e8 _ _ hca, Evl.sz_lt (by omega), by omega, by omega, ?_⟩
        rw [Int.toNat_natCast]
        exact Evl.s_ret (Evl.ev_var rfl) (fin v8 H8 e48 fun _ => rt_S (fun b hb => Evl.fresh_back (e4.trans ea) hb) r8)
      | cut =>
        refine Evl.q_if (tst (a := "cut") (b := "append") false (Ex.refl H4) ht4 rfl rfl (by decide)) (fun h => nomatch h) (fun _ H5 e5 => ?_)
        refine Evl.s_if (tst (a := "cut") (b := "cut") true e5 ht4 rfl rfl (by decide)) (fun _ H6 e6 => ?_) (fun h => nomatch h)
        have ea := (e5.trans e6)
        have hca := ea _ _ hc4
        have hta := ea _ _ ht4
        have ho : 0 < l.length := ho
        obtain ⟨y, hy⟩ := get_last (xs := xs) (by omega)
        refine ⟨_, rfl, .inl ⟨rfl, _, Evl.sq_of hca⟩, c, xs, y, rfl, rfl, hca, hy, ?_⟩
        exact Evl.s_ret (Evl.ev_var rfl) (fin .non _ ea fun h => nomatch h)
      | rem i =>
        cases prx with
        | @cons _ xi _ _ hi1 prx =>
        cases prx
        have hi1 := int_of hi1
        subst hi1
        refine Evl.q_if (tst (a := "remove") (b := "append") false (Ex.refl H4) ht4 rfl rfl (by decide)) (fun h => nomatch h) (fun _ H5 e5 => ?_)
        refine Evl.s_if (tst (a := "remove") (b := "cut") false e5 ht4 rfl rfl (by decide)) (fun h => nomatch h) (fun _ H6 e6 => ?_)
        refine Evl.s_if (tst (a := "remove") (b := "insert") false (e5.trans e6) ht4 rfl rfl (by decide)) (fun h => nomatch h) (fun _ H7 e7 => ?_)
        refine Evl.s_if (tst (a := "remove") (b := "remove") true ((e5.trans e6).trans e7) ht4 rfl rfl (by decide)) (fun _ H8 e8 => ?_) (fun h => nomatch h)
        have ea := (((e5.trans e6).trans e7).trans e8)
        have hca := ea _ _ hc4
        have hta := ea _ _ ht4
        have ho : i < l.length := ho
        have hy := List.getElem?_eq_getElem (l := xs) (i := i) (by omega)
        refine ⟨_, rfl, .inl ⟨rfl, _, Evl.sq_of hca⟩, _, rfl, t, _, 2, .int (i : Int), rfl, rfl, Evl.st_of hta, rfl, c, xs, (i : Int), i, _, rfl, rfl, hca, by omega, by omega, seq_ix (by omega), hy, ?_⟩
        exact Evl.s_ret (Evl.ev_var rfl) (fin .non _ ea fun h => nomatch h)
      | mov i j =>
        cases prx with
        | @cons _ xi _ _ hi1 prx =>
        cases prx with
        | @cons _ xj _ _ hj1 prx =>
        cases prx
        have hi1 := int_of hi1
        have hj1 := int_of hj1
        subst hi1 hj1
        refine Evl.q_if (tst (a := "move") (b := "append") false (Ex.refl H4) ht4 rfl rfl (by decide)) (fun h => nomatch h) (fun _ H5 e5 => ?_)
        refine Evl.s_if (tst (a := "move") (b := "cut") false e5 ht4 rfl rfl (by decide)) (fun h => nomatch h) (fun _ H6 e6 => ?_)
        refine Evl.s_if (tst (a := "move") (b := "insert") false (e5.trans e6) ht4 rfl rfl (by decide)) (fun h => nomatch h) (fun _ H7 e7 => ?_)
        refine Evl.s_if (tst (a := "move") (b := "remove") false ((e5.trans e6).trans e7) ht4 rfl rfl (by decide)) (fun h => nomatch h) (fun _ H8 e8 => ?_)
        refine Evl.s_if (tst (a := "move") (b := "move") true (((e5.trans e6).trans e7).trans e8) ht4 rfl rfl (by decide)) (fun _ H9 e9 => ?_) (fun h => nomatch h)
        have ea := ((((e5.trans e6).trans e7).trans e8).trans e9)
        have hca := ea _ _ hc4
        have hta := ea _ _ ht4
        have ho : i < l.length ∧ j < l.length := ho
        have hy := List.getElem?_eq_getElem (l := xs) (i := i) (by omega)
        have f9 := fin .non _ ea fun h => nomatch h
        have er : (Op.mov i j).run V.non xs = (xs.eraseIdx i).take j ++ [xs[i]] ++ (xs.eraseIdx i).drop j := by simp only [Op.run, hy]
        rw [er, ← upd_upd (o := .lst (xs.eraseIdx i))] at f9
        have le9 : (xs.eraseIdx i).length ≤ xs.length := (List.eraseIdx_sublist _ _).length_le
        refine ⟨_, rfl, .inl ⟨rfl, _, Evl.sq_of hca⟩, _, rfl, t, _, 3, .int (j : Int), rfl, rfl, Evl.st_of hta, rfl, _, rfl, .inl ⟨rfl, _, Evl.sq_of hca⟩, _, rfl, t, _, 2, .int (i : Int), rfl, rfl, Evl.st_of hta, rfl, c, xs, (i : Int), i, _, rfl, rfl, hca, by omega, by omega, seq_ix (by omega), hy, ?_⟩
        refine ⟨c, _, (j : Int), _, rfl, rfl, upd_same, Evl.sz_lt (by omega), by omega, by omega, ?_⟩
        rw [Int.toNat_natCast]
        exact Evl.s_ret (Evl.ev_var rfl) f9
theorem ok__law_applied (T : Txt K mg C_Shape C_LimitExceeded C_InvalidDeed C_StayError C_FORMS) (R : Prg K mg C_Shape C_LimitExceeded C_InvalidDeed C_StayError C_FORMS) : ∃ f fd, Fn P w K mg base "_law_applied" 12 ["_law_data", "_law_deed"] spDo f fd := by
  obtain ⟨_, _, G__law_copy⟩ := ok__law_copyT (P := P) (w := w) (base := base) T R 10
  obtain ⟨_, _, G__law_list_at⟩ := ok__law_list_at (P := P) (w := w) (base := base) T R
  obtain ⟨f, fd, at_, F, kp⟩ := R._law_applied
  refine ⟨f, fd, F.ok sc__law_applied (fun vs H Q E h => ?_) (fun cdv A outer s H vs Q E hr h => ?_), at_, kp, F.binds (fun _ _ _ _ _ _ us hl => match us, hl with | [_, _], _ => rfl)⟩
  · obtain ⟨v, t, d, dd, d', S, S', rfl, _⟩ := h; rfl
  · obtain ⟨v, t, d, dd, d', S, S', rfl, hv, hpl, hdd, does, k⟩ := h
    refine ⟨_, (pss_cons (ps_set (i := 0) sc__law_applied.nd rfl (Or.inl rfl) (pcl G__law_copy hr (pa_cons (pv 0) pa_nil)))
  (pss_cons (ps_if (pt_cmpR op_eq (pe_ix (r := rIxT K) ix_tup (pv 1) pe_int (fun _ _ => rfl)) pe_str (nomark _)) (pss_cons (ps_set (i := 2) sc__law_applied.nd rfl (Or.inl rfl) (pe_dget (hu_of hr) (pv 0) pe_str (fun _ _ => rfl)))
  (pss_cons (ps_dput (hu_of hr) (pv 2) (pe_ix (r := rIxT K) ix_tup (pv 1) pe_int (fun _ _ => rfl)) (pe_not (pe_dget (hu_of hr) (pv 2) (pe_ix (r := rIxT K) ix_tup (pv 1) pe_int (fun _ _ => rfl)) (fun _ _ => rfl))) rfl)
  (pss_one (ps_ret (pv 0))))) pss_nil)
  (pss_cons (ps_set (i := 3) sc__law_applied.nd rfl (Or.inl rfl) (pcl G__law_list_at hr (pa_cons (pv 0) (pa_cons (pe_ix (r := rIxT K) ix_tup (pv 1) pe_int (fun _ _ => rfl)) pa_nil))))
  (pss_cons (ps_if (pt_cmpR op_eq (pe_ix (r := rIxT K) ix_tup (pv 1) pe_int (fun _ _ => rfl)) pe_str (nomark _)) (pss_one (ps_expr (show PE _ _ (tBM K _ _ _ _) from pe_bm PySem.F.plainAttrs_list PySem.F.slot_list_append PySem.F.type_list_append mt_append (pv 3) (pa_cons (pcl G__law_copy hr (pa_cons (pe_ix (r := rIxT K) ix_tup (pv 1) pe_int (fun _ _ => rfl)) pa_nil)) pa_nil)))) (pss_one (ps_if (pt_cmpR op_eq (pe_ix (r := rIxT K) ix_tup (pv 1) pe_int (fun _ _ => rfl)) pe_str (nomark _)) (pss_one (ps_expr (show PE _ _ (tBM K _ _ _ _) from pe_bm PySem.F.plainAttrs_list PySem.F.slot_list_insert PySem.F.type_list_insert mt_insert (pv 3) (pa_cons (pe_ix (r := rIxT K) ix_tup (pv 1) pe_int (fun _ _ => rfl)) (pa_cons (pcl G__law_copy hr (pa_cons (pe_ix (r := rIxT K) ix_tup (pv 1) pe_int (fun _ _ => rfl)) pa_nil)) pa_nil))))) (pss_one (ps_if (pt_cmpR op_eq (pe_ix (r := rIxT K) ix_tup (pv 1) pe_int (fun _ _ => rfl)) pe_str (nomark _)) (pss_one (ps_expr (show PE _ _ (tBM0 K _ _ _) from pe_bm0 PySem.F.plainAttrs_list PySem.F.slot_list_pop PySem.F.type_list_pop mt_pop (pv 3)))) (pss_one (ps_if (pt_cmpR op_eq (pe_ix (r := rIxT K) ix_tup (pv 1) pe_int (fun _ _ => rfl)) pe_str (nomark _)) (pss_one (ps_expr (show PE _ _ (tBM K _ _ _ _) from pe_bm PySem.F.plainAttrs_list PySem.F.slot_list_pop PySem.F.type_list_pop mt_popAt (pv 3) (pa_cons (pe_ix (r := rIxT K) ix_tup (pv 1) pe_int (fun _ _ => rfl)) pa_nil)))) (pss_one (ps_if (pt_cmpR op_eq (pe_ix (r := rIxT K) ix_tup (pv 1) pe_int (fun _ _ => rfl)) pe_str (nomark _)) (pss_cons (ps_set (i := 4) sc__law_applied.nd rfl (Or.inl rfl) (show PE _ _ (tBM K _ _ _ _) from pe_bm PySem.F.plainAttrs_list PySem.F.slot_list_pop PySem.F.type_list_pop mt_popAt (pv 3) (pa_cons (pe_ix (r := rIxT K) ix_tup (pv 1) pe_int (fun _ _ => rfl)) pa_nil)))
  (pss_one (ps_expr (show PE _ _ (tBM K _ _ _ _) from pe_bm PySem.F.plainAttrs_list PySem.F.slot_list_insert PySem.F.type_list_insert mt_insert (pv 3) (pa_cons (pe_ix (r := rIxT K) ix_tup (pv 1) pe_int (fun _ _ => rfl)) (pa_cons (pv 4) pa_nil)))))) pss_never)))))))))
  (pss_one (ps_ret (pv 0))))))), ?_⟩
    refine ⟨_, rfl, v, S, d, rfl, hv, hpl, fun H1 v1 e1 r1 => ?_⟩
    refine gname_go ?_
    have hdd1 := rep_ex e1 hdd
    have tst : ∀ {H4 H5 : Hp} {σ : L2.St} {zs : List V} {a b : Str} (r : Bool), Ex H4 H5 → H4 t = some (.tup zs) → σ[1]? = some (some (.ref t)) → zs[0]? = some (.str a) → decide (V.str a = V.str b) = r → EvT (tTest (tOp rEq (tOp (rIxT K) (tVar 1) (tC (.int 0))) (tC (.str b)))) σ H5 r := fun r e ht hs h0 hr => Evl.et_is (Evl.et_test (Evl.ev_op (Evl.ev_op (Evl.ev_var hs) Evl.ev_c (Evl.rv_ixT (Evl.st_of (e _ _ ht)) (atI_nat (j := 0) h0))) Evl.ev_c (Evl.rv_eq rfl))) hr
    cases does with
    | @flag L i fs j x b nL hi nf hj f1 =>
      obtain ⟨a, xs, ea, ht, _, pr⟩ := id hdd1
      cases ea
      cases pr with
      | cons h0 pr =>
      cases pr with
      | cons h1 pr =>
      cases pr
      have h0 := str_of h0; have h1 := str_of h1
      subst h0 h1
      refine Evl.q_when (b := true) (tst (a := "flag") (b := "flag") true (Ex.refl _) ht rfl rfl (by decide)) (fun _ H2 e2 => ?_) (fun h => nomatch h)
      have r2 := rt_ex e2 r1
      have e02 := e1.trans e2
      obtain ⟨T1, u1, kd1, s1, h1⟩ := hole_key (m := 9) (hole_top r2) nL hi
      obtain ⟨_, ub, kdb, _, hb⟩ := hole_key (m := 8) h1 nf hj
      have eb : ub = .bl b := hb.1
      subst eb
      obtain ⟨c, es, rfl, Tc, hc, le, up⟩ := hole_val (m := 8) (d' := .bl (!b)) (x := .bl (!b)) h1 nf hj (fun _ _ => rfl)
      have hcH : H c = none := s1 c Tc
      have ht2 := e2 _ _ ht
      refine Evl.q_asg (ev_kid (Evl.ev_var rfl) Evl.ev_c kd1) fun H3 e3 => ?_
      have ix : ∀ {H4 : Hp}, Ex H3 H4 → Ev (tOp (rIxT K) (tVar 1) (tC (.int 1))) [some v1, some (.ref t), some (.ref c), none, none, none] H4 (.str x) := fun e => Evl.ev_op (Evl.ev_var rfl) Evl.ev_c (Evl.rv_ixT (Evl.st_of (e _ _ (e3 _ _ ht2))) (atI_nat (j := 1) rfl))
      refine q_dput (k := Sum.inr x) (vv := .bl (!b)) (Evl.ev_notV (ev_kid (Evl.ev_var rfl) (ix (Ex.refl _)) (kdb.ex e3))) (Evl.ev_var rfl) (ix (Ex.refl _)) (e3 _ _ hc) (by omega) fun H4 e4 => ?_
      exact Evl.s_ret (Evl.ev_var rfl) fun H5 e5 => k H5 v1 ((Ex.mut ((e02.trans e3).trans e4) hcH).trans e5) (rt_ex e5 (rt_S (fun b hb => hb.elim id fun z => Evl.fresh_back e02 z) (up H4 (e3.trans e4))))
    | @list _ w0 C l x o hw ho l9 hx =>
      rw [deed_form] at hdd1
      obtain ⟨a, zs, ea, ht, _, pr⟩ := id hdd1
      cases ea
      cases pr with
      | cons h0 pr =>
      cases pr with
      | cons h1 pr =>
      rename_i z0 _ z1 zr
      have h0 := str_of h0
      subst h0
      obtain ⟨tw, ws, rfl, htw, _, pw⟩ := id h1
      refine Evl.q_when (b := false) (tst (a := opNm o) (b := "flag") false (Ex.refl _) ht rfl rfl (opNm_flag o)) (fun h => nomatch h) (fun _ H2 e2 => ?_)
      have r2 := rt_ex e2 r1
      have e02 := e1.trans e2
      obtain ⟨T1, u, rp, s1, hole⟩ := where_hole hw r2 pw
      refine q_go ⟨_, rfl, _, rfl, t, _, 1, .ref tw, rfl, rfl, Evl.st_of (e2 _ _ ht), atI_nat (j := 1) rfl, v1, u, tw, ws, rfl, e2 _ _ htw, rp, fun H4 e4 => ?_⟩
      obtain ⟨c, xs, rfl, Tc, hc, lx, up⟩ := hole_op hole l9
      have hcH : H c = none := s1 c Tc
      have ht4 := e4 _ _ (e2 _ _ ht)
      have hc4 := e4 _ _ hc
      have e14 := e2.trans e4
      have prx := pair_imp pr fun a b h => rep_ex e14 h
      have e04 := e02.trans e4
      have fin : ∀ (xv : V) (H8 : Hp), Ex H4 H8 → (o.new = true → RepT H8 10 (fun b => H2 b = none) x xv) → ∀ H9, Ex (upd H8 c (.lst (o.run xv xs))) H9 → Q v1 H9 := fun xv H8 e8 hx8 H9 e9 => by
        have r9 := up o H8 x xv (e4.trans e8) fun hn => rt_down (hx hn).2 (hx8 hn)
        refine k H9 v1 ((Ex.mut (e04.trans e8) hcH).trans e9) (rt_ex e9 (rt_S (fun b hb => hb.elim id fun z => Evl.fresh_back e02 z) r9))
      have l9x : xs.length ≤ 90000 := by omega
      cases o with
      | app =>
        cases prx with
        | @cons _ x1 _ _ hx1 prx =>
        cases prx
        refine Evl.q_if (tst (a := "append") (b := "append") true (Ex.refl H4) ht4 rfl rfl (by decide)) (fun _ H5 e5 => ?_) (fun h => nomatch h)
        have ea := e5
        have hca := ea _ _ hc4
        have hta := ea _ _ ht4
        refine ⟨_, rfl, .inl ⟨rfl, _, Evl.sq_of hca⟩, _, rfl, t, _, 2, x1, rfl, rfl, Evl.st_of hta, rfl, x1, S', x, rfl, rep_ex ea hx1, (hx rfl).1, fun H8 v8 e8 r8 => ?_⟩
        have e48 := ea.trans e8
        refine ⟨c, xs, v8, rfl, rfl, e8 _ _ hca, Evl.sz_lt (by omega), ?_⟩
        exact Evl.s_ret (Evl.ev_var rfl) (fin v8 H8 e48 fun _ => rt_S (fun b hb => Evl.fresh_back (e4.trans ea) hb) r8)
      | ins i =>
        cases prx with
        | @cons _ xi _ _ hi1 prx =>
        cases prx with
        | @cons _ x1 _ _ hx1 prx =>
        cases prx
        have hi1 := int_of hi1
        subst hi1
        refine Evl.q_if (tst (a := "insert") (b := "append") false (Ex.refl H4) ht4 rfl rfl (by decide)) (fun h => nomatch h) (fun _ H5 e5 => ?_)
        refine Evl.s_if (tst (a := "insert") (b := "insert") true e5 ht4 rfl rfl (by decide)) (fun _ H6 e6 => ?_) (fun h => nomatch h)
        have ea := (e5.trans e6)
        have hca := ea _ _ hc4
        have hta := ea _ _ ht4
        refine ⟨_, rfl, .inl ⟨rfl, _, Evl.sq_of hca⟩, _, rfl, t, _, 2, .int (i : Int), rfl, rfl, Evl.st_of hta, rfl, _, rfl, t, _, 3, x1, rfl, rfl, Evl.st_of hta, rfl, x1, S', x, rfl, rep_ex ea hx1, (hx rfl).1, fun H8 v8 e8 r8 => ?_⟩
        have e48 := ea.trans e8
        have ho : i ≤ l.length := ho
        refine ⟨c, xs, (i : Int), v8, rfl, rfl, e8 _ _ hca, Evl.sz_lt (by omega), by omega, by omega, ?_⟩
        rw [Int.toNat_natCast]
        exact Evl.s_ret (Evl.ev_var rfl) (fin v8 H8 e48 fun _ => rt_S (fun b hb => Evl.fresh_back (e4.trans ea) hb) r8)
      | cut =>
        refine Evl.q_if (tst (a := "cut") (b := "append") false (Ex.refl H4) ht4 rfl rfl (by decide)) (fun h => nomatch h) (fun _ H5 e5 => ?_)
        refine Evl.s_if (tst (a := "cut") (b := "insert") false e5 ht4 rfl rfl (by decide)) (fun h => nomatch h) (fun _ H6 e6 => ?_)
        refine Evl.s_if (tst (a := "cut") (b := "cut") true (e5.trans e6) ht4 rfl rfl (by decide)) (fun _ H7 e7 => ?_) (fun h => nomatch h)
        have ea := ((e5.trans e6).trans e7)
        have hca := ea _ _ hc4
        have hta := ea _ _ ht4
        have ho : 0 < l.length := ho
        obtain ⟨y, hy⟩ := get_last (xs := xs) (by omega)
        refine ⟨_, rfl, .inl ⟨rfl, _, Evl.sq_of hca⟩, c, xs, y, rfl, rfl, hca, hy, ?_⟩
        exact Evl.s_ret (Evl.ev_var rfl) (fin .non _ ea fun h => nomatch h)
      | rem i =>
        cases prx with
        | @cons _ xi _ _ hi1 prx =>
        cases prx
        have hi1 := int_of hi1
        subst hi1
        refine Evl.q_if (tst (a := "remove") (b := "append") false (Ex.refl H4) ht4 rfl rfl (by decide)) (fun h => nomatch h) (fun _ H5 e5 => ?_)
        refine Evl.s_if (tst (a := "remove") (b := "insert") false e5 ht4 rfl rfl (by decide)) (fun h => nomatch h) (fun _ H6 e6 => ?_)
        refine Evl.s_if (tst (a := "remove") (b := "cut") false (e5.trans e6) ht4 rfl rfl (by decide)) (fun h => nomatch h) (fun _ H7 e7 => ?_)
        refine Evl.s_if (tst (a := "remove") (b := "remove") true ((e5.trans e6).trans e7) ht4 rfl rfl (by decide)) (fun _ H8 e8 => ?_) (fun h => nomatch h)
        have ea := (((e5.trans e6).trans e7).trans e8)
        have hca := ea _ _ hc4
        have hta := ea _ _ ht4
        have ho : i < l.length := ho
        have hy := List.getElem?_eq_getElem (l := xs) (i := i) (by omega)
        refine ⟨_, rfl, .inl ⟨rfl, _, Evl.sq_of hca⟩, _, rfl, t, _, 2, .int (i : Int), rfl, rfl, Evl.st_of hta, rfl, c, xs, (i : Int), i, _, rfl, rfl, hca, by omega, by omega, seq_ix (by omega), hy, ?_⟩
        exact Evl.s_ret (Evl.ev_var rfl) (fin .non _ ea fun h => nomatch h)
      | mov i j =>
        cases prx with
        | @cons _ xi _ _ hi1 prx =>
        cases prx with
        | @cons _ xj _ _ hj1 prx =>
        cases prx
        have hi1 := int_of hi1
        have hj1 := int_of hj1
        subst hi1 hj1
        refine Evl.q_if (tst (a := "move") (b := "append") false (Ex.refl H4) ht4 rfl rfl (by decide)) (fun h => nomatch h) (fun _ H5 e5 => ?_)
        refine Evl.s_if (tst (a := "move") (b := "insert") false e5 ht4 rfl rfl (by decide)) (fun h => nomatch h) (fun _ H6 e6 => ?_)
        refine Evl.s_if (tst (a := "move") (b := "cut") false (e5.trans e6) ht4 rfl rfl (by decide)) (fun h => nomatch h) (fun _ H7 e7 => ?_)
        refine Evl.s_if (tst (a := "move") (b := "remove") false ((e5.trans e6).trans e7) ht4 rfl rfl (by decide)) (fun h => nomatch h) (fun _ H8 e8 => ?_)
        refine Evl.s_if (tst (a := "move") (b := "move") true (((e5.trans e6).trans e7).trans e8) ht4 rfl rfl (by decide)) (fun _ H9 e9 => ?_) (fun h => nomatch h)
        have ea := ((((e5.trans e6).trans e7).trans e8).trans e9)
        have hca := ea _ _ hc4
        have hta := ea _ _ ht4
        have ho : i < l.length ∧ j < l.length := ho
        have hy := List.getElem?_eq_getElem (l := xs) (i := i) (by omega)
        have f9 := fin .non _ ea fun h => nomatch h
        have er : (Op.mov i j).run V.non xs = (xs.eraseIdx i).take j ++ [xs[i]] ++ (xs.eraseIdx i).drop j := by simp only [Op.run, hy]
        rw [er, ← upd_upd (o := .lst (xs.eraseIdx i))] at f9
        have le9 : (xs.eraseIdx i).length ≤ xs.length := (List.eraseIdx_sublist _ _).length_le
        refine ⟨_, rfl, .inl ⟨rfl, _, Evl.sq_of hca⟩, _, rfl, t, _, 2, .int (i : Int), rfl, rfl, Evl.st_of hta, rfl, c, xs, (i : Int), i, _, rfl, rfl, hca, by omega, by omega, seq_ix (by omega), hy, ?_⟩
        refine gname_go ?_
        have nct : t ≠ c := fun e => by rw [e, hca] at hta; cases hta
        have hta : (upd H9 c (.lst (xs.eraseIdx i))) t = some (.tup [.str "move", .ref tw, .int (i : Int), .int (j : Int)]) := by rw [upd_ne nct]; exact hta
        have hca : (upd H9 c (.lst (xs.eraseIdx i))) c = some (.lst (xs.eraseIdx i)) := upd_same
        refine ⟨_, rfl, .inl ⟨rfl, _, Evl.sq_of hca⟩, _, rfl, t, _, 3, .int (j : Int), rfl, rfl, Evl.st_of hta, rfl, _, rfl, ?_⟩
        refine ⟨c, _, (j : Int), _, rfl, rfl, upd_same, Evl.sz_lt (by omega), by omega, by omega, ?_⟩
        rw [Int.toNat_natCast]
        exact Evl.s_ret (Evl.ev_var rfl) f9
end
end Pk

namespace Pk
open PySem PySem.Spec PyProof.Rows L2 Ssb
open Evl (Ex Ev EvT EvL EvA EvU)
theorem lk_of_mem {α : Type} : ∀ {l : List (Str × α)} {k : Str} {x : α}, (l.map (·.1)).Nodup → (k, x) ∈ l → l.lookup k = some x
  | (j, d) :: l, k, x, nd, h => by
    rw [List.map_cons, List.nodup_cons] at nd
    rw [lk_cons]
    rcases List.mem_cons.mp h with h | h
    · cases h; rw [if_pos rfl]
    · rw [if_neg (fun e => nd.1 (by rw [← e]; exact List.mem_map.mpr ⟨_, h, rfl⟩))]
      exact lk_of_mem nd.2 h
theorem pair_mk {α β : Type} {F : α → β → Prop} : ∀ {l : List α}, (∀ (i : Nat) (a : α), l[i]? = some a → ∃ b, F a b) → ∃ m, Paired F l m
  | [], _ => ⟨[], .nil⟩
  | a :: l, h => by
    obtain ⟨b, hb⟩ := h 0 a rfl
    obtain ⟨m, hm⟩ := pair_mk (l := l) fun i x hx => h (i + 1) x (by simpa using hx)
    exact ⟨b :: m, .cons hb hm⟩
/-- the lists of the shape that a deed's place names -/
def KdW (s : Sh) (w : List D) (nm : Str) : Prop := (w = [.str nm] ∧ nm ∈ kids s none) ∨ ∃ (n1 : Str) (m : Int), w = [.str n1, .int m, .str nm] ∧ n1 ∈ kids s none ∧ nm ∈ kids s (some n1) ∧ 0 ≤ m ∧ m ≤ 1000000
/-- the rows that a deed speaks of, in data that nobody changes -/
theorem where_rep {H : Hp} {S S' : Addr → Prop} {v : V} {d : D} {w : List D} {C : D → D} {l : List D} {nm : Str} {s : Sh} (h : Where d w C l) (r : Rep H 10 S d v) {H2 : Hp} {k : Nat} {xs : List V} (pw : Paired (fun d x => Rep H2 k S' d x) w xs) (kd : KdW s w nm) :
    ∃ (L ls : List (Str × D)) (u : V) (m : Nat) (S2 : Addr → Prop), d = .dic L ∧ L.lookup ("lists" : Str) = some (.dic ls) ∧ AtW s ls xs nm ∧ RowsP H v xs u ∧ Rep H m S2 (.lst l) u := by
  rcases h with ⟨nm', L, i, ls, j, rfl, rfl, nL, hi, nls, hj, rfl⟩ | ⟨n1, nm', m, L, i, ls, j, rs, k0, R, p, ls2, q, rfl, rfl, nL, hi, nls, hj, l400, hk, hids, nR, hp, nls2, hq, rfl⟩
  · cases pw with
    | cons h0 pw =>
    cases pw
    rw [str_of h0]
    have hL := lk_of_mem nL (List.mem_of_getElem? hi)
    have hl := lk_of_mem nls (List.mem_of_getElem? hj)
    obtain ⟨u1, _, kd1, r1⟩ := rep_kid r hL
    obtain ⟨u2, _, kd2, r2⟩ := rep_kid r1 hl
    rcases kd with ⟨e, hk⟩ | ⟨_, _, e, _⟩
    · cases e
      exact ⟨L, ls, u2, _, _, rfl, hL, .inl ⟨rfl, hk⟩, .inl ⟨nm, u1, rfl, kd1, kd2⟩, r2⟩
    · cases e
  · cases pw with
    | cons h0 pw =>
    cases pw with
    | cons h1' pw =>
    cases pw with
    | cons h2' pw =>
    cases pw
    rw [str_of h0, int_of h1', str_of h2']
    have hL := lk_of_mem nL (List.mem_of_getElem? hi)
    have hl := lk_of_mem nls (List.mem_of_getElem? hj)
    have hR := lk_of_mem nR (List.mem_of_getElem? hp)
    have hl2 := lk_of_mem nls2 (List.mem_of_getElem? hq)
    obtain ⟨u1, _, kd1, r1⟩ := rep_kid r hL
    obtain ⟨u2, _, kd2, r2⟩ := rep_kid r1 hl
    obtain ⟨c, zs, rfl, _, hc, _, pz⟩ := r2
    obtain ⟨row, hrow, rrow⟩ := pair_at pz hk
    obtain ⟨u4, _, kd4, r4⟩ := rep_kid rrow hR
    obtain ⟨u5, _, kd5, r5⟩ := rep_kid r4 hl2
    rcases kd with ⟨e, _⟩ | ⟨n1', m', e, k1, k2, m0, m1⟩
    · cases e
    · cases e
      obtain ⟨ids, pi⟩ := pair_mk (F := fun (row : D) (i : Int) => ∃ l, row = .dic l ∧ l.lookup ("id" : Str) = some (.int i)) (l := rs) fun i a ha => by
        obtain ⟨R', z, e, hz, _⟩ := hids i a ha
        exact ⟨z, R', e, hz⟩
      refine ⟨L, ls, u5, _, _, rfl, hL, .inr ⟨n1, m, rs, ids, rfl, k1, k2, hl, l400, pi, ?_, m0, m1⟩, .inr ⟨n1, nm, m, u1, c, zs, k0, row, u4, rfl, kd1, kd2, hc, by rw [← pair_len pz]; exact l400, hrow, fun j' r hr => ?_, kd4, kd5⟩, r5⟩
      · obtain ⟨R', z, e, hz, hz'⟩ := hids k0 _ hk
        obtain ⟨b, hb, R2, e2, hb2⟩ := pair_at pi hk
        rw [e] at e2; cases e2
        rw [hz] at hb2; cases hb2
        rw [← hz'.mpr rfl]
        exact List.mem_of_getElem? hb
      · obtain ⟨dr, hdr, rr⟩ := pair_back pz hr
        obtain ⟨R', z, rfl, hid, hz'⟩ := hids j' dr hdr
        obtain ⟨u, _, kd, ru⟩ := rep_kid rr hid
        rw [int_of ru] at kd
        exact ⟨z, kd, hz'⟩
section
variable {P : Program} {w : World} {K : PySem.W.Frag} {mg : Str → Option Value} {base : Heap} {C_Shape C_LimitExceeded C_InvalidDeed C_StayError C_FORMS : Addr}
theorem ok_check_row2 (T : Txt K mg C_Shape C_LimitExceeded C_InvalidDeed C_StayError C_FORMS) (R : Prg K mg C_Shape C_LimitExceeded C_InvalidDeed C_StayError C_FORMS) : ∃ f fd, Fn P w K mg base "check_row" 8 ["shape", "name", "row", "earlier", "here"] (spCx C_Shape 1) f fd :=
  ok_check_row T R (by decide) (ok_check_lists T R (ok_check_rows T R (ok_check_row T R (by decide) (ok_check_lists T R (ok_check_rows0 T R)))))
def spRF (C : Addr) : Sp := fun vs H Q _ => ∃ (p c : Addr) (v rv : V) (n n2 : Nat) (S S2 S' : Addr → Prop) (d row : D) (fl : List Str) (s : Sh) (r : Ro) (id : Int) (ids : List Int) (xs : List V), vs = [.ref p, v, .str r.1, .ref c, rv] ∧ ShapeAt C H p fl s S' ∧ okSh s ∧ r ∈ rowsS s ∧ Rep H n S d v ∧ wfR 3 d ∧
  Rep H n2 S2 row rv ∧ okRow s 1 r row id ∧ wfR 3 row ∧ H c = some (.lst xs) ∧ xs.length ≤ 400 ∧ ids.Nodup ∧ Paired (fun (i : Int) x => Kid H x "id" (.int i)) ids xs ∧ id ∉ ids ∧ ∀ H', Ex H H' → Q (.bl (decide (rowsN 3 d + 1 + rowsN 3 row ≤ 300))) H'
theorem ok_row_fits (T : Txt K mg C_Shape C_LimitExceeded C_InvalidDeed C_StayError C_FORMS) (R : Prg K mg C_Shape C_LimitExceeded C_InvalidDeed C_StayError C_FORMS) : ∃ f fd, Fn P w K mg base "row_fits" 9 ["shape", "data", "name", "rows", "row"] (spRF C_Shape) f fd := by
  obtain ⟨_, _, G_check_row⟩ := ok_check_row2 (P := P) (w := w) (base := base) T R
  obtain ⟨_, _, G_rows_in⟩ := ok_rows_in (P := P) (w := w) (base := base) T R 3
  obtain ⟨tG, gG⟩ := T.g_MOST_ROWS
  obtain ⟨f, fd, at_, F, kp⟩ := R.row_fits
  refine ⟨f, fd, F.ok sc_row_fits (fun vs H Q E h => ?_) (fun cdv A outer s H vs Q E hr h => ?_), at_, kp, F.binds (fun _ _ _ _ _ _ us hl => match us, hl with | [_, _, _, _, _], _ => rfl)⟩
  · obtain ⟨p, c, v, rv, n, n2, S, S2, S', d, row, fl, s, r, id, ids, xs, rfl, _⟩ := h; rfl
  · obtain ⟨p, c, v, rv, n, n2, S, S2, S', d, row, fl, z, r, id, ids, xs, rfl, hS, hz, hr1, hv, wf, hrv, okr, wfr, hc, l400, ndi, prs, nid, k⟩ := h
    have li := pair_len prs
    refine ⟨_, (pss_cons (ps_try_thru0 (pss_one (ps_expr (pcl G_check_row hr (pa_cons (pv 0) (pa_cons (pv 2) (pa_cons (pv 4) (pa_cons (pe_dc (own := [("other", 5)]) rfl sc_row_fits.nd (show PI _ _ _ (iList K _) from pi_list (pv 3)) (blkOk_by (own := [("other", 5)]) (N := ["shape", "data", "name", "rows", "row", "other"]) (sc := defScope s_row_fits) (by decide +kernel)) (fun _ _ _ _ _ => (pg_name (i := 5) sc_row_fits.nd rfl (Or.inl rfl))) (fun _ _ _ _ _ => pts_nil) (fun _ _ _ _ _ => (pe_dget (hu_of hr) (pv 5) pe_str (fun _ _ => rfl))) (fun _ _ _ _ _ => pe_bl)) (pa_cons (pe_tup pa_nil) pa_nil)))))))))
  (pss_one (ps_ret (pe_cmpR op_le (pe_op op_add (pe_op op_add (pcl G_rows_in hr (pa_cons (pv 1) pa_nil)) pe_int) (pcl G_rows_in hr (pa_cons (pv 4) pa_nil))) (pe_glob (v := .int 300) rfl gG ⟨_, rfl⟩) (nomark _))))), ?_⟩
    refine ⟨_, rfl, _, rfl, _, rfl, _, rfl, c, rfl, ⟨xs, Evl.sq_of hc⟩, fun Dl hD => ?_⟩
    refine dc_it (walk_list (K := K) (a := c) (xs := xs)) (vs := [5]) (fun i H' => Ex H H' ∧ H' Dl = some (.dK (idE (ids.take i)))) ⟨Ex.new hD, upd_same⟩ (fun i H' _ p => Evl.sq_of (p.1 _ _ hc)) (fun i x H0 H' hi pv y => ?_) fun H1 pv => ?_
    · obtain ⟨e, hes⟩ := pv
      obtain ⟨rfl, hx⟩ := y
      obtain ⟨q, hq, kq⟩ := pair_back prs hx
      have tk : ids.take (i + 1) = ids.take i ++ [q] := take_snoc hq
      refine ⟨rfl, yes_go ?_⟩
      refine ev_kid (Evl.ev_var rfl) Evl.ev_c (kq.ex e) _ (Ex.refl _) _ fun H2 e2 => ?_
      refine ⟨idE (ids.take i), Sum.inl q, rfl, e2 _ _ hes, ?_, Ex.mut (e.trans e2) hD, ?_⟩
      · unfold idE; rw [List.length_map, List.length_take]; exact Evl.sz_lt (by omega)
      · rw [upd_same, putK_new _ (idE_no (not_take ndi hq)), tk]
        unfold idE; rw [List.map_append]; rfl
    obtain ⟨e1, hes⟩ := pv
    rw [← li, List.take_of_length_le (Nat.le_refl _)] at hes
    refine ⟨(by show 0 ≤ sizeLine; decide), fun tp htp => ?_⟩
    have e2 : Ex H1 (upd H1 tp (.tup [])) := Ex.new htp
    have e02 := e1.trans e2
    refine ⟨p, Dl, rv, .ref tp, n2, S2, row, fl, z, S', r, 0, ids, id, rfl, hS.ex e02, hz, hr1, rep_ex e02 hrv, okr, e2 _ _ hes, nid, ⟨tp, [], rfl, upd_same, Nat.le_refl _⟩, by omega, fun H3 e3 => ?_⟩
    have e03 := e02.trans e3
    have ri : ∀ {H4 : Hp} {i m : Nat} {S0 : Addr → Prop} {d0 : D} {v0 : V} {σ : L2.St}, Ex H H4 → σ[i]? = some (some v0) → Rep H m S0 d0 v0 → wfR 3 d0 → Ev (tCall (spRi 3) [] E0 (tCons (tVar i) tNil)) σ H4 (.int (rowsN 3 d0)) := fun {H4 i m S0 d0 v0 σ} e hs h0 w0 => ev_fn (Evl.ea_cons (Evl.ev_var hs) Evl.ea_nil) fun H5 e5 Q' q' => ⟨v0, m, S0, d0, rfl, rep_ex (e.trans e5) h0, w0, q'⟩
    exact Evl.s_ret (v := .bl (decide (rowsN 3 d + 1 + rowsN 3 row ≤ 300))) (Evl.ev_op (Evl.ev_op (Evl.ev_op (ri e03 rfl hv wf) Evl.ev_c Evl.rv_I0) (ri e03 rfl hrv wfr) Evl.rv_I0) Evl.ev_c Evl.rv_I0) fun H4 e4 => k H4 (e03.trans e4)
theorem RowsP.ex {H H' : Hp} {v u : V} {xs : List V} (e : Ex H H') (h : RowsP H v xs u) : RowsP H' v xs u := by
  rcases h with ⟨nm, w, rfl, h1, h2⟩ | ⟨n1, nm, m, w, c, zs, i, row, w2, rfl, h1, h2, hc, l4, hi, hids, h3, h4⟩
  · exact .inl ⟨nm, w, rfl, h1.ex e, h2.ex e⟩
  · exact .inr ⟨n1, nm, m, w, c, zs, i, row, w2, rfl, h1.ex e, h2.ex e, e _ _ hc, l4, hi, fun j r hr => let ⟨q, a, b⟩ := hids j r hr; ⟨q, a.ex e, b⟩, h3.ex e, h4.ex e⟩
/-- why a deed cannot be done, or None -/
inductive Reas (s : Sh) (fl : List Str) (d : D) : D → V → Prop
  | flag {x : Str} : x ∈ fl → Reas s fl d (.tup [.str "flag", .str x]) .non
  | list {w : List D} {C : D → D} {l : List D} {x : D} {r : Ro} {id : Int} {ids : List Int} (o : Op) : Where d w C l → KdW s w r.1 → o.ok l.length → l.length ≤ 400 →
      (o.new = true → r ∈ rowsS s ∧ okRow s 1 r x id ∧ wfR 3 x ∧ Paired (fun (i : Int) (row : D) => ∃ R, row = .dic R ∧ R.lookup ("id" : Str) = some (.int i)) ids l ∧ ids.Nodup ∧ id ∉ ids) → Reas s fl d (deedD w x o) (if (o.new && !decide (rowsN 3 d + 1 + rowsN 3 x ≤ 300)) = true then .str "row" else .non)
def spWR (C : Addr) : Sp := fun vs H Q _ => ∃ (p t : Addr) (v : V) (S S2 S' : Addr → Prop) (d dd : D) (fl : List Str) (s : Sh) (ans : V), vs = [.ref p, v, .ref t] ∧ ShapeAt C H p fl s S' ∧ okSh s ∧ Rep H 10 S d v ∧ wfR 3 d ∧ Rep H 11 S2 dd (.ref t) ∧ Reas s fl d dd ans ∧ ∀ H', Ex H H' → Q ans H'
theorem hasF_deed : ∀ (w : List D) (x : D) (o : Op), hasF (deedD w x o) = true
  | _, _, .app => rfl
  | _, _, .ins _ => rfl
  | _, _, .cut => rfl
  | _, _, .rem _ => rfl
  | _, _, .mov _ _ => rfl
theorem fits_deed {o : Op} {n : Nat} {wv : V} {zr : List V} {H : Hp} {k : Nat} {S : Addr → Prop} {x : D} (ho : o.ok n) (pr : Paired (fun d v => Rep H k S d v) (opRest o x) zr) : FitsIx (.str (opNm o) :: wv :: zr) (n : Int) := by
  cases o with
  | app =>
    cases pr with
    | cons h1 pr =>
    cases pr
    exact .inl ⟨_, _, rfl⟩
  | ins i =>
    cases pr with
    | cons h1 pr =>
    cases pr with
    | cons h2 pr =>
    cases pr
    rw [int_of h1]
    have ho : i ≤ n := ho
    exact .inr (.inr (.inl ⟨_, _, _, rfl, by omega, by omega⟩))
  | cut =>
    cases pr
    have ho : 0 < n := ho
    exact .inr (.inl ⟨_, rfl, by omega⟩)
  | rem i =>
    cases pr with
    | cons h1 pr =>
    cases pr
    rw [int_of h1]
    have ho : i < n := ho
    exact .inr (.inr (.inr (.inl ⟨_, _, rfl, by omega, by omega⟩)))
  | mov i j =>
    cases pr with
    | cons h1 pr =>
    cases pr with
    | cons h2 pr =>
    cases pr
    rw [int_of h1, int_of h2]
    have ho : i < n ∧ j < n := ho
    exact .inr (.inr (.inr (.inr ⟨_, _, _, rfl, by omega, by omega, by omega, by omega⟩)))
theorem opNm_new : ∀ o : Op, inV (.str (opNm o)) [.str "append", .str "insert"] = o.new
  | .app => rfl
  | .ins _ => rfl
  | .cut => rfl
  | .rem _ => rfl
  | .mov _ _ => rfl
theorem opNm_field : ∀ o : Op, decide (V.str (opNm o) = V.str "field") = false
  | .app => by decide
  | .ins _ => by show decide (V.str "insert" = V.str "field") = false; decide
  | .cut => by decide
  | .rem _ => by show decide (V.str "remove" = V.str "field") = false; decide
  | .mov _ _ => by show decide (V.str "move" = V.str "field") = false; decide
theorem opLast {o : Op} {x : D} {wv : V} {zr : List V} {H : Hp} {k : Nat} {S : Addr → Prop} (hn : o.new = true) (pr : Paired (fun d v => Rep H k S d v) (opRest o x) zr) : ∃ y, Rep H k S x y ∧ atI (.str (opNm o) :: wv :: zr) (-1) = some y := by
  cases o with
  | app =>
    cases pr with
    | cons h1 pr =>
    cases pr
    exact ⟨_, h1, atI_last [_, _] _⟩
  | ins i =>
    cases pr with
    | cons h1 pr =>
    cases pr with
    | cons h2 pr =>
    cases pr
    exact ⟨_, h2, atI_last [_, _, _] _⟩
  | cut => cases hn
  | rem i => cases hn
  | mov i j => cases hn
theorem ok_wrong_reason (T : Txt K mg C_Shape C_LimitExceeded C_InvalidDeed C_StayError C_FORMS) (R : Prg K mg C_Shape C_LimitExceeded C_InvalidDeed C_StayError C_FORMS) : ∃ f fd, Fn P w K mg base "wrong_reason" 10 ["shape", "data", "deed"] (spWR C_Shape) f fd := by
  obtain ⟨_, _, G_has_form⟩ := ok_has_form (P := P) (w := w) (base := base) T R
  obtain ⟨_, _, G_list_at⟩ := ok_list_at (P := P) (w := w) (base := base) T R
  obtain ⟨_, _, G_rows_at⟩ := ok_rows_at (P := P) (w := w) (base := base) T R
  obtain ⟨_, _, G_indexes_fit⟩ := ok_indexes_fit (P := P) (w := w) (base := base) T R
  obtain ⟨_, _, G_row_fits⟩ := ok_row_fits (P := P) (w := w) (base := base) T R
  obtain ⟨f, fd, at_, F, kp⟩ := R.wrong_reason
  refine ⟨f, fd, F.ok sc_wrong_reason (fun vs H Q E h => ?_) (fun cdv A outer s H vs Q E hr h => ?_), at_, kp, F.binds (fun _ _ _ _ _ _ us hl => match us, hl with | [_, _, _], _ => rfl)⟩
  · obtain ⟨p, t, v, S, S2, S', d, dd, fl, s, ans, rfl, _⟩ := h; rfl
  · obtain ⟨p, t, v, S, S2, S', d, dd, fl, z, ans, rfl, hS, hz, hv, wf, hdd, rea, k⟩ := h
    obtain ⟨dx, ft, tb, hp, hft, _⟩ := id hS
    refine ⟨_, (pss_cons (ps_if (pt_not (pt_val (pcl G_has_form hr (pa_cons (pv 2) (pa_cons (pe_glob (v := .ref _) rfl T.at_FORMS rfl) pa_nil))))) pss_never pss_nil)
  (pss_cons (ps_if (pt_cmpR op_eq (pe_ix (r := rIxT K) ix_tup (pv 2) pe_int (fun _ _ => rfl)) pe_str (nomark _)) (pss_one (ps_ret (pe_ifExp (pt_cmpR (r := rIn K false) op_in_seq (pe_ix (r := rIxT K) ix_tup (pv 2) pe_int (fun _ _ => rfl)) (show PE _ _ (tFld K _ _) from pe_fld (pv 0) rfl) (by rfl)) pe_non pe_str))) pss_nil)
  (pss_cons (ps_set (i := 3) sc_wrong_reason.nd rfl (Or.inl rfl) (pcl G_list_at hr (pa_cons (pv 0) (pa_cons (pv 1) (pa_cons (pe_ix (r := rIxT K) ix_tup (pv 2) pe_int (fun _ _ => rfl)) pa_nil)))))
  (pss_cons (ps_if (pt_cmpR op_isN (pv 3) pe_non (nomark _)) pss_never pss_nil)
  (pss_cons (ps_set (i := 4) sc_wrong_reason.nd rfl (Or.inl rfl) (pcl G_rows_at hr (pa_cons (pv 1) (pa_cons (pe_ix (r := rIxT K) ix_tup (pv 2) pe_int (fun _ _ => rfl)) pa_nil))))
  (pss_cons (ps_if (pt_not (pt_val (pcl G_indexes_fit hr (pa_cons (pv 2) (pa_cons (pe_callB (r := rLenA K) call_len (by rfl) T.len (by decide +kernel) (pa_cons (pv 4) pa_nil)) pa_nil))))) pss_never pss_nil)
  (pss_cons (ps_if (PW.pt (pw_and (pt_cmpR (r := rIn K false) op_in_seq (pe_ix (r := rIxT K) ix_tup (pv 2) pe_int (fun _ _ => rfl)) (pe_tup (pa_cons pe_str (pa_cons pe_str pa_nil))) (by rfl)) (pw_and1 (pt_not (pt_val (pcl G_row_fits hr (pa_cons (pv 0) (pa_cons (pv 1) (pa_cons (pv 3) (pa_cons (pv 4) (pa_cons (pe_ix (r := rIxT K) ix_tup (pv 2) (pe_un un_neg pe_int) (fun _ _ => rfl)) pa_nil))))))))))) (pss_one (ps_ret pe_str)) pss_nil)
  (pss_cons (ps_if (pt_cmpR op_eq (pe_ix (r := rIxT K) ix_tup (pv 2) pe_int (fun _ _ => rfl)) pe_str (nomark _)) pss_never pss_nil)
  (pss_one (ps_ret pe_non)))))))))), ?_⟩
    have form : hasF dd = true := by
      cases rea with
      | flag => rfl
      | list o => exact hasF_deed _ _ o
    refine Evl.q_when (b := !true) (Evl.et_not (Evl.et_B (ev_fn (z := .bl true) (Evl.ea_cons (Evl.ev_var rfl) (Evl.ea_cons Evl.ev_c Evl.ea_nil)) fun H1 e1 Q' q' => ⟨.ref t, 9, S2, dd, rfl, rep_ex e1 hdd, fun H2 e2 => by rw [form]; exact q' H2 e2⟩))) (fun h => nomatch h) (fun _ H1 e1 => ?_)
    have tst : ∀ {H4 H5 : Hp} {σ : L2.St} {zs : List V} {a b : Str} (r : Bool), Ex H4 H5 → H4 t = some (.tup zs) → σ[2]? = some (some (.ref t)) → zs[0]? = some (.str a) → decide (V.str a = V.str b) = r → EvT (tTest (tOp rEq (tOp (rIxT K) (tVar 2) (tC (.int 0))) (tC (.str b)))) σ H5 r := fun r e ht hs h0 hr => Evl.et_is (Evl.et_test (Evl.ev_op (Evl.ev_op (Evl.ev_var hs) Evl.ev_c (Evl.rv_ixT (Evl.st_of (e _ _ ht)) (atI_nat (j := 0) h0))) Evl.ev_c (Evl.rv_eq rfl))) hr
    cases rea with
    | @flag x hx =>
      obtain ⟨a, xs, ea, ht, _, pr⟩ := id (rep_ex e1 hdd)
      cases ea
      cases pr with
      | cons h0 pr =>
      cases pr with
      | cons h1 pr =>
      cases pr
      have h0 := str_of h0; have h1 := str_of h1
      subst h0 h1
      refine Evl.q_when (b := true) (tst (a := "flag") (b := "flag") true (Ex.refl _) ht rfl rfl (by decide)) (fun _ H2 e2 => ?_) (fun h => nomatch h)
      have e02 := e1.trans e2
      refine Evl.s_ret (Evl.ev_if (b := true) (Evl.et_is (Evl.et_test (Evl.ev_op (Evl.ev_op (Evl.ev_var rfl) Evl.ev_c (Evl.rv_ixT (Evl.st_of (e2 _ _ ht)) (atI_nat (j := 1) rfl))) (fun H3 e3 Q' q' => ⟨_, rfl, p, C_Shape, dx, _, _, rfl, (e02.trans e3) _ _ hp, T.cl_Shape, T.no_Shape_flags, shF_flags _ _, q' H3 (Ex.refl _)⟩) (Evl.rv_isT (Evl.st_of (e02 _ _ hft)) rfl (all_flat_str fl)))) (by rw [inV_str]; exact decide_eq_true hx)) (fun _ => Evl.ev_c) (fun h => nomatch h)) fun H3 e3 => k H3 (e02.trans e3)
    | @list w0 C l x r id ids o hw kd ho l400 hnew =>
      rw [deed_form] at hdd
      obtain ⟨a, zs, ea, ht, _, pr⟩ := _root_.id (rep_ex e1 hdd)
      cases ea
      cases pr with
      | cons h0 pr =>
      cases pr with
      | cons h1 pr =>
      rename_i z0 _ z1 zr
      have h0 := str_of h0
      subst h0
      obtain ⟨tw, ws, rfl, htw, _, pw⟩ := _root_.id h1
      refine Evl.q_when (b := false) (tst (a := opNm o) (b := "flag") false (Ex.refl _) ht rfl rfl (opNm_flag o)) (fun h => nomatch h) (fun _ H2 e2 => ?_)
      have e02 := e1.trans e2
      obtain ⟨L, ls, u, mu, Su, rfl, hL, hat, rp, hu⟩ := where_rep hw (rep_ex e02 hv) pw kd
      have ix1 : ∀ {H4 : Hp} {o3 o4 : Option V}, Ex H2 H4 → Ev (tOp (rIxT K) (tVar 2) (tC (.int 1))) [some (.ref p), some v, some (.ref t), o3, o4] H4 (.ref tw) := fun e => Evl.ev_op (Evl.ev_var rfl) Evl.ev_c (Evl.rv_ixT (Evl.st_of ((e2.trans e) _ _ ht)) (atI_nat (j := 1) rfl))
      refine Evl.q_asg (v := .str r.1) (ev_fn (Evl.ea_cons (Evl.ev_var rfl) (Evl.ea_cons (Evl.ev_var rfl) (Evl.ea_cons (ix1 (Ex.refl _)) Evl.ea_nil))) fun H3 e3 Q' q' => ⟨p, tw, v, 10, S, S', fl, z, L, ls, ws, r.1, rfl, hS.ex (e02.trans e3), hz, rep_ex (e02.trans e3) hv, hL, (e2.trans e3) _ _ htw, hat, q'⟩) fun H3 e3 => ?_
      refine Evl.q_when (b := false) (Evl.et_is (Evl.et_test (Evl.ev_op (Evl.ev_var rfl) Evl.ev_c (fun H1 _ Q q => ⟨rfl, q H1 (Ex.refl _)⟩))) (decide_eq_false (fun h => nomatch h))) (fun h => nomatch h) (fun _ H4 e4 => ?_)
      have e24 := e3.trans e4
      refine Evl.q_asg (v := u) (ev_fn (Evl.ea_cons (Evl.ev_var rfl) (Evl.ea_cons (ix1 e24) Evl.ea_nil)) fun H5 e5 Q' q' => ⟨v, u, tw, ws, rfl, (e2.trans (e24.trans e5)) _ _ htw, rp.ex (e24.trans e5), q'⟩) fun H5 e5 => ?_
      have e25 := e24.trans e5
      cases mu with
      | zero => exact hu.elim
      | succ mu =>
      obtain ⟨c, xs, rfl, _, hc, _, px⟩ := _root_.id (rep_ex e25 hu)
      have lx := pair_len px
      have ht5 := (e2.trans e25) _ _ ht
      refine Evl.q_when (b := !true) (Evl.et_not (Evl.et_B (ev_fn (z := .bl true) (Evl.ea_cons (Evl.ev_var rfl) (Evl.ea_cons (ev_lenL (Evl.ev_var rfl) (.inl (Evl.sq_of hc))) Evl.ea_nil)) fun H6 e6 Q' q' => ⟨t, _, (xs.length : Int), rfl, e6 _ _ ht5, fits_deed (by rw [← lx]; exact ho) pr, q'⟩))) (fun h => nomatch h) (fun _ H6 e6 => ?_)
      have e05 := e02.trans e25
      have e06 := e05.trans e6
      have e16 := (e2.trans e25).trans e6
      have ht6 := e6 _ _ ht5
      have hc6 := e6 _ _ hc
      refine Evl.q_when (b := o.new && !decide (rowsN 3 (.dic L) + 1 + rowsN 3 x ≤ 300)) (Evl.et_and (Evl.et_is (Evl.et_test (Evl.ev_opU (Evl.ev_op (Evl.ev_var rfl) Evl.ev_c (Evl.rv_ixT (Evl.st_of ht6) (atI_nat (j := 0) rfl))) (Evl.eu_tup (Evl.ea_cons Evl.ev_c (Evl.ea_cons Evl.ev_c Evl.ea_nil)) (by show 2 ≤ 100000; decide)) fun q H7 hq e7 => Evl.rv_isT (Evl.st_of hq) rfl rfl)) (opNm_new o)) fun hn => ?_) (fun hb H7 e7 => ?_) (fun hb H7 e7 => ?_)
      · obtain ⟨hr1, okr, wfx, pids, ndi, nid⟩ := hnew hn
        obtain ⟨y, hy, hlast⟩ := opLast (wv := .ref tw) hn pr
        refine Evl.et_not (Evl.et_B (ev_fn (Evl.ea_cons (Evl.ev_var rfl) (Evl.ea_cons (Evl.ev_var rfl) (Evl.ea_cons (Evl.ev_var rfl) (Evl.ea_cons (Evl.ev_var rfl) (Evl.ea_cons (Evl.ev_op (Evl.ev_var rfl) (Evl.ev_is (v := .int (-1)) (Evl.ev_un Evl.ev_c Evl.ru_neg) rfl) (Evl.rv_ixT (Evl.st_of ht6) hlast)) Evl.ea_nil))))) fun H7 e7 Q' q' => ⟨p, c, v, y, 10, 10, S, S2, S', .dic L, x, fl, z, r, id, ids, xs, rfl, hS.ex (e06.trans e7), hz, hr1, rep_ex (e06.trans e7) hv, wf, rep_ex (e16.trans e7) hy, okr, wfx, e7 _ _ hc6, by rw [← lx]; exact l400, ndi, ?_, nid, q'⟩))
        refine pair_of (by rw [pair_len pids, lx]) fun i q xv hq hxv => ?_
        obtain ⟨row, hrow, R', rfl, hid⟩ := pair_at pids hq
        obtain ⟨row', hrow', rr⟩ := pair_back px hxv
        rw [hrow] at hrow'; cases hrow'
        cases mu with
        | zero => exact rr.elim
        | succ mu =>
        obtain ⟨u0, _, kd0, ru⟩ := rep_kid rr hid
        rw [int_of ru] at kd0
        exact kd0.ex (e6.trans e7)
      · exact Evl.s_ret Evl.ev_c fun H8 e8 => by have := k H8 ((e06.trans e7).trans e8); rw [if_pos hb] at this; exact this
      · refine Evl.q_when (b := false) (tst (a := opNm o) (b := "field") false e7 ht6 rfl rfl (opNm_field o)) (fun h => nomatch h) (fun _ H8 e8 => ?_)
        exact Evl.s_ret Evl.ev_c fun H9 e9 => by have := k H9 (((e06.trans e7).trans e8).trans e9); rw [if_neg (by rw [hb]; decide)] at this; exact this
end
end Pk

namespace Pk
open PySem PySem.Spec PyProof.Rows L2 Ssb
open Evl (Ex Ev EvT EvL EvA EvU)
section
variable {P : Program} {w : World} {K : PySem.W.Frag} {mg : Str → Option Value} {base : Heap} {C_Shape C_LimitExceeded C_InvalidDeed C_StayError C_FORMS : Addr}
def spAp (C CL CI : Addr) : Sp := fun vs H Q E => ∃ (p t : Addr) (v : V) (S S2 S' : Addr → Prop) (d dd d' : D) (fl : List Str) (s : Sh) (ans : V), vs = [.ref p, v, .ref t] ∧ ShapeAt C H p fl s S' ∧ fl.length ≤ 2 ∧ fl.Nodup ∧ okSh s ∧ Rep H 10 S d v ∧ pl 10 d ∧ okD fl s d ∧ Rep H 11 S2 dd (.ref t) ∧
  (rowsN 3 d ≤ 300 → Reas s fl d dd ans ∧ (ans = .non → Does d dd d')) ∧
  (¬ rowsN 3 d ≤ 300 → ∀ H' dx, Ex H H' → H dx = none → H' dx = some (.xd [("limit", .int 300)]) → E (.ref CL) (some dx) H') ∧
  (rowsN 3 d ≤ 300 → ans ≠ .non → ∀ H' dx, Ex H H' → H dx = none → H' dx = some (.xd [("reason", ans)]) → E (.ref CI) (some dx) H') ∧
  (rowsN 3 d ≤ 300 → ans = .non → ∀ H' v', Ex H H' → RepT H' 10 (fun b => H b = none) d' v' → Q v' H')
theorem ok_apply (T : Txt K mg C_Shape C_LimitExceeded C_InvalidDeed C_StayError C_FORMS) (R : Prg K mg C_Shape C_LimitExceeded C_InvalidDeed C_StayError C_FORMS) : ∃ f fd, FnX P w K mg base "apply" 14 ["shape", "data", "deed"] (spAp C_Shape C_LimitExceeded C_InvalidDeed) f fd := by
  obtain ⟨_, _, G_check⟩ := ok_check (P := P) (w := w) (base := base) T R
  obtain ⟨_, _, G_wrong_reason⟩ := ok_wrong_reason (P := P) (w := w) (base := base) T R
  obtain ⟨_, _, G_after_deed⟩ := ok_after_deed (P := P) (w := w) (base := base) T R
  obtain ⟨_, _, G_InvalidDeed, tI⟩ := ok_InvalidDeed_init (P := P) (w := w) (base := base) T R
  obtain ⟨f, fd, at_, F, kp⟩ := R.apply
  refine ⟨f, fd, F.okX sc_apply (fun vs H Q E h => ?_) (fun cdv A outer s H vs Q E hr h => ?_), at_, kp, F.binds (fun _ _ _ _ _ _ us hl => match us, hl with | [_, _, _], _ => rfl)⟩
  · obtain ⟨p, t, v, S, S2, S', d, dd, d', fl, s, ans, rfl, _⟩ := h; rfl
  · obtain ⟨p, t, v, S, S2, S', d, dd, d', fl, z, ans, rfl, hS, fl2, fln, hz, hv, hpl, okd, hdd, rea, kL, kI, kQ⟩ := h
    refine ⟨_, (pss_cons (ps_expr (pclX G_check (takes_of rfl rfl rfl rfl) hr (pa_cons (pv 0) (pa_cons (pv 1) pa_nil))))
  (pss_cons (ps_set (i := 3) sc_apply.nd rfl (Or.inl rfl) (pcl G_wrong_reason hr (pa_cons (pv 0) (pa_cons (pv 1) (pa_cons (pv 2) pa_nil)))))
  (pss_cons (ps_if (pt_cmpR op_notN (pv 3) pe_non (nomark _)) (pss_one (ps_raise rfl (takes_of rfl rfl rfl rfl) (pmk_oexE T.ox_InvalidDeed G_InvalidDeed tI hr T.at_InvalidDeed (pa_cons (pv 3) pa_nil)))) pss_nil)
  (pss_one (ps_ret (pcl G_after_deed hr (pa_cons (pv 1) (pa_cons (pv 2) pa_nil)))))))), ?_⟩
    refine ⟨_, rfl, _, rfl, p, v, 10, S, d, fl, z, S', rfl, hS, fl2, fln, hz, hv, okd, fun hle H1 e1 => ?_, fun hgt H1 dx e1 nd hd => kL hgt H1 dx e1 nd hd⟩
    obtain ⟨rea, does⟩ := rea hle
    obtain ⟨_, _, _, _, _, _, _, _, _, _, wf⟩ := okd
    refine ⟨_, rfl, _, rfl, _, rfl, p, t, v, S, S2, S', d, dd, fl, z, ans, rfl, hS.ex e1, hz, rep_ex e1 hv, wf, rep_ex e1 hdd, rea, fun H2 e2 => ?_⟩
    refine gname_go ?_
    dsimp only
    have e02 := e1.trans e2
    have tst : EvT (tTest (tOp (fun x y H Q => y = V.non ∧ Q (V.bl (!decide (x = V.non))) H) (tVar 3) (tC V.non))) [some (.ref p), some v, some (.ref t), some ans] H2 (!decide (ans = .non)) := Evl.et_test (Evl.ev_op (Evl.ev_var rfl) Evl.ev_c (fun H1 _ Q q => ⟨rfl, q H1 (Ex.refl _)⟩))
    refine Evl.q_when (b := !decide (ans = .non)) tst (fun hb H3 e3 => ?_) (fun hb H3 e3 => ?_)
    · have hb : ans ≠ .non := fun e => by rw [e] at hb; exact absurd hb (by decide)
      exact s_raiseV (Evl.ev_var rfl) fun H4 dx e4 nd hd => kI hle hb H4 dx ((e02.trans e3).trans e4) (Evl.fresh_back (e02.trans e3) nd) hd
    · have hb : ans = .non := by
        by_cases e : ans = .non
        · exact e
        · rw [decide_eq_false e] at hb; exact absurd hb (by decide)
      have e03 := e02.trans e3
      exact ⟨_, rfl, _, rfl, v, t, d, dd, d', S, S2, rfl, rep_ex e03 hv, hpl, rep_ex e03 hdd, does hb, fun H4 v4 e4 h4 => kQ hle hb H4 v4 (e03.trans e4) (rt_S (fun b hb => Evl.fresh_back e03 hb) h4)⟩
end
end Pk

namespace Pk
open PySem PySem.Spec PyProof.Rows L2 Ssb
open Evl (Ex Ev EvT EvL EvA EvU)
/-! ### expressions that make data -/
def EvD (te : TE) (σ : L2.St) (H : Hp) (n : Nat) (P : Addr → Prop) (d : D) : Prop := ∀ H1, Ex H H1 → ∀ Q : VK, (∀ v H2, Ex H1 H2 → Rep H2 n (fun b => P b ∨ H1 b = none) d v → Q v H2) → te σ H1 Q
theorem merge_nd : ∀ {es acc : List (Key × V)}, ((acc ++ es).map (·.1)).Nodup → mergeK acc es = acc ++ es
  | [], acc, _ => by show acc = acc ++ []; rw [List.append_nil]
  | e :: es, acc, nd => by
    have h1 : valV acc e.1 = none := vV_no fun hm => by
      rw [List.map_append, List.nodup_append] at nd
      exact nd.2.2 e.1 hm e.1 List.mem_cons_self rfl
    show mergeK (putK acc e.1 e.2) es = _
    rw [putK_new _ h1, merge_nd (by rw [List.append_assoc]; exact nd), List.append_assoc]
    rfl
section
variable {K : PySem.W.Frag} {σ : L2.St} {H : Hp} {te : TE} {n : Nat} {P : Addr → Prop}
theorem EvD.int {i : Int} (h : Ev te σ H (.int i)) : EvD te σ H (n + 1) P (.int i) := fun H1 e Q q => h H1 e Q fun H2 e2 => q _ H2 e2 rfl
theorem EvD.bl {i : Bool} (h : Ev te σ H (.bl i)) : EvD te σ H (n + 1) P (.bl i) := fun H1 e Q q => h H1 e Q fun H2 e2 => q _ H2 e2 rfl
theorem EvD.str {i : Str} (h : Ev te σ H (.str i)) : EvD te σ H (n + 1) P (.str i) := fun H1 e Q q => h H1 e Q fun H2 e2 => q _ H2 e2 rfl
theorem EvD.new : EvD tDNewK σ H (n + 1) P (.dic []) := fun H1 e Q q p hp => q _ _ (Ex.new hp) ⟨p, [], rfl, .inr hp, upd_same, Nat.zero_le _, .nil⟩
theorem EvD.var {i : Nat} {d : D} {v : V} (hs : σ[i]? = some (some v)) (r : Rep H n P d v) : EvD (tVar i) σ H n P d := fun H1 e Q q => ⟨v, hs, q v H1 (Ex.refl _) (rep_ex e (rep_S (fun b hb => .inl hb) r))⟩
def pairsT (ts : List (Str × TE × D)) : List (TE × TE) := ts.map fun t => (tC (.str t.1), t.2.1)
theorem pairs_go : ∀ {ts : List (Str × TE × D)}, (∀ t ∈ ts, EvD t.2.1 σ H n P t.2.2) → ∀ {H2 : Hp}, Ex H H2 → ∀ {K' : List (V × V) → Hp → Prop}, (∀ H3 (es : List (Key × V)), Ex H2 H3 → Paired (fun (q : Str × D) (e : Key × V) => e.1 = Sum.inr q.1 ∧ Rep H3 n (fun b => P b ∨ H2 b = none) q.2 e.2) (ts.map fun t => (t.1, t.2.2)) es → K' (es.map fun kv => (kV kv.1, kv.2)) H3) → tPairs (pairsT ts) σ H2 K'
  | [], _, H2, e, K', k => k H2 [] (Ex.refl _) .nil
  | (s, te, d) :: ts, h, H2, e, K', k => h _ List.mem_cons_self H2 e _ fun v H3 e3 r => pairs_go (fun t ht => h t (List.mem_cons_of_mem _ ht)) (e.trans e3) fun H4 es e4 pr => k H4 ((Sum.inr s, v) :: es) (e3.trans e4) (.cons ⟨rfl, rep_ex e4 r⟩ (pair_imp pr fun a b h => ⟨h.1, rep_S (fun b hb => hb.imp_right (Evl.fresh_back e3)) h.2⟩))
theorem EvD.disp {ts : List (Str × TE × D)} (hP : ∀ b, P b → H b ≠ none) (h : ∀ t ∈ ts, EvD t.2.1 σ H n P t.2.2) (nd : (ts.map (·.1)).Nodup) (l : ts.length ≤ 15) : EvD (tDisp (pairsT ts)) σ H (n + 1) P (.dic (ts.map fun t => (t.1, t.2.2))) := fun H1 e1 Q q p hp => by
  have e2 : Ex H1 (upd H1 p (.dK [])) := Ex.new hp
  refine pairs_go h (e1.trans e2) fun H3 es e3 pr => ?_
  have le := pair_len pr
  rw [List.length_map] at le
  have kk : es.map (·.1) = (ts.map (·.1)).map Sum.inr := by rw [pair_keys pr]; simp only [List.map_map]; rfl
  refine ⟨e3 _ _ upd_same, es, rfl, by omega, ?_⟩
  rw [merge_nd (acc := []) (by rw [List.nil_append, kk]; exact inr_nd nd), List.nil_append]
  have nP : ∀ b, upd H1 p (.dK []) b = none → b ≠ p := fun b hb z => by rw [z, upd_same] at hb; cases hb
  refine q _ _ (Ex.mut (e2.trans e3) hp) ⟨p, es, rfl, .inr hp, upd_same, by rw [List.length_map]; omega, pair_imp pr fun a b h => ⟨h.1, rep_upd (e3 _ _ upd_same) (fun _ z => nomatch z) (fun b z => z.2) (rep_S (fun b hb => hb.elim (fun z => ⟨.inl z, fun e => hP b z (by rw [e]; exact Evl.fresh_back e1 hp)⟩) fun z => ⟨.inr (Evl.fresh_back e2 z), nP b z⟩) h.2)⟩⟩
theorem lcD_core {vs : List Nat} {j k : Nat} {f : Nat → D} {H1 : Hp} (hP : ∀ b, P b → H1 b ≠ none) (hk : k ≤ 100000) (hw : ∀ x, wipe ((wipe σ vs).set j (some x)) vs = wipe σ vs) (he : ∀ i, i < k → EvD te ((wipe σ vs).set j (some (.int (i : Int)))) H1 n P (f i)) {Qd : Hp → Prop} {Dl : Addr} (hD : H1 Dl = none)
    (q : ∀ H2, Ex H1 H2 → Rep H2 (n + 1) (fun b => P b ∨ H1 b = none) (.lst ((List.range k).map f)) (.ref Dl) → Qd H2) :
    ∃ W : Nat → Nat → Hp → Prop, (∃ m, W 0 m (upd H1 Dl (.lst []))) ∧ ∀ i m H, W i m H → ((Itr 0 k).stop i H ∧ Qd H) ∨ ((Itr 0 k).go i H ∧ ∃ Nx : Hp → Prop, (∀ H', Nx H' → ∃ m', m' < m ∧ W (i + 1) m' H') ∧ ∀ x H', (Itr 0 k).yld i H x H' → gName j x (wipe σ vs) H' fun σ2 H2 =>
      wipe σ2 vs = wipe σ vs ∧ tYes σ2 H2 fun b H3 => if b = true then te σ2 H3 fun y H4 => ∃ acc, H4 Dl = some (.lst acc) ∧ acc.length < sizeLine ∧ Nx (upd H4 Dl (.lst (acc ++ [y]))) else Nx H3) := by
  refine lc_it walk_range (fun i H' => Ex H1 H' ∧ ∃ ys, H' Dl = some (.lst ys) ∧ Paired (fun d y => Rep H' n (fun b => (P b ∨ H1 b = none) ∧ b ≠ Dl) d y) ((List.range i).map f) ys) ⟨Ex.new hD, [], upd_same, .nil⟩ (fun _ _ _ _ => trivial) (fun i x H0 H' hlt pv y => ?_) fun H' pv => ?_
  · obtain ⟨e, ys, hys, pys⟩ := pv
    obtain ⟨rfl, hx⟩ := y
    have hx : x = V.int (0 + (i : Int)) := hx
    rw [Int.zero_add] at hx
    subst hx
    refine ⟨hw _, yes_go ?_⟩
    refine he i hlt H' e _ fun v3 H3 e3 hr3 => ⟨ys, e3 _ _ hys, ?_, Ex.mut (e.trans e3) hD, ys ++ [v3], upd_same, ?_⟩
    · rw [← pair_len pys, List.length_map, List.length_range]; exact Evl.sz_lt (by omega)
    · rw [List.range_succ, List.map_append]
      exact pair_snoc (pair_imp pys fun a b h => rep_upd (e3 _ _ hys) (fun _ z => nomatch z) (fun b z => z.2) (rep_ex e3 h)) (rep_upd (e3 _ _ hys) (fun _ z => nomatch z) (fun b z => z.2) (rep_S (fun b hb => ⟨hb.imp_right (Evl.fresh_back e), fun z => hb.elim (fun y => hP b y (by rw [z]; exact hD)) fun y => by rw [z, hys] at y; cases y⟩) hr3))
  · obtain ⟨e, ys, hys, pys⟩ := pv
    exact q H' e ⟨Dl, ys, rfl, .inr hD, hys, by rw [List.length_map, List.length_range]; exact hk, pair_imp pys fun a b h => rep_S (fun b hb => hb.1) h⟩
theorem EvD.lcR {ta : TA} {vs : List Nat} {j : Nat} {m : Int} (f : Nat → D) (hP : ∀ b, P b → H b ≠ none) (hn : EvA ta σ H [.int m]) (hm : 0 ≤ m ∧ m ≤ 100000) (hw : ∀ x, wipe ((wipe σ vs).set j (some x)) vs = wipe σ vs) (he : ∀ i, i < m.toNat → EvD te ((wipe σ vs).set j (some (.int (i : Int)))) H n P (f i)) :
    EvD (tLc (iRng1 ta) (gName j) tYes te vs) σ H (n + 1) P (.lst ((List.range m.toNat).map f)) := fun H1 e1 Q q => hn H1 e1 _ fun H2 e2 => ⟨m, rfl, by omega, by omega, fun Dl hD => lcD_core (P := P) (fun b hb z => hP b hb (Evl.fresh_back (e1.trans e2) z)) (by omega) hw (fun i hi H3 e3 => he i hi H3 ((e1.trans e2).trans e3)) hD fun H3 e3 r => q _ H3 (e2.trans e3) (rep_S (fun b hb => hb.imp_right (Evl.fresh_back e2)) r)⟩
end
/-! ### the data of the law -/
def rowD (id : Int) (fs ls : List (Str × D)) : D := .dic [("id", .int id), ("fields", .dic fs), ("lists", .dic ls)]
def leafD (i : Int) : D := rowD i [] []
def lsO (ne : Bool) (bs : List Int) : List (Str × D) := if ne then [("below", .lst (bs.map leafD))] else []
def rowO (ne : Bool) (r : Int × List Int) : D := rowD r.1 [] (lsO ne r.2)
def dataD (ne b : Bool) (rs : List (Int × List Int)) : D := .dic [("flags", .dic [("on", .bl b)]), ("lists", .dic [("rows", .lst (rs.map (rowO ne)))])]
def shO (ne : Bool) : Sh := [("rows", [], if ne then [("below", [])] else [])]
structure Big (ne : Bool) (tot : Nat) (rs : List (Int × List Int)) : Prop where
  nd : (rs.map (·.1)).Nodup
  r : ∀ r ∈ rs, 0 ≤ r.1 ∧ r.1 < 1000000 ∧ r.2.Nodup ∧ (∀ i ∈ r.2, 0 ≤ i ∧ i < 1000000) ∧ r.2.length ≤ 302 ∧ (ne = false → r.2 = [])
  pos : 0 < rs.length
  few : rs.length ≤ 302
  sum : (rs.map fun r => 1 + r.2.length).sum = tot
section
variable {σ : L2.St} {H : Hp} {te : TE} {n : Nat} {P : Addr → Prop}
theorem EvD.leaf {i : Int} (hP : ∀ b, P b → H b ≠ none) (h : Ev te σ H (.int i)) : EvD (tDisp [(tC (.str "id"), te), (tC (.str "fields"), tDNewK), (tC (.str "lists"), tDNewK)]) σ H (n + 2) P (leafD i) :=
  EvD.disp (ts := [("id", te, .int i), ("fields", tDNewK, .dic []), ("lists", tDNewK, .dic [])]) hP (fun t ht => by
    rcases List.mem_cons.mp ht with rfl | ht
    · exact .int h
    · rcases List.mem_cons.mp ht with rfl | ht
      · exact .new
      · rw [List.mem_singleton.mp ht]; exact .new) (by show (["id", "fields", "lists"] : List Str).Nodup; decide +kernel) (by show 3 ≤ 15; decide)
theorem EvD.row1 {i : Int} {tb : TE} {d : D} (hP : ∀ b, P b → H b ≠ none) (h : Ev te σ H (.int i)) (hb : EvD tb σ H n P d) (hn : 1 ≤ n) : EvD (tDisp [(tC (.str "id"), te), (tC (.str "fields"), tDNewK), (tC (.str "lists"), tDisp [(tC (.str "below"), tb)])]) σ H (n + 2) P (rowD i [] [("below", d)]) := by
  obtain ⟨n, rfl⟩ : ∃ m, n = m + 1 := ⟨n - 1, by omega⟩
  refine EvD.disp (ts := [("id", te, .int i), ("fields", tDNewK, .dic []), ("lists", tDisp [(tC (.str "below"), tb)], .dic [("below", d)])]) hP (fun t ht => ?_) (by show (["id", "fields", "lists"] : List Str).Nodup; decide +kernel) (by show 3 ≤ 15; decide)
  rcases List.mem_cons.mp ht with rfl | ht
  · exact .int h
  · rcases List.mem_cons.mp ht with rfl | ht
    · exact .new
    · rw [List.mem_singleton.mp ht]
      exact EvD.disp (ts := [("below", tb, d)]) hP (fun t ht => by rw [List.mem_singleton.mp ht]; exact hb) (by show (["below"] : List Str).Nodup; decide +kernel) (by show 1 ≤ 15; decide)
end
end Pk

namespace Pk
open PySem PySem.Spec PyProof.Rows L2 Ssb
open Evl (Ex Ev EvT EvL EvA EvU)
/-- only what stands counts -/
theorem rep_dom {H : Hp} : ∀ {n : Nat} {S : Addr → Prop} {d : D} {v : V}, Rep H n S d v → Rep H n (fun b => S b ∧ H b ≠ none) d v
  | 0, _, _, _, h => h.elim
  | n + 1, S, d, v, h => by
    cases d with
    | non => exact h
    | bl b => exact h
    | int i => exact h
    | str s => exact h
    | lst l =>
      obtain ⟨a, xs, e, s, ha, hl, p⟩ := h
      exact ⟨a, xs, e, ⟨s, by rw [ha]; exact fun z => nomatch z⟩, ha, hl, pair_imp p fun d x r => rep_dom r⟩
    | tup l =>
      obtain ⟨a, xs, e, ha, hl, p⟩ := h
      exact ⟨a, xs, e, ha, hl, pair_imp p fun d x r => rep_dom r⟩
    | dic l =>
      obtain ⟨a, es, e, s, ha, hl, p⟩ := h
      exact ⟨a, es, e, ⟨s, by rw [ha]; exact fun z => nomatch z⟩, ha, hl, pair_imp p fun q x r => ⟨r.1, rep_S (fun b z => ⟨⟨z.1.1, z.2⟩, z.1.2⟩) (rep_dom r.2)⟩⟩
/-! ### what is told -/
def outD (big : Bool) (ans : V) (d' : D) : D := if big then .tup [.str "limit", .int 300] else if ans = .non then .tup [.str "told", d'] else .tup [.str "refused", .str "row"]
section
variable {P : Program} {w : World} {K : PySem.W.Frag} {mg : Str → Option Value} {base : Heap} {C_Shape C_LimitExceeded C_InvalidDeed C_StayError C_FORMS : Addr}
def spTold (C : Addr) : Sp := fun vs H Q _ => ∃ (p t : Addr) (v : V) (S S2 S' : Addr → Prop) (d dd d' : D) (fl : List Str) (s : Sh) (ans : V), vs = [.ref p, v, .ref t] ∧ ShapeAt C H p fl s S' ∧ fl.length ≤ 2 ∧ fl.Nodup ∧ okSh s ∧ Rep H 10 S d v ∧ pl 10 d ∧ okD fl s d ∧ Rep H 11 S2 dd (.ref t) ∧
  (rowsN 3 d ≤ 300 → Reas s fl d dd ans ∧ (ans = .non → Does d dd d')) ∧ (ans = .non ∨ ans = .str "row") ∧ ∀ H' v', Ex H H' → Rep H' 11 (fun b => H b = none) (outD (!decide (rowsN 3 d ≤ 300)) ans d') v' → Q v' H'
theorem ok__law_told (T : Txt K mg C_Shape C_LimitExceeded C_InvalidDeed C_StayError C_FORMS) (R : Prg K mg C_Shape C_LimitExceeded C_InvalidDeed C_StayError C_FORMS) : ∃ f fd, Fn P w K mg base "_law_told" 15 ["_law_shape", "_law_data", "_law_deed"] (spTold C_Shape) f fd := by
  obtain ⟨_, _, G_apply⟩ := ok_apply (P := P) (w := w) (base := base) T R
  obtain ⟨f, fd, at_, F, kp⟩ := R._law_told
  refine ⟨f, fd, F.ok sc__law_told (fun vs H Q E h => ?_) (fun cdv A outer s H vs Q E hr h => ?_), at_, kp, F.binds (fun _ _ _ _ _ _ us hl => match us, hl with | [_, _, _], _ => rfl)⟩
  · obtain ⟨p, t, v, S, S2, S', d, dd, d', fl, s, ans, rfl, _⟩ := h; rfl
  · obtain ⟨p, t, v, S, S2, S', d, dd, d', fl, z, ans, rfl, hS, fl2, fln, hz, hv, hpl, okd, hdd, rea, ha, k⟩ := h
    refine ⟨_, (pss_one (ps_try_as3 (i := 3) rfl rfl sc__law_told.nd rfl rfl ⟨by rfl, by decide, .inl T.at_LimitExceeded⟩ ⟨by rfl, by decide, .inl T.at_InvalidDeed⟩ (fun W pn xe tk po => pss_one (ps_ret (pe_tup (pa_cons pe_str (pa_cons (pclX G_apply tk hr (pa_cons (pv 0) (pa_cons (pv 1) (pa_cons (pv 2) pa_nil)))) pa_nil))))) (fun a oe cls d pn hz hf => pss_one (ps_ret (pe_tup (pa_cons pe_str (pa_cons (pe_xf T.xk_LimitExceeded.xf T.no_LimitExceeded_limit hz hf (pv 3)) pa_nil))))) (fun a oe cls d pn hz hf => pss_one (ps_ret (pe_tup (pa_cons pe_str (pa_cons (pe_xf T.xk_InvalidDeed.xf T.no_InvalidDeed_reason hz hf (pv 3)) pa_nil))))))), ?_⟩
    refine ⟨_, rfl, _, rfl, _, rfl, p, t, v, S, S2, S', d, dd, d', fl, z, ans, rfl, hS, fl2, fln, hz, hv, hpl, okd, hdd, rea, fun hgt H' dx e nd hdx => ⟨true, T.own_LimitExceeded, fun _ ea hea => ?_, fun h => nomatch h⟩, fun hle hn H' dx e nd hdx => ⟨false, T.ex_InvalidDeed_LimitExceeded, (fun h => nomatch h), fun _ => ⟨T.own_InvalidDeed, fun ea hea => ?_⟩⟩, fun hle hn H' v' e r => ⟨by show 2 ≤ sizeLine; decide, fun u nu => ?_⟩⟩
    · refine ⟨_, rfl, rfl, rfl, dx, _, _, rfl, hdx, rfl, by show 2 ≤ sizeLine; decide, fun u nu => ?_⟩
      have e2 := Ex.new (o := .tup [.str "limit", .int 300]) nu
      refine k _ _ (e.trans e2) ?_
      rw [decide_eq_false hgt]
      exact ⟨u, _, rfl, upd_same, by show 2 ≤ 100000; decide, .cons rfl (.cons rfl .nil)⟩
    · refine ⟨_, rfl, rfl, rfl, dx, _, _, rfl, hdx, rfl, by show 2 ≤ sizeLine; decide, fun u nu => ?_⟩
      have ha : ans = .str "row" := ha.resolve_left hn
      subst ha
      have e2 := Ex.new (o := .tup [.str "refused", .str "row"]) nu
      refine k _ _ (e.trans e2) ?_
      rw [decide_eq_true hle]
      exact ⟨u, _, rfl, upd_same, by show 2 ≤ 100000; decide, .cons rfl (.cons rfl .nil)⟩
    · subst hn
      have e2 := Ex.new (o := .tup [.str "told", v']) nu
      refine k _ _ (e.trans e2) ?_
      rw [decide_eq_true hle]
      exact ⟨u, _, rfl, upd_same, by show 2 ≤ 100000; decide, .cons rfl (.cons (rep_ex e2 (rt_rep r)) .nil)⟩
/-! ### the shape of the law -/
def inD (ne : Bool) : List (Str × D) := if ne then [("below", .dic [("fields", .dic []), ("inner", .dic [])])] else []
def shapeD (ne : Bool) : D := .dic [("rows", .dic [("fields", .dic []), ("inner", .dic (inD ne))])]
def spBS : Sp := fun vs H Q _ => ∃ ne : Bool, vs = [.bl ne] ∧ ∀ H' q fa sv, Ex H H' → H' q = some (.lst [.ref fa, sv]) → H' fa = some (.lst [.str "on"]) → Rep H' 6 (fun b => H b = none) (shapeD ne) sv → Q (.ref q) H'
theorem s_shape {D_ : Ends} {H H3 : Hp} {ne : Bool} {iv : V} (e : Ex H H3) (r : Rep H3 4 (fun b => H b = none) (.dic (inD ne)) iv) (k : ∀ H' q fa sv, Ex H H' → H' q = some (.lst [.ref fa, sv]) → H' fa = some (.lst [.str "on"]) → Rep H' 6 (fun b => H b = none) (shapeD ne) sv → D_.rt (.ref q) H') :
    tRet (tLst (tCons (tLst (tCons (tC (.str "on")) tNil)) (tCons (tDisp [(tC (.str "rows"), tDisp [(tC (.str "fields"), tDNewK), (tC (.str "inner"), tVar 1)])]) tNil))) D_ [some (.bl ne), some iv] H3 := by
  refine ⟨by show 1 ≤ sizeLine; decide, fun fa hfa => ?_⟩
  have e4 := Ex.new (o := .lst [.str "on"]) hfa
  have ev : EvD (tDisp [(tC (.str "rows"), tDisp [(tC (.str "fields"), tDNewK), (tC (.str "inner"), tVar 1)])]) [some (.bl ne), some iv] H3 6 (fun b => H b = none ∧ H3 b ≠ none) (shapeD ne) := by
    refine EvD.disp (ts := [("rows", tDisp [(tC (.str "fields"), tDNewK), (tC (.str "inner"), tVar 1)], .dic [("fields", .dic []), ("inner", .dic (inD ne))])]) (fun b hb => hb.2) (fun t ht => ?_) (by show (["rows"] : List Str).Nodup; decide +kernel) (by show 1 ≤ 15; decide)
    rw [List.mem_singleton.mp ht]
    refine EvD.disp (ts := [("fields", tDNewK, .dic []), ("inner", tVar 1, .dic (inD ne))]) (fun b hb => hb.2) (fun t ht => ?_) (by show (["fields", "inner"] : List Str).Nodup; decide +kernel) (by show 2 ≤ 15; decide)
    rcases List.mem_cons.mp ht with rfl | ht
    · exact .new
    · rw [List.mem_singleton.mp ht]
      exact .var rfl (rep_dom r)
  refine ev _ e4 _ fun sv H5 e5 r5 => ⟨by show 2 ≤ sizeLine; decide, fun q hq => ?_⟩
  have e6 := Ex.new (o := .lst [.ref fa, sv]) hq
  exact k _ q fa sv (((e.trans e4).trans e5).trans e6) upd_same (e6 _ _ (e5 _ _ upd_same)) (rep_ex e6 (rep_S (fun b hb => hb.elim (fun z => z.1) fun z => Evl.fresh_back (e.trans e4) z) r5))
theorem ok__law_big_shape (T : Txt K mg C_Shape C_LimitExceeded C_InvalidDeed C_StayError C_FORMS) (R : Prg K mg C_Shape C_LimitExceeded C_InvalidDeed C_StayError C_FORMS) : ∃ f fd, Fn P w K mg base "_law_big_shape" 1 ["_law_nested"] spBS f fd := by
  obtain ⟨f, fd, at_, F, kp⟩ := R._law_big_shape
  refine ⟨f, fd, F.ok sc__law_big_shape (fun vs H Q E h => ?_) (fun cdv A outer s H vs Q E hr h => ?_), at_, kp, F.binds (fun _ _ _ _ _ _ us hl => match us, hl with | [_], _ => rfl)⟩
  · obtain ⟨ne, rfl, _⟩ := h; rfl
  · obtain ⟨ne, rfl, k⟩ := h
    refine ⟨_, (pss_cons (ps_set (i := 1) sc__law_big_shape.nd rfl (Or.inl rfl) pe_dnewK)
  (pss_cons (ps_if (pt_val (pv 0)) (pss_one (ps_set (i := 1) sc__law_big_shape.nd rfl (Or.inl rfl) (pe_disp (pps_cons pe_str (pe_disp (pps_cons pe_str pe_dnewK (pps_cons pe_str pe_dnewK pps_nil)) (by rfl) (by rfl) (fun z => by cases z) (by decide)) pps_nil) (by rfl) (by rfl) (fun z => by cases z) (by decide)))) pss_nil)
  (pss_one (ps_ret (pe_lst (pa_cons (pe_lst (pa_cons pe_str pa_nil)) (pa_cons (pe_disp (pps_cons pe_str (pe_disp (pps_cons pe_str pe_dnewK (pps_cons pe_str (pv 1) pps_nil)) (by rfl) (by rfl) (fun z => by cases z) (by decide)) pps_nil) (by rfl) (by rfl) (fun z => by cases z) (by decide)) pa_nil))))))), ?_⟩
    intro p0 hp0
    have e1 : Ex H (upd H p0 (.dK [])) := Ex.new hp0
    refine gname_go ?_
    refine Evl.q_when (b := ne) (Evl.et_B (Evl.ev_var rfl)) (fun hb H2 e2 => ?_) (fun hb H2 e2 => ?_)
    · subst hb
      have ev : EvD (tDisp [(tC (.str "below"), tDisp [(tC (.str "fields"), tDNewK), (tC (.str "inner"), tDNewK)])]) [some (.bl true), some (.ref p0)] H2 4 (fun _ => False) (.dic (inD true)) := by
        refine EvD.disp (ts := [("below", tDisp [(tC (.str "fields"), tDNewK), (tC (.str "inner"), tDNewK)], .dic [("fields", .dic []), ("inner", .dic [])])]) (fun b hb => hb.elim) (fun t ht => ?_) (by show (["below"] : List Str).Nodup; decide +kernel) (by show 1 ≤ 15; decide)
        rw [List.mem_singleton.mp ht]
        refine EvD.disp (ts := [("fields", tDNewK, .dic []), ("inner", tDNewK, .dic [])]) (fun b hb => hb.elim) (fun t ht => ?_) (by show (["fields", "inner"] : List Str).Nodup; decide +kernel) (by show 2 ≤ 15; decide)
        rcases List.mem_cons.mp ht with rfl | ht
        · exact .new
        · rw [List.mem_singleton.mp ht]; exact .new
      refine ev H2 (Ex.refl _) _ fun iv H3 e3 r3 => gname_go ?_
      exact s_shape ((e1.trans e2).trans e3) (rep_S (fun b hb => hb.elim False.elim fun z => Evl.fresh_back (e1.trans e2) z) r3) k
    · subst hb
      exact s_shape (e1.trans e2) ⟨p0, [], rfl, hp0, e2 _ _ upd_same, Nat.zero_le _, .nil⟩ k
end
end Pk

namespace Pk
open PySem PySem.Spec PyProof.Rows L2 Ssb
open Evl (Ex Ev EvT EvL EvA EvU)
/-! ### the rows of the law -/
theorem sum_one : ∀ (n : Nat), ((List.range n).map fun _ => 1 + 0).sum = n
  | 0 => rfl
  | n + 1 => by rw [List.range_succ, List.map_append, List.sum_append, sum_one n]; rfl
theorem sum_at {at_ m : Nat} : ∀ (n : Nat), ((List.range n).map fun k => 1 + if k = at_ then m else 0).sum = n + if at_ < n then m else 0
  | 0 => rfl
  | n + 1 => by
    rw [List.range_succ, List.map_append, List.sum_append, sum_at n]
    simp only [List.map_cons, List.map_nil, List.sum_cons, List.sum_nil]
    by_cases c : n = at_
    · rw [if_pos c, if_neg (by omega), if_pos (by omega)]; omega
    · rw [if_neg c]
      by_cases d : at_ < n
      · rw [if_pos d, if_pos (by omega)]; omega
      · rw [if_neg d, if_neg (by omega)]; omega
theorem nd_shift {n : Nat} {s : Int} : ((List.range n).map fun (k : Nat) => s + (k : Int)).Nodup := List.Pairwise.map _ (fun a b h z => h (by omega)) List.nodup_range
theorem big_flat {tot : Nat} {s : Int} (h0 : 0 < tot) (h1 : tot ≤ 302) (s0 : 0 ≤ s) (s1 : s < 999000) : Big false tot ((List.range tot).map fun (k : Nat) => (s + (k : Int), [])) := by
  refine ⟨by rw [List.map_map]; exact nd_shift, fun r hr => ?_, by simpa using h0, by simpa using h1, by rw [List.map_map]; exact sum_one tot⟩
  obtain ⟨k, hk, rfl⟩ := List.mem_map.mp hr
  have := List.mem_range.mp hk
  exact ⟨by show 0 ≤ s + (k : Int); omega, by show s + (k : Int) < 1000000; omega, List.nodup_nil, fun i hi => (nomatch hi), Nat.zero_le _, fun _ => rfl⟩
def bsK (s : Int) (m at_ : Nat) (k : Nat) : List Int := if k = at_ then (List.range m).map fun (j : Nat) => s + 7 + (j : Int) else []
theorem big_deep {tot many at_ : Nat} {s : Int} (h0 : 0 < many) (h1 : many ≤ tot) (h2 : tot ≤ 302) (ha : at_ < many) (s0 : 0 ≤ s) (s1 : s < 999000) : Big true tot ((List.range many).map fun (k : Nat) => (s + (k : Int), bsK s (tot - many) at_ k)) := by
  refine ⟨by rw [List.map_map]; exact nd_shift, fun r hr => ?_, by simpa using h0, by simp; omega, ?_⟩
  · obtain ⟨k, hk, rfl⟩ := List.mem_map.mp hr
    have := List.mem_range.mp hk
    refine ⟨by show 0 ≤ s + (k : Int); omega, by show s + (k : Int) < 1000000; omega, ?_, fun i hi => ?_, ?_, fun h => nomatch h⟩
    · show (bsK s (tot - many) at_ k).Nodup
      unfold bsK
      by_cases c : k = at_
      · rw [if_pos c]; exact nd_shift
      · rw [if_neg c]; exact List.nodup_nil
    · have hi : i ∈ bsK s (tot - many) at_ k := hi
      unfold bsK at hi
      by_cases c : k = at_
      · rw [if_pos c] at hi
        obtain ⟨j, hj, rfl⟩ := List.mem_map.mp hi
        have := List.mem_range.mp hj
        exact ⟨by omega, by omega⟩
      · rw [if_neg c] at hi; cases hi
    · show (bsK s (tot - many) at_ k).length ≤ 302
      unfold bsK
      by_cases c : k = at_
      · rw [if_pos c]; simp; omega
      · rw [if_neg c]; exact Nat.zero_le _
  · rw [List.map_map]
    have e : ((fun r : Int × List Int => 1 + r.2.length) ∘ fun k : Nat => (s + (k : Int), bsK s (tot - many) at_ k)) = fun k => 1 + if k = at_ then tot - many else 0 := by
      funext k
      show 1 + (bsK s (tot - many) at_ k).length = _
      unfold bsK
      by_cases c : k = at_
      · rw [if_pos c, if_pos c]; simp
      · rw [if_neg c, if_neg c]; rfl
    rw [e, sum_at, if_pos ha]
    omega
section
variable {P : Program} {w : World} {K : PySem.W.Frag} {mg : Str → Option Value} {base : Heap} {C_Shape C_LimitExceeded C_InvalidDeed C_StayError C_FORMS : Addr}
def spBR : Sp := fun vs H Q _ => ∃ (S c : Addr) (tot : Nat) (ne : Bool), vs = [.ref S, .int (tot : Int), .bl ne] ∧ StAt H S c ∧ 297 ≤ tot ∧ tot ≤ 302 ∧ ∀ H' v rs, Mv S c H H' → Rep H' 8 (fun b => H b = none) (.lst (rs.map (rowO ne))) v → Big ne tot rs → Q v H'
theorem ok__law_big_rows (T : Txt K mg C_Shape C_LimitExceeded C_InvalidDeed C_StayError C_FORMS) (R : Prg K mg C_Shape C_LimitExceeded C_InvalidDeed C_StayError C_FORMS) : ∃ f fd, Fn P w K mg base "_law_big_rows" 4 ["_law_state", "_law_total", "_law_nested"] spBR f fd := by
  obtain ⟨_, _, G__law_draw⟩ := ok__law_draw (P := P) (w := w) (base := base) T R
  obtain ⟨f, fd, at_, F, kp⟩ := R._law_big_rows
  refine ⟨f, fd, F.ok sc__law_big_rows (fun vs H Q E h => ?_) (fun cdv A outer s H vs Q E hr h => ?_), at_, kp, F.binds (fun _ _ _ _ _ _ us hl => match us, hl with | [_, _, _], _ => rfl)⟩
  · obtain ⟨S, c, tot, ne, rfl, _⟩ := h; rfl
  · obtain ⟨S, c, tot, ne, rfl, st, t0, t1, k⟩ := h
    refine ⟨_, (pss_cons (ps_set (i := 3) sc__law_big_rows.nd rfl (Or.inr rfl) (pcl G__law_draw hr (pa_cons (pv 0) (pa_cons pe_int pa_nil))))
  (pss_cons (ps_if (pt_not (pt_val (pv 2))) (pss_one (ps_ret (pe_lc (own := [("_law_k", 7)]) rfl sc__law_big_rows.nd (pi_range1 (by rfl) T.range (pa_cons (pv 1) pa_nil)) (blkOk_by (own := [("_law_k", 7)]) (N := ["_law_state", "_law_total", "_law_nested", "_law_start", "_law_many", "_law_at", "_law_rows", "_law_k", "_law_below", "_law_j"]) (sc := defScope s__law_big_rows) (by decide +kernel)) (fun _ _ _ _ _ => (pg_name (i := 7) sc__law_big_rows.nd rfl (Or.inl rfl))) (fun _ _ _ _ _ => pts_nil) (fun _ _ _ _ _ => (pe_disp (pps_cons pe_str (pe_op op_add (pv 3) (pv 7)) (pps_cons pe_str pe_dnewK (pps_cons pe_str pe_dnewK pps_nil))) (by rfl) (by rfl) (fun z => by cases z) (by decide)))))) pss_nil)
  (pss_cons (ps_set (i := 4) sc__law_big_rows.nd rfl (Or.inl rfl) (pe_op op_add pe_int (pcl G__law_draw hr (pa_cons (pv 0) (pa_cons pe_int pa_nil)))))
  (pss_cons (ps_set (i := 5) sc__law_big_rows.nd rfl (Or.inl rfl) (pcl G__law_draw hr (pa_cons (pv 0) (pa_cons (pv 4) pa_nil))))
  (pss_cons (ps_set (i := 6) sc__law_big_rows.nd rfl (Or.inl rfl) (pe_lst pa_nil))
  (pss_cons (ps_for PassesOwn.never rfl (pi_range1 (by rfl) T.range (pa_cons (pv 4) pa_nil)) (pg_name (i := 7) sc__law_big_rows.nd rfl (Or.inl rfl))
    (pss_cons (ps_set (i := 8) sc__law_big_rows.nd rfl (Or.inl rfl) (pe_lst pa_nil))
  (Evl.pss_cut (ps_if (pt_cmpR op_eq (pv 7) (pv 5) (nomark _)) (pss_one (ps_setLc (i := 8) (own := [("_law_j", 9)]) rfl sc__law_big_rows.nd rfl rfl (sw_true rfl rfl rfl (by decide +kernel)) (pi_range1 (by rfl) T.range (pa_cons (pe_op op_sub (pv 1) (pv 4)) pa_nil)) (blkOk_by (own := [("_law_j", 9)]) (N := ["_law_state", "_law_total", "_law_nested", "_law_start", "_law_many", "_law_at", "_law_rows", "_law_k", "_law_below", "_law_j"]) (sc := defScope s__law_big_rows) (by decide +kernel)) (fun _ _ _ _ _ => (pg_name (i := 9) sc__law_big_rows.nd rfl (Or.inl rfl))) (fun _ _ _ _ _ => pts_nil) (fun _ _ _ _ _ => (pe_disp (pps_cons pe_str (pe_op op_add (pe_op op_add (pv 3) pe_int) (pv 9)) (pps_cons pe_str pe_dnewK (pps_cons pe_str pe_dnewK pps_nil))) (by rfl) (by rfl) (fun z => by cases z) (by decide))))) pss_nil)
  (pss_one (ps_expr (show PE _ _ (tBM K _ _ _ _) from pe_bm PySem.F.plainAttrs_list PySem.F.slot_list_append PySem.F.type_list_append mt_append (pv 6) (pa_cons (pe_disp (pps_cons pe_str (pe_op op_add (pv 3) (pv 7)) (pps_cons pe_str pe_dnewK (pps_cons pe_str (pe_disp (pps_cons pe_str (pv 8) pps_nil) (by rfl) (by rfl) (fun z => by cases z) (by decide)) pps_nil))) (by rfl) (by rfl) (fun z => by cases z) (by decide)) pa_nil)))))))
  (pss_one (ps_ret (pv 6))))))))), ?_⟩
    refine ⟨_, rfl, S, c, 999000, rfl, st, by decide, by decide, fun H1 s0 m1 s00 s01 => ?_⟩
    refine gname_go ?_
    cases ne with
    | false =>
      refine Evl.q_when (b := !false) (Evl.et_not (Evl.et_B (Evl.ev_var rfl))) (fun _ H2 e2 => ?_) (fun h => nomatch h)
      have ev := EvD.lcR (σ := [some (.ref S), some (.int (tot : Int)), some (.bl false), some (.int s0), none, none, none, none, none, none]) (H := H2) (ta := tCons (tVar 1) tNil) (te := tDisp [(tC (.str "id"), tOp (rI0 fun i j => .int (i + j)) (tVar 3) (tVar 7)), (tC (.str "fields"), tDNewK), (tC (.str "lists"), tDNewK)]) (n := 7) (P := fun _ => False) (vs := [7]) (m := (tot : Int)) (j := 7) (fun i => leafD (s0 + (i : Int))) (fun _ h => h.elim) (Evl.ea_cons (Evl.ev_var rfl) Evl.ea_nil) ⟨by omega, by omega⟩ (fun _ => rfl) (fun i hi => EvD.leaf (fun _ h => h.elim) (Evl.ev_op (Evl.ev_var rfl) (Evl.ev_var rfl) Evl.rv_I0))
      refine ev H2 (Ex.refl _) _ fun v H3 e3 r3 => ?_
      refine k H3 v _ (m1.tx (e2.trans e3)) ?_ (big_flat (by omega) t1 s00 s01)
      rw [Int.toNat_natCast] at r3
      rw [List.map_map]
      exact rep_S (fun b hb => hb.elim False.elim fun z => m1.back (Evl.fresh_back e2 z)) r3
    | true =>
      refine Evl.q_when (b := !true) (Evl.et_not (Evl.et_B (Evl.ev_var rfl))) (fun h => nomatch h) (fun _ H2 e2 => ?_)
      have m2 := m1.tx e2
      refine ⟨_, rfl, S, c, 9, rfl, m2.z, by decide, by decide, fun H3 r m3 r0 r1 => ⟨_, _, rfl, rfl, ?_⟩⟩
      refine gname_go ?_
      refine ⟨_, rfl, _, rfl, S, c, 1 + r, rfl, m3.z, by omega, by omega, fun H4 a m4 a0 a1 => ?_⟩
      refine gname_go ?_
      have m04 := (m2.trans m3).trans m4
      obtain ⟨many, hmany⟩ := Int.eq_ofNat_of_zero_le (show 0 ≤ 1 + r by omega)
      obtain ⟨an, rfl⟩ := Int.eq_ofNat_of_zero_le a0
      dsimp only
      rw [hmany]
      refine Evl.q_asgL (xs := []) (Evl.el_lst Evl.ea_nil (Nat.zero_le _)) fun q H5 hq e5 hq5 => ?_
      have h4q : H4 q = none := hq
      refine Evl.q_forR1 (n := (many : Int)) (Evl.ea_cons (Evl.ev_var rfl) Evl.ea_nil) ⟨by omega, by omega⟩ (fun i σ' H' => ∃ (o7 o8 : Option V) (ys : List V), σ' = [some (.ref S), some (.int (tot : Int)), some (.bl true), some (.int s0), some (.int (many : Int)), some (.int (an : Int)), some (.ref q), o7, o8, none] ∧ Ex H4 H' ∧ H' q = some (.lst ys) ∧
          Paired (fun d y => Rep H' 7 (fun b => H4 b = none ∧ b ≠ q) d y) ((List.range i).map fun (k : Nat) => rowO true (s0 + (k : Int), bsK s0 (tot - many) an k)) ys) (fun H6 e6 => ⟨none, none, [], rfl, e5.trans e6, e6 _ _ hq5, .nil⟩) (fun i σ' H' hi pv => ?_) fun σ' H' pv => ?_
      · obtain ⟨o7, o8, ys, rfl, e, hys, pys⟩ := pv
        refine Evl.q_asgL (xs := []) (Evl.el_lst Evl.ea_nil (Nat.zero_le _)) fun b1 H6 hb1 e6 hb16 => ?_
        refine Evl.q_cut (M := fun σ'' Hx => ∃ bv, σ'' = [some (.ref S), some (.int (tot : Int)), some (.bl true), some (.int s0), some (.int (many : Int)), some (.int (an : Int)), some (.ref q), some (.int (i : Int)), some bv, none] ∧ Ex H' Hx ∧ Rep Hx 5 (fun b => H' b = none) (.lst ((bsK s0 (tot - many) an i).map leafD)) bv) ?_ fun σ'' Hx pm => ?_
        · refine Evl.s_when (b := decide ((V.int (i : Int)) = V.int (an : Int))) (Evl.et_test (Evl.ev_op (Evl.ev_var rfl) (Evl.ev_var rfl) (Evl.rv_eq rfl))) (fun hb H7 e7 => ?_) (fun hb H7 e7 => ?_)
          · have hb := of_decide_eq_true hb
            have hia : i = an := by have := V.int.inj hb; omega
            have ev := EvD.lcR (σ := [some (.ref S), some (.int (tot : Int)), some (.bl true), some (.int s0), some (.int (many : Int)), some (.int (an : Int)), some (.ref q), some (.int (i : Int)), some (.ref b1), none]) (H := H7) (ta := tCons (tOp (rI0 fun i j => .int (i - j)) (tVar 1) (tVar 4)) tNil) (te := tDisp [(tC (.str "id"), tOp (rI0 fun i j => .int (i + j)) (tOp (rI0 fun i j => .int (i + j)) (tVar 3) (tC (.int 7))) (tVar 9)), (tC (.str "fields"), tDNewK), (tC (.str "lists"), tDNewK)]) (n := 4) (P := fun _ => False) (vs := [9]) (j := 9) (m := (tot : Int) - (many : Int)) (fun i => leafD (s0 + 7 + (i : Int))) (fun _ h => h.elim) (Evl.ea_cons (Evl.ev_op (Evl.ev_var rfl) (Evl.ev_var rfl) Evl.rv_I0) Evl.ea_nil) ⟨by omega, by omega⟩ (fun _ => rfl) (fun i hi => EvD.leaf (fun _ h => h.elim) (Evl.ev_op (Evl.ev_op (Evl.ev_var rfl) Evl.ev_c Evl.rv_I0) (Evl.ev_var rfl) Evl.rv_I0))
            refine ev H7 (Ex.refl _) _ fun v H8 e8 r8 => gname_go ⟨v, rfl, (e6.trans e7).trans e8, ?_⟩
            rw [show ((tot : Int) - (many : Int)).toNat = tot - many by omega] at r8
            unfold bsK
            rw [if_pos hia, List.map_map]
            exact rep_S (fun b hb => hb.elim False.elim fun z => Evl.fresh_back (e6.trans e7) z) r8
          · have hb := of_decide_eq_false hb
            have hia : ¬ i = an := fun z => hb (by rw [z])
            refine ⟨.ref b1, rfl, e6.trans e7, ?_⟩
            unfold bsK
            rw [if_neg hia]
            exact ⟨b1, [], rfl, hb1, e7 _ _ hb16, Nat.zero_le _, .nil⟩
        · obtain ⟨bv, rfl, ex, rb⟩ := pm
          have hysx := ex _ _ hys
          have lys := pair_len pys
          rw [List.length_map, List.length_range] at lys
          have ev := EvD.row1 (σ := [some (.ref S), some (.int (tot : Int)), some (.bl true), some (.int s0), some (.int (many : Int)), some (.int (an : Int)), some (.ref q), some (.int (i : Int)), some bv, none]) (H := Hx) (n := 5) (P := fun b => H' b = none ∧ Hx b ≠ none) (te := tOp (rI0 fun i j => .int (i + j)) (tVar 3) (tVar 7)) (i := s0 + (i : Int)) (tb := tVar 8) (fun b hb => hb.2) (Evl.ev_op (Evl.ev_var rfl) (Evl.ev_var rfl) Evl.rv_I0) (EvD.var rfl (rep_dom rb)) (by decide)
          refine ⟨_, rfl, .inl ⟨rfl, _, Evl.sq_of hysx⟩, ev Hx (Ex.refl _) _ fun v H8 e8 r8 => ⟨q, ys, v, rfl, rfl, e8 _ _ hysx, Evl.sz_lt (by omega), ?_⟩⟩
          have hys8 := e8 _ _ hysx
          have nq : ∀ b, H' b = none → b ≠ q := fun b hb z => by rw [z, hys] at hb; cases hb
          refine ⟨_, _, ys ++ [v], rfl, Ex.mut ((e.trans ex).trans e8) h4q, upd_same, ?_⟩
          rw [List.range_succ, List.map_append]
          refine pair_snoc (pair_imp pys fun a b h => rep_upd hys8 (fun _ z => nomatch z) (fun b z => z.2) (rep_ex (ex.trans e8) h)) (rep_upd hys8 (fun _ z => nomatch z) (fun b z => z.2) (rep_S (fun b hb => ?_) r8))
          have hb : H' b = none := hb.elim (fun z => z.1) fun z => Evl.fresh_back ex z
          exact ⟨Evl.fresh_back e hb, nq b hb⟩
      · obtain ⟨o7, o8, ys, rfl, e, hys, pys⟩ := pv
        rw [Int.toNat_natCast] at pys
        refine Evl.s_ret (Evl.ev_var rfl) fun H7 e7 => k H7 (.ref q) _ (m04.tx (e.trans e7)) ?_ (big_deep (many := many) (at_ := an) (by omega) (by omega) t1 (by omega) s00 s01)
        rw [List.map_map]
        exact rep_ex e7 ⟨q, ys, rfl, m04.back h4q, hys, by rw [List.length_map, List.length_range]; omega, pair_imp pys fun a b h => rep_S (fun b hb => m04.back hb.1) h⟩
end
end Pk

namespace Pk
open PySem PySem.Spec PyProof.Rows L2 Ssb
open Evl (Ex Ev EvT EvL EvA EvU)
/-- xs == [] -/
def rEqNil : R2 := fun x y H Q => ∃ (a b : Addr) (xs : List V), x = .ref a ∧ y = .ref b ∧ H a = some (.lst xs) ∧ H b = some (.lst []) ∧ Q (.bl xs.isEmpty) H
theorem op_eqNil {X : Cx} (hu : X.A.units + 64 < cLine) : OpR X (compareOp .Eq) rEqNil := by
  intro pins s σ H x y v u Q I rx ry h
  obtain ⟨a, b, xs, rfl, rfl, ha, hb, q⟩ := h
  cases rx; cases ry
  obtain ⟨us, r1, p1, _⟩ := I.list (Evl.sq_of ha)
  obtain ⟨ws, r2, p2, _⟩ := I.list (Evl.sq_of hb)
  cases r2
  cases xs with
  | nil =>
    cases r1
    refine PySem.W.eq_listsT (n := 1) (e := fun _ => true) p1.isList p2.isList rfl (fun j h1 h2 => absurd h1 (Nat.not_lt_zero j)) (by omega) ?_
    exact ⟨.bl true, H, I, rfl, q⟩
  | cons x xs =>
    cases r1 with
    | cons r1 t1 =>
    exact SeqAt.RcAt.lists_lengths p1.isList p2.isList (by simp) (by omega) X.prog X.w _ _ ⟨.bl false, H, I, rfl, q⟩
/-- where a drawn deed may be, what stands there, and the row that it brings -/
def Ch (ne : Bool) (rs : List (Int × List Int)) (wl : List D) (n : Nat) (x : D) : Prop :=
  (wl = [.str "rows"] ∧ n = rs.length ∧ ∃ bs : List Int, x = rowO ne (1000000, bs) ∧ (ne = false → bs = []) ∧ bs.length ≤ 3 ∧ bs.Nodup ∧ ∀ i ∈ bs, 0 ≤ i ∧ i < 1000000) ∨
  (ne = true ∧ ∃ (i : Nat) (r : Int × List Int), rs[i]? = some r ∧ wl = [.str "rows", .int r.1, .str "below"] ∧ n = r.2.length ∧ x = leafD 1000000)
def LawDeed (ne : Bool) (rs : List (Int × List Int)) (dd : D) : Prop := dd = .tup [.str "flag", .str "on"] ∨ ∃ wl n x o, dd = deedD wl x o ∧ Ch ne rs wl n x ∧ Op.ok o n
theorem lkD1 {d1 d2 : D} : List.lookup ("flags" : Str) [(("flags" : Str), d1), (("lists" : Str), d2)] = some d1 := by rw [lk_cons, if_pos rfl]
theorem nGL : ¬ (("lists" : Str) = "flags") := by decide +kernel
theorem lkD2 {d1 d2 : D} : List.lookup ("lists" : Str) [(("flags" : Str), d1), (("lists" : Str), d2)] = some d2 := by rw [lk_cons, if_neg nGL, lk_cons, if_pos rfl]
theorem lkOne {k : Str} {d : D} : List.lookup k [(k, d)] = some d := by rw [lk_cons, if_pos rfl]
theorem nIF : ¬ (("id" : Str) = "fields") := by decide +kernel
theorem nIL : ¬ (("id" : Str) = "lists") := by decide +kernel
theorem nFL : ¬ (("fields" : Str) = "lists") := by decide +kernel
theorem lkR1 {d1 d2 d3 : D} : List.lookup ("id" : Str) [(("id" : Str), d1), (("fields" : Str), d2), (("lists" : Str), d3)] = some d1 := by rw [lk_cons, if_pos rfl]
theorem lkR2 {d1 d2 d3 : D} : List.lookup ("fields" : Str) [(("id" : Str), d1), (("fields" : Str), d2), (("lists" : Str), d3)] = some d2 := by rw [lk_cons, if_neg (fun e => nIF e.symm), lk_cons, if_pos rfl]
theorem lkR3 {d1 d2 d3 : D} : List.lookup ("lists" : Str) [(("id" : Str), d1), (("fields" : Str), d2), (("lists" : Str), d3)] = some d3 := by rw [lk_cons, if_neg (fun e => nIL e.symm), lk_cons, if_neg (fun e => nFL e.symm), lk_cons, if_pos rfl]
theorem s_go {te : TE} {i : Nat} {D_ : Ends} {σ : L2.St} {H : Hp} (h : te σ H fun v H1 => D_.nx (σ.set i (some v)) H1) : tAsg te (gName i) D_ σ H := h
theorem rep_kidS {H : Hp} {n : Nat} {S : Addr → Prop} {l : List (Str × D)} {v : V} {k : Str} {d : D} (h : Rep H (n + 1) S (.dic l) v) (hk : l.lookup k = some d) : ∃ u, Kid H v k u ∧ Rep H n S d u := by
  obtain ⟨a, es, rfl, _, ha, _, pr⟩ := h
  obtain ⟨u, hu, r⟩ := rep_entry pr hk
  exact ⟨u, ⟨a, es, rfl, ha, hu⟩, rep_S (fun b hb => hb.1) r⟩
section
variable {K : PySem.W.Frag} {σ : L2.St} {H : Hp} {ta : TA} {S c : Addr} {m : Int}
theorem dr_go {Q : VK} (h : EvA ta σ H [.ref S, .int m]) (st : StAt H S c) (h1 : 1 ≤ m) (h2 : m ≤ 1000000) (q : ∀ H' r, Mv S c H H' → 0 ≤ r → r < m → Q (.int r) H') : tCall spDraw [] E0 ta σ H Q :=
  h H (Ex.refl _) _ fun H1 e1 => ⟨S, c, m, rfl, st.ex e1, h1, by omega, fun H' r mv r0 r1 => q H' r ((Mv.ex st e1).trans mv) r0 r1⟩
theorem dr_if {tu tw tz : TS} {D_ : Ends} (h : EvA ta σ H [.ref S, .int m]) (st : StAt H S c) (h1 : 1 ≤ m) (h2 : m ≤ 1000000) (y : ∀ H', Mv S c H H' → tu { D_ with nx := tz D_ } σ H') (n : ∀ H', Mv S c H H' → tw { D_ with nx := tz D_ } σ H') : tSeq (tIfS (tTest (tOp rEq (tCall spDraw [] E0 ta) (tC (.int 1)))) tu tw) tz D_ σ H :=
  dr_go h st h1 h2 fun H' r mv _ _ => ⟨rfl, _, rfl, by
    dsimp only
    by_cases e : V.int r = V.int 1
    · rw [if_pos (decide_eq_true e)]; exact y H' mv
    · rw [if_neg (fun z => e (of_decide_eq_true z))]; exact n H' mv⟩
theorem dr_and {tn : TE} {tu tw : TS} {D_ : Ends} (hn : Ev tn σ H (.bl true)) (h : EvA ta σ H [.ref S, .int m]) (st : StAt H S c) (h1 : 1 ≤ m) (h2 : m ≤ 1000000) (y : ∀ H', Mv S c H H' → tu D_ σ H') (n : ∀ H', Mv S c H H' → tw D_ σ H') : tIfS (tAnd (tB tn) (tTest (tOp rEq (tCall spDraw [] E0 ta) (tC (.int 1))))) tu tw D_ σ H :=
  hn H (Ex.refl _) _ fun H1 e1 => ⟨true, rfl, by
    dsimp only
    rw [if_pos rfl]
    refine dr_go (fun H2 e2 Q q => h H2 (e1.trans e2) Q q) (st.ex e1) h1 h2 fun H' r mv _ _ => ⟨rfl, _, rfl, ?_⟩
    dsimp only
    by_cases e : V.int r = V.int 1
    · rw [if_pos (decide_eq_true e)]; exact y H' ((Mv.ex st e1).trans mv)
    · rw [if_neg (fun z => e (of_decide_eq_true z))]; exact n H' ((Mv.ex st e1).trans mv)⟩
end
section
variable {P : Program} {w : World} {K : PySem.W.Frag} {mg : Str → Option Value} {base : Heap} {C_Shape C_LimitExceeded C_InvalidDeed C_StayError C_FORMS : Addr}
def spBD : Sp := fun vs H Q _ => ∃ (S c : Addr) (v : V) (ne : Bool) (tot : Nat) (rs : List (Int × List Int)) (P : Addr → Prop), vs = [.ref S, v, .bl ne] ∧ StAt H S c ∧ Rep H 10 P (dataD ne false rs) v ∧ ¬ P S ∧ ¬ P c ∧ Big ne tot rs ∧
  ∀ H' t dd, Mv S c H H' → Rep H' 11 (fun b => H b = none) dd (.ref t) → LawDeed ne rs dd → Q (.ref t) H'
theorem ok__law_big_deed (T : Txt K mg C_Shape C_LimitExceeded C_InvalidDeed C_StayError C_FORMS) (R : Prg K mg C_Shape C_LimitExceeded C_InvalidDeed C_StayError C_FORMS) : ∃ f fd, Fn P w K mg base "_law_big_deed" 4 ["_law_state", "_law_data", "_law_nested"] spBD f fd := by
  obtain ⟨_, _, G__law_draw⟩ := ok__law_draw (P := P) (w := w) (base := base) T R
  obtain ⟨f, fd, at_, F, kp⟩ := R._law_big_deed
  refine ⟨f, fd, F.ok sc__law_big_deed (fun vs H Q E h => ?_) (fun cdv A outer s H vs Q E hr h => ?_), at_, kp, F.binds (fun _ _ _ _ _ _ us hl => match us, hl with | [_, _, _], _ => rfl)⟩
  · obtain ⟨S, c, v, ne, tot, rs, PP, rfl, _⟩ := h; rfl
  · obtain ⟨S, c, v, ne, tot, rs, PP, rfl, st, hv, nS, nc, B, k⟩ := h
    refine ⟨_, (pss_cons (ps_set (i := 3) sc__law_big_deed.nd rfl (Or.inl rfl) (pe_tup (pa_cons pe_str pa_nil)))
  (pss_cons (ps_set (i := 4) sc__law_big_deed.nd rfl (Or.inl rfl) (pe_dget (hu_of hr) (pe_dget (hu_of hr) (pv 1) pe_str (fun _ _ => rfl)) pe_str (fun _ _ => rfl)))
  (pss_cons (ps_set (i := 5) sc__law_big_deed.nd rfl (Or.inl rfl) (pe_disp (pps_cons pe_str pe_int (pps_cons pe_str pe_dnewK (pps_cons pe_str pe_dnewK pps_nil))) (by rfl) (by rfl) (fun z => by cases z) (by decide)))
  (Evl.pss_cut (ps_if (PW.pt (pw_and (pt_val (pv 2)) (pw_and1 (pt_cmpR op_eq (pcl G__law_draw hr (pa_cons (pv 0) (pa_cons pe_int pa_nil))) pe_int (nomark _))))) (pss_cons (ps_set (i := 6) sc__law_big_deed.nd rfl (Or.inl rfl) (pe_ix (r := rIxL K) ix_list (pv 4) (pcl G__law_draw hr (pa_cons (pv 0) (pa_cons (pe_callB (r := rLenA K) call_len (by rfl) T.len (by decide +kernel) (pa_cons (pv 4) pa_nil)) pa_nil))) (fun _ _ => rfl)))
  (pss_cons (ps_set (i := 3) sc__law_big_deed.nd rfl (Or.inl rfl) (pe_tup (pa_cons pe_str (pa_cons (pe_dget (hu_of hr) (pv 6) pe_str (fun _ _ => rfl)) (pa_cons pe_str pa_nil)))))
  (pss_one (ps_set (i := 4) sc__law_big_deed.nd rfl (Or.inl rfl) (pe_dget (hu_of hr) (pe_dget (hu_of hr) (pv 6) pe_str (fun _ _ => rfl)) pe_str (fun _ _ => rfl)))))) (pss_one (ps_if (pt_val (pv 2)) (pss_cons (ps_setLc (i := 7) (own := [("_law_k", 9)]) rfl sc__law_big_deed.nd rfl rfl (sw_true rfl rfl rfl (by decide +kernel)) (pi_range1 (by rfl) T.range (pa_cons (pcl G__law_draw hr (pa_cons (pv 0) (pa_cons pe_int pa_nil))) pa_nil)) (blkOk_by (own := [("_law_k", 9)]) (N := ["_law_state", "_law_data", "_law_nested", "_law_where", "_law_rows", "_law_fresh", "_law_row", "_law_below", "_law_pick", "_law_k"]) (sc := defScope s__law_big_deed) (by decide +kernel)) (fun _ _ _ _ _ => (pg_name (i := 9) sc__law_big_deed.nd rfl (Or.inl rfl))) (fun _ _ _ _ _ => pts_nil) (fun _ _ _ _ _ => (pe_disp (pps_cons pe_str (pv 9) (pps_cons pe_str pe_dnewK (pps_cons pe_str pe_dnewK pps_nil))) (by rfl) (by rfl) (fun z => by cases z) (by decide))))
  (pss_one (ps_set (i := 5) sc__law_big_deed.nd rfl (Or.inl rfl) (pe_disp (pps_cons pe_str pe_int (pps_cons pe_str pe_dnewK (pps_cons pe_str (pe_disp (pps_cons pe_str (pv 7) pps_nil) (by rfl) (by rfl) (fun z => by cases z) (by decide)) pps_nil))) (by rfl) (by rfl) (fun z => by cases z) (by decide))))) pss_nil)))
  (pss_cons (ps_set (i := 8) sc__law_big_deed.nd rfl (Or.inl rfl) (pcl G__law_draw hr (pa_cons (pv 0) (pa_cons pe_int pa_nil))))
  (pss_cons (ps_if (pt_cmpR op_eq (pv 8) pe_int (nomark _)) (pss_one (ps_ret (pe_tup (pa_cons pe_str (pa_cons pe_str pa_nil))))) pss_nil)
  (pss_cons (ps_if (PW.pt (pw_or (pt_cmpR op_lt (pv 8) pe_int (nomark _)) (pw_or1 (pt_cmpR (r := rEqNil) (op_eqNil hr.units) (pv 4) (pe_lst pa_nil) (nomark _))))) (pss_one (ps_ret (pe_tup (pa_cons pe_str (pa_cons (pv 3) (pa_cons (pv 5) pa_nil)))))) pss_nil)
  (pss_cons (ps_if (pt_cmpR op_eq (pv 8) pe_int (nomark _)) (pss_one (ps_ret (pe_tup (pa_cons pe_str (pa_cons (pv 3) (pa_cons (pcl G__law_draw hr (pa_cons (pv 0) (pa_cons (pe_op op_add (pe_callB (r := rLenA K) call_len (by rfl) T.len (by decide +kernel) (pa_cons (pv 4) pa_nil)) pe_int) pa_nil))) (pa_cons (pv 5) pa_nil))))))) pss_nil)
  (pss_cons (ps_if (pt_cmpR op_eq (pv 8) pe_int (nomark _)) (pss_one (ps_ret (pe_tup (pa_cons pe_str (pa_cons (pv 3) pa_nil))))) pss_nil)
  (pss_cons (ps_if (pt_cmpR op_eq (pcl G__law_draw hr (pa_cons (pv 0) (pa_cons pe_int pa_nil))) pe_int (nomark _)) (pss_one (ps_ret (pe_tup (pa_cons pe_str (pa_cons (pv 3) (pa_cons (pcl G__law_draw hr (pa_cons (pv 0) (pa_cons (pe_callB (r := rLenA K) call_len (by rfl) T.len (by decide +kernel) (pa_cons (pv 4) pa_nil)) pa_nil))) pa_nil)))))) pss_nil)
  (pss_one (ps_ret (pe_tup (pa_cons pe_str (pa_cons (pv 3) (pa_cons (pcl G__law_draw hr (pa_cons (pv 0) (pa_cons (pe_callB (r := rLenA K) call_len (by rfl) T.len (by decide +kernel) (pa_cons (pv 4) pa_nil)) pa_nil))) (pa_cons (pcl G__law_draw hr (pa_cons (pv 0) (pa_cons (pe_callB (r := rLenA K) call_len (by rfl) T.len (by decide +kernel) (pa_cons (pv 4) pa_nil)) pa_nil))) pa_nil))))))))))))))))), ?_⟩
    obtain ⟨v1, k1, r1⟩ := rep_kidS (n := 9) hv lkD2
    obtain ⟨v2, k2, r2⟩ := rep_kidS (n := 8) r1 lkOne
    obtain ⟨ra0, xs0, rfl, pa0, hra0, _, pr0⟩ := id r2
    have lx0 : rs.length = xs0.length := by have := pair_len pr0; rw [List.length_map] at this; exact this
    have aS0 : ra0 ≠ S ∧ ra0 ≠ c := ⟨fun e => nS (e ▸ pa0), fun e => nc (e ▸ pa0)⟩
    have nHS : ¬ H S = none := fun z => (st.someS z).1 rfl
    have nHc : ¬ H c = none := fun z => (st.someS z).2 rfl
    refine Evl.q_asgU (xs := [.str "rows"]) (Evl.eu_tup (Evl.ea_cons Evl.ev_c Evl.ea_nil) (by show 1 ≤ 100000; decide)) fun tw0 H1 htw e1 htw1 => ?_
    refine Evl.q_asg (ev_kid (ev_kid (Evl.ev_var rfl) Evl.ev_c (k1.ex e1)) Evl.ev_c (k2.ex e1)) fun H2 e2 => ?_
    refine q_go (EvD.leaf (n := 8) (i := 1000000) (P := fun _ => False) (fun _ h => h.elim) Evl.ev_c H2 (Ex.refl _) _ fun fv0 H3 e3 r3 => ?_)
    have e02 := e1.trans e2
    have e03 := e02.trans e3
    have m03 := Mv.ex st e03
    have rfv : Rep H3 10 (fun b => H b = none) (leafD 1000000) fv0 := rep_S (fun b hb => hb.elim False.elim fun z => Evl.fresh_back e02 z) r3
    have rtw : Rep H3 10 (fun b => H b = none) (.tup [.str "rows"]) (.ref tw0) := ⟨tw0, _, rfl, (e2.trans e3) _ _ htw1, by show 1 ≤ 100000; decide, .cons rfl .nil⟩
    have hra3 := e03 _ _ hra0
    have len : ∀ {H4 H5 : Hp} {σ : L2.St} {i : Nat} {a : Addr} {xs : List V}, Ex H4 H5 → H4 a = some (.lst xs) → σ[i]? = some (some (.ref a)) → Ev (tCB (rLenA K) (tCons (tVar i) tNil)) σ H5 (.int (xs.length : Int)) := fun e ha hs => ev_lenL (Evl.ev_var hs) (.inl (Evl.sq_of (e _ _ ha)))
    refine Evl.q_cut (M := fun σ' H' => ∃ (tw : Addr) (wl : List D) (ra : Addr) (xs : List V) (fv : V) (x : D) (o6 o7 : Option V), σ' = [some (.ref S), some v, some (.bl ne), some (.ref tw), some (.ref ra), some fv, o6, o7, none, none] ∧ Mv S c H H' ∧ Rep H' 10 (fun b => H b = none) (.tup wl) (.ref tw) ∧ H' ra = some (.lst xs) ∧ xs.length ≤ 1000 ∧ (ra ≠ S ∧ ra ≠ c) ∧ Rep H' 10 (fun b => H b = none) x fv ∧ Ch ne rs wl xs.length x) ?_ fun σ' H4 pm => ?_
    · cases ne with
      | false =>
        refine Evl.s_if (b := false && true) (Evl.et_and (Evl.et_B (Evl.ev_var rfl)) fun h => nomatch h) (fun h => nomatch h) (fun _ H4 e4 => ?_)
        refine Evl.s_when (b := false) (Evl.et_B (Evl.ev_var rfl)) (fun h => nomatch h) (fun _ H5 e5 => ?_)
        have e35 := e4.trans e5
        exact ⟨tw0, _, ra0, xs0, fv0, _, none, none, rfl, m03.tx e35, rep_ex e35 rtw, e35 _ _ hra3, by rw [← lx0]; have := B.few; omega, aS0, rep_ex e35 rfv, .inl ⟨rfl, lx0.symm, [], rfl, fun _ => rfl, by decide, List.nodup_nil, fun i hi => nomatch hi⟩⟩
      | true =>
        refine dr_and (m := 2) (Evl.ev_var rfl) (Evl.ea_cons (Evl.ev_var rfl) (Evl.ea_cons Evl.ev_c Evl.ea_nil)) m03.z (by decide) (by decide) (fun H4 m4 => ?_) (fun H4 m4 => ?_)
        · have m04 := m03.trans m4
          have hra4 := m4.fr _ _ aS0.1 aS0.2 hra3
          have rp4 := rep_mv m4 nHS nHc rfv
          have rr4 : Rep H4 8 PP (.lst (rs.map (rowO true))) (.ref ra0) := rep_mv m04 nS nc r2
          refine ⟨_, rfl, dr_go (m := (xs0.length : Int)) (Evl.ea_cons (Evl.ev_var rfl) (Evl.ea_cons (len (Ex.refl _) hra4 rfl) Evl.ea_nil)) m4.z (by rw [← lx0]; have := B.pos; omega) (by rw [← lx0]; have := B.few; omega) fun H5 j m5 j0 j1 => ?_⟩
          obtain ⟨jn, rfl⟩ := Int.eq_ofNat_of_zero_le j0
          have jl : jn < xs0.length := by omega
          have hj := List.getElem?_eq_getElem jl
          have hra5 := m5.fr _ _ aS0.1 aS0.2 hra4
          refine ⟨ra0, xs0, (jn : Int), _, rfl, rfl, Evl.sq_of hra5, atI_nat hj, ?_⟩
          refine gname_go ?_
          obtain ⟨a8, xs8, ea8, _, ha8, _, pr8⟩ := rep_mv m5 nS nc rr4
          cases ea8
          rw [hra5] at ha8; cases ha8
          obtain ⟨row, hrow, rrow⟩ := pair_back pr8 hj
          rw [List.getElem?_map] at hrow
          cases hr : rs[jn]? with
          | none => rw [hr] at hrow; cases hrow
          | some r =>
          rw [hr] at hrow
          cases hrow
          obtain ⟨vi, ki, ri⟩ := rep_kidS (n := 6) (d := .int r.1) rrow lkR1
          obtain ⟨vl, kl, rl⟩ := rep_kidS (n := 6) (d := .dic (lsO true r.2)) rrow lkR3
          obtain ⟨vb, kb, rb⟩ := rep_kidS (n := 5) (k := "below") (d := .lst (r.2.map leafD)) rl lkOne
          rw [int_of ri] at ki
          obtain ⟨ba, bxs, rfl, pba, hba, _, pb⟩ := id rb
          have lb : r.2.length = bxs.length := by have := pair_len pb; rw [List.length_map] at this; exact this
          have m05 := m04.trans m5
          refine Evl.q_asgU (xs := [.str "rows", .int r.1, .str "below"]) (Evl.eu_tup (Evl.ea_cons Evl.ev_c (Evl.ea_cons (ev_kid (Evl.ev_var rfl) Evl.ev_c ki) (Evl.ea_cons Evl.ev_c Evl.ea_nil))) (by show 3 ≤ 100000; decide)) fun tw1 H6 htw1 e6 htw6 => ?_
          refine Evl.s_asg (ev_kid (ev_kid (Evl.ev_var rfl) Evl.ev_c (kl.ex e6)) Evl.ev_c (kb.ex e6)) fun H7 e7 => ?_
          have e57 := e6.trans e7
          refine ⟨tw1, [.str "rows", .int r.1, .str "below"], ba, bxs, fv0, _, _, none, rfl, m05.tx e57, ⟨tw1, _, rfl, e7 _ _ htw6, by show 3 ≤ 100000; decide, .cons rfl (.cons rfl (.cons rfl .nil))⟩, e57 _ _ hba, ?_, ⟨fun e => nS (e ▸ pba), fun e => nc (e ▸ pba)⟩, rep_ex e57 (rep_mv m5 nHS nHc rp4), .inr ⟨rfl, jn, r, hr, rfl, lb.symm, rfl⟩⟩
          rw [← lb]
          obtain ⟨_, _, _, _, h5, _⟩ := B.r r (List.mem_of_getElem? hr)
          omega
        · refine Evl.s_when (b := true) (Evl.et_B (Evl.ev_var rfl)) (fun _ H5 e5 => ?_) (fun h => nomatch h)
          have m45 := m4.tx e5
          have m05 := m03.trans m45
          refine q_go (dr_go (m := 4) (Evl.ea_cons (Evl.ev_var rfl) (Evl.ea_cons Evl.ev_c Evl.ea_nil)) m45.z (by decide) (by decide) fun H6 r m6 r0 r1 => ⟨r, rfl, by omega, by omega, fun Dl hD => ?_⟩)
          obtain ⟨rn, rfl⟩ := Int.eq_ofNat_of_zero_le r0
          rw [Int.toNat_natCast]
          refine lcD_core (n := 5) (P := fun _ => False) (f := fun i => leafD (i : Int)) (fun _ h => h.elim) (by omega) (fun _ => rfl) (fun i hi => EvD.leaf (n := 3) (fun _ h => h.elim) (Evl.ev_var rfl)) hD fun H7 e7 r7 => ?_
          dsimp only
          have m06 := m05.trans m6
          have r7 : Rep H7 6 (fun b => H b = none ∧ H7 b ≠ none) (.lst ((List.range rn).map fun i : Nat => leafD (i : Int))) (.ref Dl) := rep_dom (rep_S (fun b hb => hb.elim False.elim fun z => m06.back z) r7)
          refine s_go (EvD.row1 (n := 6) (i := 1000000) (P := fun b => H b = none ∧ H7 b ≠ none) (fun b hb => hb.2) Evl.ev_c (EvD.var rfl r7) (by decide) H7 (Ex.refl _) _ fun fv1 H8 e8 r8 => ?_)
          have e68 := e7.trans e8
          have m58 := m6.tx e68
          have m08 := m05.trans m58
          have m38 := m45.trans m58
          refine ⟨tw0, _, ra0, xs0, fv1, rowO true (1000000, (List.range rn).map fun i : Nat => (i : Int)), _, _, rfl, m08, rep_mv m38 nHS nHc rtw, m38.fr _ _ aS0.1 aS0.2 hra3, by rw [← lx0]; have := B.few; omega, aS0, ?_, .inl ⟨rfl, lx0.symm, _, rfl, (fun h => nomatch h), by rw [List.length_map, List.length_range]; omega, List.Pairwise.map _ (fun a b h z => h (by omega)) List.nodup_range, fun i hi => ?_⟩⟩
          · have r9 := rep_up (rep_up (rep_S (S' := fun b => H b = none) (fun b hb => hb.elim (fun z => z.1) fun z => m06.back (Evl.fresh_back e7 z)) r8))
            show Rep H8 10 _ (rowD 1000000 [] [("below", .lst (((List.range rn).map fun i : Nat => (i : Int)).map leafD))]) fv1
            rw [List.map_map]
            exact r9
          · obtain ⟨j, hj, rfl⟩ := List.mem_map.mp hi
            have := List.mem_range.mp hj
            exact ⟨by omega, by omega⟩
    · obtain ⟨tw, wl, ra, xs, fv, x, o6, o7, rfl, m, rw_, hra, lx, aS, rx, ch⟩ := pm
      refine ⟨_, rfl, S, c, 6, rfl, m.z, by decide, by decide, fun H5 pk m5 p0 p1 => ?_⟩
      refine gname_go ?_
      have m := m.trans m5
      have rw_ := rep_mv m5 nHS nHc rw_
      have rx := rep_mv m5 nHS nHc rx
      have hra := m5.fr _ _ aS.1 aS.2 hra
      have fin : ∀ {H6 : Hp} {u : Addr} {dd : D}, Mv S c H5 H6 → Rep H6 11 (fun b => H b = none) dd (.ref u) → LawDeed ne rs dd → Q (.ref u) H6 := fun m6 r6 l6 => k _ _ _ (m.trans m6) r6 l6
      refine Evl.q_when (b := decide (V.int pk = V.int 0)) (Evl.et_test (Evl.ev_op (Evl.ev_var rfl) Evl.ev_c (Evl.rv_eq rfl))) (fun hb H6 e6 => ?_) (fun hb H6 e6 => ?_)
      · exact Evl.s_retU (xs := [.str "flag", .str "on"]) (Evl.eu_tup (Evl.ea_cons Evl.ev_c (Evl.ea_cons Evl.ev_c Evl.ea_nil)) (by show 2 ≤ 100000; decide)) fun u H7 hu e7 hu7 => fin (dd := .tup [.str "flag", .str "on"]) (Mv.ex m.z (e6.trans e7)) ⟨u, _, rfl, hu7, by show 2 ≤ 100000; decide, .cons rfl (.cons rfl .nil)⟩ (.inl rfl)
      refine Evl.q_when (b := decide (pk < 3) || xs.isEmpty) (Evl.et_or (Evl.et_test (Evl.ev_op (Evl.ev_var rfl) Evl.ev_c Evl.rv_I0)) fun _ => Evl.et_test (fun H7 e7 Q7 q7 => ⟨_, rfl, by show 0 ≤ sizeLine; decide, fun p hp => ⟨ra, p, xs, rfl, rfl, (Ex.new hp) _ _ ((e6.trans e7) _ _ hra), upd_same, q7 _ (Ex.new hp)⟩⟩)) (fun hb H7 e7 => ?_) (fun hb H7 e7 => ?_)
      · have e57 := e6.trans e7
        exact Evl.s_retU (xs := [.str "append", .ref tw, fv]) (Evl.eu_tup (Evl.ea_cons Evl.ev_c (Evl.ea_cons (Evl.ev_var rfl) (Evl.ea_cons (Evl.ev_var rfl) Evl.ea_nil))) (by show 3 ≤ 100000; decide)) fun u H8 hu e8 hu8 => fin (dd := deedD wl x .app) (Mv.ex m.z (e57.trans e8)) ⟨u, _, rfl, hu8, by show 3 ≤ 100000; decide, .cons rfl (.cons (rep_ex (e57.trans e8) rw_) (.cons (rep_ex (e57.trans e8) rx) .nil))⟩ (.inr ⟨wl, _, x, .app, rfl, ch, trivial⟩)
      have xpos : 0 < xs.length := by
        cases xs with
        | nil => simp at hb
        | cons a b => exact Nat.succ_pos _
      have e57 := e6.trans e7
      refine Evl.q_when (b := decide (V.int pk = V.int 3)) (Evl.et_test (Evl.ev_op (Evl.ev_var rfl) Evl.ev_c (Evl.rv_eq rfl))) (fun hb H8 e8 => ?_) (fun hb H8 e8 => ?_)
      · have e58 := e57.trans e8
        have m58 := Mv.ex m.z e58
        refine ⟨_, rfl, dr_go (m := (xs.length : Int) + 1) (Evl.ea_cons (Evl.ev_var rfl) (Evl.ea_cons (Evl.ev_op (len e58 hra rfl) Evl.ev_c Evl.rv_I0) Evl.ea_nil)) m58.z (by omega) (by omega) fun H9 r m9 r0 r1 => ⟨_, rfl, by show 4 ≤ sizeLine; decide, fun u hu => ?_⟩⟩
        obtain ⟨rn, rfl⟩ := Int.eq_ofNat_of_zero_le r0
        have eu := Ex.new (o := .tup [.str "insert", .ref tw, .int (rn : Int), fv]) hu
        exact fin (dd := deedD wl x (.ins rn)) ((m58.trans m9).tx eu) ⟨u, _, rfl, upd_same, by show 4 ≤ 100000; decide, .cons rfl (.cons (rep_ex eu (rep_mv (m58.trans m9) nHS nHc rw_)) (.cons rfl (.cons (rep_ex eu (rep_mv (m58.trans m9) nHS nHc rx)) .nil)))⟩ (.inr ⟨wl, _, x, .ins rn, rfl, ch, by show rn ≤ xs.length; omega⟩)
      have e58 := e57.trans e8
      refine Evl.q_when (b := decide (V.int pk = V.int 4)) (Evl.et_test (Evl.ev_op (Evl.ev_var rfl) Evl.ev_c (Evl.rv_eq rfl))) (fun hb H9 e9 => ?_) (fun hb H9 e9 => ?_)
      · have e59 := e58.trans e9
        exact Evl.s_retU (xs := [.str "cut", .ref tw]) (Evl.eu_tup (Evl.ea_cons Evl.ev_c (Evl.ea_cons (Evl.ev_var rfl) Evl.ea_nil)) (by show 2 ≤ 100000; decide)) fun u Ha hu ea hua => fin (dd := deedD wl x .cut) (Mv.ex m.z (e59.trans ea)) ⟨u, _, rfl, hua, by show 2 ≤ 100000; decide, .cons rfl (.cons (rep_ex (e59.trans ea) rw_) .nil)⟩ (.inr ⟨wl, _, x, .cut, rfl, ch, xpos⟩)
      have e59 := e58.trans e9
      have m59 := Mv.ex m.z e59
      have hra9 := e59 _ _ hra
      refine dr_if (m := 2) (Evl.ea_cons (Evl.ev_var rfl) (Evl.ea_cons Evl.ev_c Evl.ea_nil)) m59.z (by decide) (by decide) (fun Ha ma => ?_) (fun Ha ma => ?_)
      · have hraa := ma.fr _ _ aS.1 aS.2 hra9
        refine ⟨_, rfl, dr_go (m := (xs.length : Int)) (Evl.ea_cons (Evl.ev_var rfl) (Evl.ea_cons (len (Ex.refl _) hraa rfl) Evl.ea_nil)) ma.z (by omega) (by omega) fun Hb r mb r0 r1 => ⟨by show 3 ≤ sizeLine; decide, fun u hu => ?_⟩⟩
        obtain ⟨rn, rfl⟩ := Int.eq_ofNat_of_zero_le r0
        have eu := Ex.new (o := .tup [.str "remove", .ref tw, .int (rn : Int)]) hu
        exact fin (dd := deedD wl x (.rem rn)) (((m59.trans ma).trans mb).tx eu) ⟨u, _, rfl, upd_same, by show 3 ≤ 100000; decide, .cons rfl (.cons (rep_ex eu (rep_mv ((m59.trans ma).trans mb) nHS nHc rw_)) (.cons rfl .nil))⟩ (.inr ⟨wl, _, x, .rem rn, rfl, ch, by show rn < xs.length; omega⟩)
      · have hraa := ma.fr _ _ aS.1 aS.2 hra9
        refine ⟨_, rfl, dr_go (m := (xs.length : Int)) (Evl.ea_cons (Evl.ev_var rfl) (Evl.ea_cons (len (Ex.refl _) hraa rfl) Evl.ea_nil)) ma.z (by omega) (by omega) fun Hb r mb r0 r1 => ?_⟩
        have hrab := mb.fr _ _ aS.1 aS.2 hraa
        refine dr_go (m := (xs.length : Int)) (Evl.ea_cons (Evl.ev_var rfl) (Evl.ea_cons (len (Ex.refl _) hrab rfl) Evl.ea_nil)) mb.z (by omega) (by omega) fun Hc r2 mc r20 r21 => ⟨by show 4 ≤ sizeLine; decide, fun u hu => ?_⟩
        obtain ⟨rn, rfl⟩ := Int.eq_ofNat_of_zero_le r0
        obtain ⟨rm, rfl⟩ := Int.eq_ofNat_of_zero_le r20
        have eu := Ex.new (o := .tup [.str "move", .ref tw, .int (rn : Int), .int (rm : Int)]) hu
        have mm := ((m59.trans ma).trans mb).trans mc
        exact fin (dd := deedD wl x (.mov rn rm)) (mm.tx eu) ⟨u, _, rfl, upd_same, by show 4 ≤ 100000; decide, .cons rfl (.cons (rep_ex eu (rep_mv mm nHS nHc rw_)) (.cons rfl (.cons rfl .nil)))⟩ (.inr ⟨wl, _, x, .mov rn rm, rfl, ch, by show rn < xs.length ∧ rm < xs.length; omega⟩)
end
end Pk

namespace Pk
open PySem PySem.Spec PyProof.Rows L2 Ssb
open Evl (Ex Ev EvT EvL EvA EvU)
/-! ### what the law's data and deeds are -/
def Cons (ne : Bool) (rs : List (Int × List Int)) : Prop := ∀ r ∈ rs, ne = false → r.2 = []
def cnt (rs : List (Int × List Int)) : Nat := (rs.map fun r => 1 + r.2.length).sum
theorem kids_none (ne : Bool) : kids (shO ne) none = ([("rows" : Str)] : List Str) := by cases ne <;> decide +kernel
theorem kids_rows (ne : Bool) : kids (shO ne) (some ("rows" : Str)) = if ne then ([("below" : Str)] : List Str) else [] := by cases ne <;> decide +kernel
theorem kids_below (ne : Bool) : kids (shO ne) (some "below") = [] := by cases ne <;> decide +kernel
theorem rowsS_sh (ne : Bool) : rowsS (shO ne) = (("rows", none, []) : Ro) :: if ne then [(("below", some "rows", []) : Ro)] else [] := by cases ne <;> rfl
theorem ok_sh (ne : Bool) : okSh (shO ne) := by
  have wr : isW "rows" := ⟨by decide +kernel, by decide +kernel, by decide +kernel⟩
  have wb : isW "below" := ⟨by decide +kernel, by decide +kernel, by decide +kernel⟩
  have f0 : okFl [] := ⟨by decide, List.nodup_nil, fun p hp => nomatch hp⟩
  refine ⟨by show 1 ≤ 2; decide, by rw [rowsS_sh]; cases ne <;> decide +kernel, fun p hp => ?_⟩
  rw [List.mem_singleton.mp hp]
  refine ⟨wr, f0, by cases ne <;> decide, fun q hq => ?_⟩
  cases ne with
  | false => cases hq
  | true => rw [List.mem_singleton.mp hq]; exact ⟨wb, f0⟩
theorem sh_d (ne : Bool) : shD (shapeD ne) (shO ne) := by
  have l2 : ∀ {d1 d2 : D}, List.lookup ("inner" : Str) [(("fields" : Str), d1), (("inner" : Str), d2)] = some d2 := by
    intro d1 d2
    rw [lk_cons, if_neg (by decide +kernel), lk_cons, if_pos rfl]
  have l1 : ∀ {d1 d2 : D}, List.lookup ("fields" : Str) [(("fields" : Str), d1), (("inner" : Str), d2)] = some d1 := by
    intro d1 d2
    rw [lk_cons, if_pos rfl]
  refine ⟨_, rfl, .cons ⟨rfl, _, inD ne, rfl, rfl, l1, l2, ?_⟩ .nil⟩
  cases ne with
  | false => exact .nil
  | true => exact .cons ⟨rfl, _, rfl, rfl, l1, l2⟩ .nil
theorem leaf_wf (m : Nat) (i : Int) : wfR (m + 1) (leafD i) := ⟨_, [], rfl, lkR3, fun p hp => nomatch hp⟩
theorem row_wf (m : Nat) (ne : Bool) (r : Int × List Int) : wfR (m + 2) (rowO ne r) := by
  refine ⟨_, lsO ne r.2, rfl, lkR3, fun p hp => ?_⟩
  cases ne with
  | false => cases hp
  | true =>
    rw [List.mem_singleton.mp hp]
    refine ⟨_, rfl, fun d hd => ?_⟩
    obtain ⟨i, _, rfl⟩ := List.mem_map.mp hd
    exact leaf_wf m i
theorem data_wf (ne b : Bool) (rs : List (Int × List Int)) : wfR 3 (dataD ne b rs) := by
  refine ⟨_, _, rfl, lkD2, fun p hp => ?_⟩
  rw [List.mem_singleton.mp hp]
  refine ⟨_, rfl, fun d hd => ?_⟩
  obtain ⟨r, _, rfl⟩ := List.mem_map.mp hd
  exact row_wf 0 ne r
theorem leaf_n (m : Nat) (i : Int) : rowsN (m + 1) (leafD i) = 0 := by
  show rowsN (m + 1) (.dic _) = 0
  rw [rowsN_eq (ls := []) lkR3]; rfl
theorem leaves_n (m : Nat) (bs : List Int) : ((bs.map leafD).map (rowsN (m + 1))).sum = 0 := by
  induction bs with
  | nil => rfl
  | cons b bs ih => rw [List.map_cons, List.map_cons, List.sum_cons, ih, leaf_n]; rfl
theorem row_n (m : Nat) (ne : Bool) (r : Int × List Int) (h : ne = false → r.2 = []) : rowsN (m + 2) (rowO ne r) = (r.2.length : Int) := by
  show rowsN (m + 2) (.dic _) = _
  rw [rowsN_eq (ls := lsO ne r.2) lkR3]
  cases ne with
  | false => rw [h rfl]; rfl
  | true =>
    show (rowsL (m + 1) (.lst (r.2.map leafD))) + 0 = _
    show ((r.2.map leafD).length : Int) + ((r.2.map leafD).map (rowsN (m + 1))).sum + 0 = _
    rw [leaves_n, List.length_map]; omega
theorem rows_n (ne : Bool) : ∀ (rs : List (Int × List Int)), Cons ne rs → (((rs.map (rowO ne)).length : Nat) : Int) + ((rs.map (rowO ne)).map (rowsN 2)).sum = (cnt rs : Int)
  | [], _ => rfl
  | r :: rs, h => by
    have ih := rows_n ne rs fun x hx => h x (List.mem_cons_of_mem _ hx)
    have e : cnt (r :: rs) = 1 + r.2.length + cnt rs := by unfold cnt; rw [List.map_cons, List.sum_cons]
    rw [List.map_cons, List.length_cons, List.map_cons, List.sum_cons, row_n 0 ne r (h r List.mem_cons_self), e]
    omega
theorem data_n (ne b : Bool) (rs : List (Int × List Int)) (h : Cons ne rs) : rowsN 3 (dataD ne b rs) = (cnt rs : Int) := by
  show rowsN 3 (.dic _) = _
  rw [rowsN_eq (ls := [("rows", .lst (rs.map (rowO ne)))]) lkD2]
  show (((rs.map (rowO ne)).length : Nat) : Int) + ((rs.map (rowO ne)).map (rowsN 2)).sum + 0 = _
  rw [rows_n ne rs h]; omega
theorem nd3 : (["id", "fields", "lists"] : List Str).Nodup := by decide +kernel
theorem nd2 : (["flags", "lists"] : List Str).Nodup := by decide +kernel
theorem nd1 (k : Str) : [k].Nodup := by simp
theorem leaf_pl (n : Nat) (i : Int) : pl (n + 2) (leafD i) := by
  refine ⟨nd3, fun p hp => ?_⟩
  rcases List.mem_cons.mp hp with rfl | hp
  · trivial
  · rcases List.mem_cons.mp hp with rfl | hp
    · exact ⟨List.nodup_nil, fun p hp => nomatch hp⟩
    · rw [List.mem_singleton.mp hp]; exact ⟨List.nodup_nil, fun p hp => nomatch hp⟩
theorem row_pl (n : Nat) (ne : Bool) (r : Int × List Int) : pl (n + 5) (rowO ne r) := by
  refine ⟨nd3, fun p hp => ?_⟩
  rcases List.mem_cons.mp hp with rfl | hp
  · trivial
  · rcases List.mem_cons.mp hp with rfl | hp
    · exact ⟨List.nodup_nil, fun p hp => nomatch hp⟩
    · rw [List.mem_singleton.mp hp]
      cases ne with
      | false => exact ⟨List.nodup_nil, fun p hp => nomatch hp⟩
      | true =>
        refine ⟨nd1 _, fun p hp => ?_⟩
        rw [List.mem_singleton.mp hp]
        intro x hx
        obtain ⟨i, _, rfl⟩ := List.mem_map.mp hx
        exact leaf_pl n i
theorem data_pl (n : Nat) (ne b : Bool) (rs : List (Int × List Int)) : pl (n + 8) (dataD ne b rs) := by
  refine ⟨nd2, fun p hp => ?_⟩
  rcases List.mem_cons.mp hp with rfl | hp
  · refine ⟨nd1 _, fun p hp => ?_⟩
    rw [List.mem_singleton.mp hp]; trivial
  · rw [List.mem_singleton.mp hp]
    refine ⟨nd1 _, fun p hp => ?_⟩
    rw [List.mem_singleton.mp hp]
    intro x hx
    obtain ⟨r, _, rfl⟩ := List.mem_map.mp hx
    exact row_pl n ne r
theorem pl_dpt : ∀ {n : Nat} {d : D}, pl n d → 1 ≤ n → dpt n d ∨ True := fun _ _ => .inr trivial
theorem leaf_dp (n : Nat) (i : Int) : dpt (n + 2) (leafD i) := by
  intro p hp
  rcases List.mem_cons.mp hp with rfl | hp
  · trivial
  · rcases List.mem_cons.mp hp with rfl | hp
    · exact fun p hp => nomatch hp
    · rw [List.mem_singleton.mp hp]; exact fun p hp => nomatch hp
theorem row_dp (n : Nat) (ne : Bool) (r : Int × List Int) : dpt (n + 5) (rowO ne r) := by
  intro p hp
  rcases List.mem_cons.mp hp with rfl | hp
  · trivial
  · rcases List.mem_cons.mp hp with rfl | hp
    · exact fun p hp => nomatch hp
    · rw [List.mem_singleton.mp hp]
      cases ne with
      | false => exact fun p hp => nomatch hp
      | true =>
        intro p hp
        rw [List.mem_singleton.mp hp]
        intro x hx
        obtain ⟨i, _, rfl⟩ := List.mem_map.mp hx
        exact leaf_dp n i
theorem data_dp (n : Nat) (ne b : Bool) (rs : List (Int × List Int)) : dpt (n + 8) (dataD ne b rs) := by
  intro p hp
  rcases List.mem_cons.mp hp with rfl | hp
  · intro p hp
    rw [List.mem_singleton.mp hp]; trivial
  · rw [List.mem_singleton.mp hp]
    intro p hp
    rw [List.mem_singleton.mp hp]
    intro x hx
    obtain ⟨r, _, rfl⟩ := List.mem_map.mp hx
    exact row_dp n ne r
theorem rep_down {H : Hp} : ∀ {m n : Nat} {S : Addr → Prop} {d : D} {v : V}, dpt m d → Rep H n S d v → Rep H m S d v
  | 0, _, _, _, _, h, _ => h.elim
  | _, 0, _, _, _, _, h => h.elim
  | m + 1, n + 1, S, d, v, hd, h => by
    cases d with
    | non => exact h
    | bl b => exact h
    | int i => exact h
    | str s => exact h
    | tup l => exact hd.elim
    | lst l =>
      obtain ⟨a, xs, e, s, ha, hl, p⟩ := h
      exact ⟨a, xs, e, s, ha, hl, pair_of (pair_len p) fun i d x h1 h2 => by
        obtain ⟨y, hy, r⟩ := pair_at p h1
        rw [h2] at hy; cases hy
        exact rep_down (hd d (List.mem_of_getElem? h1)) r⟩
    | dic l =>
      obtain ⟨a, es, e, s, ha, hl, p⟩ := h
      exact ⟨a, es, e, s, ha, hl, pair_of (pair_len p) fun i d x h1 h2 => by
        obtain ⟨y, hy, r⟩ := pair_at p h1
        rw [h2] at hy; cases hy
        exact ⟨r.1, rep_down (hd d (List.mem_of_getElem? h1)) r.2⟩⟩
theorem kn_N : ∀ {n : Nat} {d : D}, kn n d → kN n d
  | 0, d, _ => by cases d <;> trivial
  | n + 1, .non, _ => trivial
  | n + 1, .bl _, _ => trivial
  | n + 1, .int _, _ => trivial
  | n + 1, .str _, _ => trivial
  | n + 1, .lst l, h => fun x hx => kn_N (h x hx)
  | n + 1, .tup l, h => fun x hx => kn_N (h x hx)
  | n + 1, .dic l, h => ⟨h.1, fun p hp => kn_N (h.2 p hp)⟩
theorem deed_kn {w : List D} {x : D} {o : Op} (hw : ∀ y ∈ w, kn 9 y) (hx : kn 10 x) : kn 11 (deedD w x o) := by
  have tw : kn 10 (.tup w) := hw
  have tr : ∀ {n : Nat} {s : Str}, kn n (.str s) := by intro n s; cases n <;> trivial
  have ti : ∀ {n : Nat} {s : Int}, kn n (.int s) := by intro n s; cases n <;> trivial
  have c : ∀ {a : D} {l : List D}, kn 10 a → (∀ y ∈ l, kn 10 y) → ∀ y ∈ a :: l, kn 10 y := fun ha hl y hy => by
    rcases List.mem_cons.mp hy with rfl | hy
    · exact ha
    · exact hl y hy
  have z : ∀ y ∈ ([] : List D), kn 10 y := fun y hy => nomatch hy
  cases o with
  | app => exact c tr (c tw (c hx z))
  | ins i => exact c tr (c tw (c ti (c hx z)))
  | cut => exact c tr (c tw z)
  | rem i => exact c tr (c tw (c ti z))
  | mov i j => exact c tr (c tw (c ti (c ti z)))
/-! ### rows of the shape -/
theorem leaf_ok (ne : Bool) (m : Nat) (i : Int) (h0 : 0 ≤ i) (h1 : i ≤ 1000000) : okRow (shO ne) m ("below", some "rows", []) (leafD i) i := by
  refine ⟨_, [], [], rfl, rfl, lkR1, h0, h1, lkR2, ⟨rfl, fun p hp => nomatch hp⟩, lkR3, by show 0 = (kids (shO ne) (some "below")).length; rw [kids_below]; rfl, fun r' hr' hp => ?_⟩
  rw [rowsS_sh] at hr'
  rcases List.mem_cons.mp hr' with rfl | hr'
  · cases hp
  · cases ne with
    | false => cases hr'
    | true =>
      rw [List.mem_singleton.mp hr'] at hp
      have hp : (some "rows" : Option Str) = some "below" := hp
      exact absurd (Option.some.inj hp) (by decide +kernel)
theorem below_ok (m : Nat) (bs : List Int) (nd : bs.Nodup) (l : bs.length ≤ 400) (h : ∀ i ∈ bs, 0 ≤ i ∧ i ≤ 1000000) : okRows (shO true) (m + 1) ("below", some "rows", []) (.lst (bs.map leafD)) :=
  ⟨bs.map leafD, bs, rfl, nd, by rw [List.length_map]; exact l, pair_of (by rw [List.length_map]) fun i d x h1 h2 => by
    rw [List.getElem?_map, h2] at h1
    cases h1
    have := h x (List.mem_of_getElem? h2)
    exact leaf_ok true m x this.1 this.2⟩
theorem row_ok (ne : Bool) (m : Nat) (r : Int × List Int) (h0 : 0 ≤ r.1) (h1 : r.1 ≤ 1000000) (nd : r.2.Nodup) (l : r.2.length ≤ 400) (h : ∀ i ∈ r.2, 0 ≤ i ∧ i ≤ 1000000) : okRow (shO ne) (m + 1) ("rows", none, []) (rowO ne r) r.1 := by
  refine ⟨_, [], lsO ne r.2, rfl, rfl, lkR1, h0, h1, lkR2, ⟨rfl, fun p hp => nomatch hp⟩, lkR3, ?_, fun r' hr' hp => ?_⟩
  · show _ = (kids (shO ne) (some "rows")).length
    rw [kids_rows]
    cases ne <;> rfl
  · rw [rowsS_sh] at hr'
    rcases List.mem_cons.mp hr' with rfl | hr'
    · cases hp
    · cases ne with
      | false => cases hr'
      | true =>
        rw [List.mem_singleton.mp hr']
        exact ⟨_, lkOne, below_ok m r.2 nd l h⟩
theorem data_ok (ne b : Bool) {tot : Nat} {rs : List (Int × List Int)} (B : Big ne tot rs) : okD ["on"] (shO ne) (dataD ne b rs) := by
  refine ⟨_, _, _, rfl, rfl, lkD1, rfl, fun x hx => ?_, lkD2, ⟨by rw [kids_none]; rfl, fun r' hr' hp => ?_⟩, data_wf ne b rs⟩
  · rw [List.mem_singleton.mp hx]; exact ⟨b, lkOne⟩
  · rw [rowsS_sh] at hr'
    rcases List.mem_cons.mp hr' with rfl | hr'
    · refine ⟨_, lkOne, rs.map (rowO ne), rs.map (·.1), rfl, B.nd, by rw [List.length_map]; have := B.few; omega, pair_of (by rw [List.length_map, List.length_map]) fun i d x h1 h2 => ?_⟩
      rw [List.getElem?_map] at h1 h2
      cases hr : rs[i]? with
      | none => rw [hr] at h1; cases h1
      | some r =>
        rw [hr] at h1 h2
        cases h1; cases h2
        obtain ⟨a1, a2, a3, a4, a5, _⟩ := B.r r (List.mem_of_getElem? hr)
        exact row_ok ne 0 r a1 (by omega) a3 (by omega) fun i hi => ⟨(a4 i hi).1, by have := (a4 i hi).2; omega⟩
    · cases ne with
      | false => cases hr'
      | true =>
        rw [List.mem_singleton.mp hr'] at hp
        cases hp
/-! ### counts -/
theorem cnt_perm {a b : List (Int × List Int)} (h : a.Perm b) : cnt a = cnt b := (h.map _).sum_nat
theorem cnt_sub {a b : List (Int × List Int)} (h : a.Sublist b) : cnt a ≤ cnt b := by
  unfold cnt
  induction h with
  | slnil => exact Nat.le_refl _
  | cons x h ih => rw [List.map_cons, List.sum_cons]; omega
  | cons_cons x h ih => rw [List.map_cons, List.map_cons, List.sum_cons, List.sum_cons]; omega
theorem cnt_set {r r' : Int × List Int} : ∀ {rs : List (Int × List Int)} {i : Nat}, rs[i]? = some r → cnt (rs.set i r') + r.2.length = cnt rs + r'.2.length
  | [], i, h => by simp at h
  | x :: rs, 0, h => by
    cases h
    show cnt (r' :: rs) + _ = cnt (r :: rs) + _
    unfold cnt
    rw [List.map_cons, List.map_cons, List.sum_cons, List.sum_cons]; omega
  | x :: rs, i + 1, h => by
    have ih := cnt_set (r' := r') (rs := rs) (i := i) (by simpa using h)
    show cnt (x :: rs.set i r') + _ = cnt (x :: rs) + _
    unfold cnt at ih ⊢
    rw [List.map_cons, List.map_cons, List.sum_cons, List.sum_cons]; omega
theorem run_count {α : Type} {o : Op} {x : α} {l : List α} : (o.new = true → (o.run x l).length = l.length + 1) ∧ (o.new = false → (o.run x l).length ≤ l.length) :=
  ⟨fun h => (run_new h).length_eq, fun h => by
    obtain ⟨l', p, s⟩ := run_old (x := x) (l := l) h
    rw [p.length_eq]; exact s.length_le⟩
theorem run_mem {α : Type} {o : Op} {x y : α} {l : List α} (h : y ∈ o.run x l) : (o.new = true ∧ y = x) ∨ y ∈ l := by
  cases hn : o.new with
  | true =>
    rcases List.mem_cons.mp ((run_new hn).mem_iff.mp h) with h | h
    · exact .inl ⟨rfl, h⟩
    · exact .inr h
  | false =>
    obtain ⟨l', p, s⟩ := run_old (x := x) (l := l) hn
    exact .inr (s.subset (p.mem_iff.mp h))
end Pk

namespace Pk
open PySem PySem.Spec PyProof.Rows L2 Ssb
open Evl (Ex Ev EvT EvL EvA EvU)
def ansV (o : Op) (a b : Int) : V := if (o.new && !decide (a + 1 + b ≤ 300)) = true then .str "row" else .non
theorem ans_or {o : Op} {a b : Int} : ansV o a b = .non ∨ ansV o a b = .str "row" := by
  unfold ansV
  by_cases h : (o.new && !decide (a + 1 + b ≤ 300)) = true
  · rw [if_pos h]; exact .inr rfl
  · rw [if_neg h]; exact .inl rfl
theorem ans_iff {o : Op} {tot k c : Nat} (h1 : o.new = true → c = tot + 1 + k) (h2 : o.new = false → c ≤ tot) (h : tot ≤ 300) : ansV o (tot : Int) (k : Int) = .non ↔ c ≤ 300 := by
  unfold ansV
  cases hn : o.new with
  | true =>
    have := h1 hn
    by_cases q : (tot : Int) + 1 + (k : Int) ≤ 300
    · rw [decide_eq_true q, if_neg (by decide)]; exact ⟨fun _ => by omega, fun _ => rfl⟩
    · rw [decide_eq_false q, if_pos (by decide)]; exact ⟨(fun z => nomatch z), fun z => by omega⟩
  | false =>
    have := h2 hn
    rw [if_neg (by rw [Bool.false_and]; decide)]
    exact ⟨fun _ => by omega, fun _ => rfl⟩
theorem law_pure {ne : Bool} {tot : Nat} {rs : List (Int × List Int)} {dd : D} (B : Big ne tot rs) (h : LawDeed ne rs dd) :
    ∃ (b' : Bool) (rs' : List (Int × List Int)) (ans : V), Does (dataD ne false rs) dd (dataD ne b' rs') ∧ Reas (shO ne) ["on"] (dataD ne false rs) dd ans ∧ (ans = .non ∨ ans = .str "row") ∧ Cons ne rs' ∧ (tot ≤ 300 → (ans = .non ↔ cnt rs' ≤ 300)) ∧ kn 11 dd := by
  have cons : Cons ne rs := fun r hr => (B.r r hr).2.2.2.2.2
  have hN : rowsN 3 (dataD ne false rs) = (tot : Int) := by rw [data_n ne false rs cons]; unfold cnt; rw [B.sum]
  have few := B.few
  rcases h with rfl | ⟨wl, n, x, o, rfl, ch, ho⟩
  · refine ⟨true, rs, .non, ?_, .flag List.mem_cons_self, .inl rfl, cons, fun h3 => ⟨fun _ => by unfold cnt; rw [B.sum]; exact h3, fun _ => rfl⟩, ?_⟩
    · exact Does.flag (L := [("flags", .dic [("on", .bl false)]), ("lists", .dic [("rows", .lst (rs.map (rowO ne)))])]) (i := 0) (fs := [("on", .bl false)]) (j := 0) nd2 rfl (nd1 _) rfl (by decide)
    · intro y hy
      rcases List.mem_cons.mp hy with rfl | hy
      · trivial
      · rw [List.mem_singleton.mp hy]; trivial
  rcases ch with ⟨rfl, rfl, bs, rfl, hb0, hb3, hbn, hbb⟩ | ⟨rfl, i, r, hr, rfl, rfl, rfl⟩
  · have wh : Where (dataD ne false rs) [.str "rows"] (fun y => .dic [("flags", .dic [("on", .bl false)]), ("lists", .dic [("rows", y)])]) (rs.map (rowO ne)) :=
      .inl ⟨"rows", [("flags", .dic [("on", .bl false)]), ("lists", .dic [("rows", .lst (rs.map (rowO ne)))])], 1, [("rows", .lst (rs.map (rowO ne)))], 0, rfl, rfl, nd2, rfl, nd1 _, rfl, rfl⟩
    have xn : rowsN 3 (rowO ne (1000000, bs)) = (bs.length : Int) := row_n 1 ne _ hb0
    refine ⟨false, o.run (1000000, bs) rs, ansV o (tot : Int) (bs.length : Int), ?_, ?_, ans_or, fun q hq hne => ?_, ans_iff (fun hn => ?_) (fun hn => ?_), deed_kn (fun y hy => by rw [List.mem_singleton.mp hy]; trivial) (pl_kn (row_pl 5 ne _))⟩
    · have := Does.list (x := rowO ne (1000000, bs)) o wh (by rw [List.length_map]; exact ho) (by rw [List.length_map]; omega) fun _ => ⟨row_pl 5 ne _, row_dp 2 ne _⟩
      rw [← run_map] at this
      exact this
    · have := Reas.list (s := shO ne) (fl := ["on"]) (x := rowO ne (1000000, bs)) (r := ("rows", none, [])) (id := 1000000) (ids := rs.map (·.1)) o wh (.inl ⟨rfl, by rw [kids_none]; exact List.mem_cons_self⟩) (by rw [List.length_map]; exact ho) (by rw [List.length_map]; omega) fun _ => ⟨by rw [rowsS_sh]; exact List.mem_cons_self, row_ok ne 0 (1000000, bs) (by show (0 : Int) ≤ 1000000; decide) (by show (1000000 : Int) ≤ 1000000; decide) hbn (by show bs.length ≤ 400; omega) fun i hi => ⟨(hbb i hi).1, by have := (hbb i hi).2; omega⟩, row_wf 1 ne _, ?_, B.nd, fun hm => ?_⟩
      · rw [hN, xn] at this
        exact this
      · refine pair_of (by rw [List.length_map, List.length_map]) fun i d x h1 h2 => ?_
        rw [List.getElem?_map] at h1 h2
        cases hr : rs[i]? with
        | none => rw [hr] at h1; cases h1
        | some r =>
          rw [hr] at h1 h2
          cases h1; cases h2
          exact ⟨_, rfl, lkR1⟩
      · obtain ⟨r, hr, e⟩ := List.mem_map.mp hm
        have := (B.r r hr).2.1
        omega
    · rcases run_mem hq with ⟨_, rfl⟩ | hq
      · exact hb0 hne
      · exact cons q hq hne
    · rw [cnt_perm (run_new hn)]
      have := B.sum
      unfold cnt
      rw [List.map_cons, List.sum_cons, this]
      show 1 + bs.length + tot = _
      omega
    · obtain ⟨l', p, s⟩ := run_old (x := ((1000000 : Int), bs)) (l := rs) hn
      rw [cnt_perm p]
      have h1 := cnt_sub s
      have : cnt rs = tot := B.sum
      omega
  · have hil := (List.getElem?_eq_some_iff.mp hr).1
    obtain ⟨a1, a2, a3, a4, a5, _⟩ := B.r r (List.mem_of_getElem? hr)
    have hrow : (rs.map (rowO true))[i]? = some (rowO true r) := by rw [List.getElem?_map, hr]; rfl
    have wh : Where (dataD true false rs) [.str "rows", .int r.1, .str "below"] (fun y => .dic [("flags", .dic [("on", .bl false)]), ("lists", .dic [("rows", .lst ((rs.map (rowO true)).set i (rowD r.1 [] [("below", y)])))])]) (r.2.map leafD) := by
      refine .inr ⟨"rows", "below", r.1, [("flags", .dic [("on", .bl false)]), ("lists", .dic [("rows", .lst (rs.map (rowO true)))])], 1, [("rows", .lst (rs.map (rowO true)))], 0, rs.map (rowO true), i, [("id", .int r.1), ("fields", .dic []), ("lists", .dic [("below", .lst (r.2.map leafD))])], 2, [("below", .lst (r.2.map leafD))], 0, rfl, rfl, nd2, rfl, nd1 _, rfl, by rw [List.length_map]; omega, hrow, fun k' q hq => ?_, nd3, rfl, nd1 _, rfl, rfl⟩
      rw [List.getElem?_map] at hq
      cases hr' : rs[k']? with
      | none => rw [hr'] at hq; cases hq
      | some r' =>
        rw [hr'] at hq
        cases hq
        refine ⟨_, r'.1, rfl, lkR1, fun e => ?_, fun e => ?_⟩
        · have h1 : (rs.map (·.1))[k']? = some r'.1 := by rw [List.getElem?_map, hr']; rfl
          have h2 : (rs.map (·.1))[i]? = some r.1 := by rw [List.getElem?_map, hr]; rfl
          rw [e] at h1
          obtain ⟨i1, j1⟩ := List.getElem?_eq_some_iff.mp h1
          obtain ⟨i2, j2⟩ := List.getElem?_eq_some_iff.mp h2
          rcases Nat.lt_trichotomy k' i with lt | lt | lt
          · exact absurd (j1.trans j2.symm) (List.pairwise_iff_getElem.mp B.nd _ _ i1 i2 lt)
          · exact lt
          · exact absurd (j2.trans j1.symm) (List.pairwise_iff_getElem.mp B.nd _ _ i2 i1 lt)
        · subst e
          rw [hr] at hr'; cases hr'; rfl
    have xn : rowsN 3 (leafD 1000000) = ((0 : Nat) : Int) := leaf_n 2 _
    have lr : (o.run (1000000 : Int) r.2).length ≤ r.2.length + 1 := run_len
    refine ⟨false, rs.set i (r.1, o.run 1000000 r.2), ansV o (tot : Int) ((0 : Nat) : Int), ?_, ?_, ans_or, fun q hq hne => (by cases hne), ans_iff (fun hn => ?_) (fun hn => ?_), deed_kn (fun y hy => ?_) (pl_kn (leaf_pl 8 _))⟩
    · have := Does.list (x := leafD 1000000) o wh (by rw [List.length_map]; exact ho) (by rw [List.length_map]; omega) fun _ => ⟨leaf_pl 8 _, leaf_dp 2 _⟩
      rw [← run_map] at this
      have e : dataD true false (rs.set i (r.1, o.run 1000000 r.2)) = .dic [("flags", .dic [("on", .bl false)]), ("lists", .dic [("rows", .lst ((rs.map (rowO true)).set i (rowD r.1 [] [("below", .lst ((o.run 1000000 r.2).map leafD))])))])] := by
        unfold dataD
        rw [List.map_set]
        rfl
      rw [e]
      exact this
    · have := Reas.list (s := shO true) (fl := ["on"]) (x := leafD 1000000) (r := ("below", some "rows", [])) (id := 1000000) (ids := r.2) o wh (.inr ⟨"rows", r.1, rfl, by rw [kids_none]; exact List.mem_cons_self, by rw [kids_rows]; exact List.mem_cons_self, a1, by omega⟩) (by rw [List.length_map]; exact ho) (by rw [List.length_map]; omega) fun _ => ⟨by rw [rowsS_sh]; exact List.mem_cons_of_mem _ List.mem_cons_self, leaf_ok true 1 _ (by decide) (by decide), leaf_wf 2 _, ?_, a3, fun hm => ?_⟩
      · rw [hN, xn] at this
        exact this
      · refine pair_of (by rw [List.length_map]) fun j d x h1 h2 => ?_
        rw [List.getElem?_map, h1] at h2
        cases h2
        exact ⟨_, rfl, lkR1⟩
      · have := (a4 _ hm).2
        omega
    · have h1 := cnt_set (r' := (r.1, o.run 1000000 r.2)) hr
      have h2 := (run_count (x := (1000000 : Int)) (l := r.2)).1 hn
      have h3 : cnt rs = tot := B.sum
      have h1 : cnt (rs.set i (r.1, o.run 1000000 r.2)) + r.2.length = cnt rs + (o.run (1000000 : Int) r.2).length := h1
      omega
    · have h1 := cnt_set (r' := (r.1, o.run 1000000 r.2)) hr
      have h2 := (run_count (x := (1000000 : Int)) (l := r.2)).2 hn
      have h3 : cnt rs = tot := B.sum
      have h1 : cnt (rs.set i (r.1, o.run 1000000 r.2)) + r.2.length = cnt rs + (o.run (1000000 : Int) r.2).length := h1
      omega
    · rcases List.mem_cons.mp hy with rfl | hy
      · trivial
      · rcases List.mem_cons.mp hy with rfl | hy
        · trivial
        · rw [List.mem_singleton.mp hy]; trivial
end Pk

namespace Pk
open PySem PySem.Spec PyProof.Rows L2 Ssb
open Evl (Ex Ev EvT EvL EvA EvU)
section
variable {X : Cx} {nm : Str} {k j : Nat} {ps : List Str} {sp : Sp} {f : Addr} {fd : FuncData} {p pos : Pos} {e : Expr} {es : List Expr} {t : TA} {C : Addr}
theorem pmk (G : Mt X.prog X.w X.K X.mg X.base C "__init__" k ps sp f fd) (h1 : PySem.W.makesIn X.K C = true) (h2 : PySem.W.keepIn X.K (.ref C) = true) (h3 : X.mg nm = some (.ref C)) (hr : Room j X.A) (ha : PA X (e :: es) t) (hj : k + 1 ≤ j := by first | decide | omega) (hg : Gl X nm := by rfl) (hdb : (nm == ("__debug__" : Str)) = false := by decide)
    (he : starEach (e :: es) X.env = (false, eval e X.env) :: starEach es X.env := by rfl) (hpl : (backTo pos (starEach es X.env)).any (·.1) = false := by rfl) : PE X (.Call (.Name nm p) (e :: es) [] pos) (tMake C sp [] E0 t) :=
  pe_make ⟨h1, G.mt.at_, G.mt.fn, h2⟩ G.ok (hr.mono hj) hg h3 G.bd .nil pass0 ha hdb he hpl
end
theorem dd_tup {ne : Bool} {rs : List (Int × List Int)} {dd : D} (h : LawDeed ne rs dd) : ∃ l, dd = .tup l := by
  rcases h with rfl | ⟨wl, n, x, o, rfl, _⟩
  · exact ⟨_, rfl⟩
  · exact ⟨_, deed_form wl x o⟩
theorem outD_tup {b : Bool} {ans : V} {d : D} (hk : kN 10 d) : ∃ l, outD b ans d = .tup l ∧ kN 11 (.tup l) := by
  have z : ∀ {s : Str}, kN 10 (.str s) := by intro s; trivial
  cases b with
  | true =>
    refine ⟨[.str "limit", .int 300], rfl, fun x hx => ?_⟩
    rcases List.mem_cons.mp hx with rfl | hx
    · trivial
    · rw [List.mem_singleton.mp hx]; trivial
  | false =>
    by_cases h : ans = .non
    · refine ⟨[.str "told", d], by unfold outD; rw [if_neg (by decide), if_pos h], fun x hx => ?_⟩
      rcases List.mem_cons.mp hx with rfl | hx
      · trivial
      · rw [List.mem_singleton.mp hx]; exact hk
    · refine ⟨[.str "refused", .str "row"], by unfold outD; rw [if_neg (by decide), if_neg h], fun x hx => ?_⟩
      rcases List.mem_cons.mp hx with rfl | hx
      · trivial
      · rw [List.mem_singleton.mp hx]; trivial
theorem main_ok {l : PySem.W.OpenLaw} {w : World} {K : PySem.W.Frag} {mg : Str → Option Value} {fa C_Shape C_LimitExceeded C_InvalidDeed C_StayError C_FORMS : Addr} (T : Txt K mg C_Shape C_LimitExceeded C_InvalidDeed C_StayError C_FORMS) (R : Prg K mg C_Shape C_LimitExceeded C_InvalidDeed C_StayError C_FORMS) (hfa : mg "law" = some (.ref fa)) :
    ∃ fd : FuncData, (∀ (s : Shared) (v : Value), BindsTo s fd ⟨[v], []⟩ [("_law_script", v)]) ∧ ∀ base : Heap, K.In base → base.Ns mainGlobals mg → FnOk l.prog w K mg base CX0 60 fa fd ["_law_script"] (spLaw K) := by
  obtain ⟨f, fd, at_, F, kp⟩ := R.law
  have e := hfa.symm.trans at_
  cases e
  obtain ⟨oc, od, kV, doc, pm, an, cdv0, ct, osl, rfl, lk, hcd⟩ := F.ex
  refine ⟨PySem.W.fnOf "law" "law" (defArgs s_law) (defBody s_law) (defScope s_law) .none kV doc pm an cdv0 ct, fun s v => .of_eq rfl, fun base _ _ => ?_⟩
  obtain ⟨_, _, G__law_open⟩ := ok__law_open (P := l.prog) (w := w) (base := base) T R
  obtain ⟨_, _, G__law_draw⟩ := ok__law_draw (P := l.prog) (w := w) (base := base) T R
  obtain ⟨_, _, G__law_big_shape⟩ := ok__law_big_shape (P := l.prog) (w := w) (base := base) T R
  obtain ⟨_, _, G__law_big_rows⟩ := ok__law_big_rows (P := l.prog) (w := w) (base := base) T R
  obtain ⟨_, _, G__law_big_deed⟩ := ok__law_big_deed (P := l.prog) (w := w) (base := base) T R
  obtain ⟨_, _, G__law_applied⟩ := ok__law_applied (P := l.prog) (w := w) (base := base) T R
  obtain ⟨_, _, G__law_row_count⟩ := ok__law_row_count (P := l.prog) (w := w) (base := base) T R 3
  obtain ⟨_, _, G_Shape⟩ := ok_Shape_init (P := l.prog) (w := w) (base := base) T R
  obtain ⟨_, _, G__law_copy⟩ := ok__law_copy (P := l.prog) (w := w) (base := base) T R 11
  obtain ⟨_, _, G__law_told⟩ := ok__law_told (P := l.prog) (w := w) (base := base) T R
  refine F.ok sc_law (fun vs H Q E h => ?_) (fun cdv A outer s H vs Q E hr h => ?_)
  · obtain ⟨a, ns, rfl, _⟩ := h; rfl
  · obtain ⟨a, ns, rfl, hs, ns63, k⟩ := h
    refine ⟨_, (pss_cons (ps_set (i := 1) sc_law.nd rfl (Or.inl rfl) (pcl G__law_open hr (pa_cons (pv 0) pa_nil)))
  (pss_cons (ps_set (i := 2) sc_law.nd rfl (Or.inl rfl) (pe_op op_add pe_int (pcl G__law_draw hr (pa_cons (pv 1) (pa_cons pe_int pa_nil)))))
  (pss_cons (ps_set (i := 3) sc_law.nd rfl (Or.inl rfl) (pe_cmpR op_eq (pcl G__law_draw hr (pa_cons (pv 1) (pa_cons pe_int pa_nil))) pe_int (nomark _)))
  (pss_cons (ps_set (i := 4) sc_law.nd rfl (Or.inl rfl) (pcl G__law_big_shape hr (pa_cons (pv 3) pa_nil)))
  (pss_cons (ps_set (i := 5) sc_law.nd rfl (Or.inl rfl) (pe_disp (pps_cons pe_str (pe_disp (pps_cons pe_str pe_bl pps_nil) (by rfl) (by rfl) (fun z => by cases z) (by decide)) (pps_cons pe_str (pe_disp (pps_cons pe_str (pcl G__law_big_rows hr (pa_cons (pv 1) (pa_cons (pv 2) (pa_cons (pv 3) pa_nil)))) pps_nil) (by rfl) (by rfl) (fun z => by cases z) (by decide)) pps_nil)) (by rfl) (by rfl) (fun z => by cases z) (by decide)))
  (pss_cons (ps_set (i := 6) sc_law.nd rfl (Or.inl rfl) (pcl G__law_big_deed hr (pa_cons (pv 1) (pa_cons (pv 5) (pa_cons (pv 3) pa_nil)))))
  (pss_cons (ps_set (i := 7) sc_law.nd rfl (Or.inl rfl) (pcl G__law_applied hr (pa_cons (pv 5) (pa_cons (pv 6) pa_nil))))
  (pss_cons (ps_set (i := 8) sc_law.nd rfl (Or.inl rfl) (pe_tup (pa_cons pe_str (pa_cons (pv 7) pa_nil))))
  (Evl.pss_cut (ps_if (pt_cmpR op_gt (pcl G__law_row_count hr (pa_cons (pe_dget (hu_of hr) (pv 7) pe_str (fun _ _ => rfl)) pa_nil)) pe_int (nomark _)) (pss_one (ps_set (i := 8) sc_law.nd rfl (Or.inl rfl) (pe_tup (pa_cons pe_str (pa_cons pe_str pa_nil))))) pss_nil)
  (Evl.pss_cut (ps_if (pt_cmpR op_gt (pv 2) pe_int (nomark _)) (pss_one (ps_set (i := 8) sc_law.nd rfl (Or.inl rfl) (pe_tup (pa_cons pe_str (pa_cons pe_int pa_nil))))) pss_nil)
  (pss_cons (ps_set (i := 9) sc_law.nd rfl (Or.inl rfl) (pmk G_Shape T.mk_Shape T.kp_Shape T.at_Shape hr (pa_cons (pe_ix (r := rIxL K) ix_list (pv 4) pe_int (fun _ _ => rfl)) (pa_cons (pe_ix (r := rIxL K) ix_list (pv 4) pe_int (fun _ _ => rfl)) pa_nil))))
  (pss_cons (ps_set (i := 10) sc_law.nd rfl (Or.inl rfl) (pcl G__law_copy hr (pa_cons (pv 5) pa_nil)))
  (pss_cons (ps_set (i := 11) sc_law.nd rfl (Or.inl rfl) (pcl G__law_copy hr (pa_cons (pv 6) pa_nil)))
  (pss_cons (ps_if (pt_cmpR (r := rNeT) (op_neT hr.units) (pcl G__law_told hr (pa_cons (pv 9) (pa_cons (pv 10) (pa_cons (pv 11) pa_nil)))) (pv 8) (nomark _)) pss_never pss_nil)
  (pss_one (ps_ret (pe_and (pe_cmpR (r := rEqT) (op_eqT hr.units) (pv 10) (pv 5) (nomark _)) (pe_one (pe_cmpR (r := rEqT) (op_eqT hr.units) (pv 11) (pv 6) (nomark _)))))))))))))))))))), ?_⟩
    refine ⟨_, rfl, a, ns, rfl, hs, ns63, fun H1 S c st => ?_⟩
    refine gname_go ?_
    refine ⟨_, rfl, S, c, 6, rfl, st, by decide, by decide, fun H2 r m2 r0 r1 => ⟨_, _, rfl, rfl, ?_⟩⟩
    refine gname_go ?_
    refine ⟨_, rfl, S, c, 2, rfl, m2.z, by decide, by decide, fun H3 r2 m3 _ _ => ⟨rfl, ?_⟩⟩
    refine gname_go ?_
    dsimp only
    obtain ⟨tot, htot⟩ := Int.eq_ofNat_of_zero_le (show 0 ≤ 297 + r by omega)
    rw [htot]
    generalize decide (V.int r2 = V.int 1) = ne
    refine ⟨_, rfl, ne, rfl, fun H4 q4 fa4 sv e4 hq4 hfa4 rsv => ?_⟩
    refine gname_go ?_
    have z4 := m3.z.ex e4
    have t0 : 297 ≤ tot := by omega
    have t1 : tot ≤ 302 := by omega
    -- the data
    intro p1 hp1 p2 hp2
    refine ⟨upd_same, [(Sum.inr "on", .bl false)], rfl, by show 1 ≤ 15; decide, ?_⟩
    rw [merge_nd (acc := []) (by simp), List.nil_append]
    intro p3 hp3
    have n21 : p2 ≠ p1 := fun e => by rw [e, upd_same] at hp2; cases hp2
    have hp2' : H4 p2 = none := by rw [upd_ne n21] at hp2; exact hp2
    have n32 : p3 ≠ p2 := fun e => by rw [e, upd_same] at hp3; cases hp3
    rw [upd_ne n32, upd_ne n32] at hp3
    have n31 : p3 ≠ p1 := fun e => by rw [e, upd_same] at hp3; cases hp3
    have hp3' : H4 p3 = none := by rw [upd_ne n31] at hp3; exact hp3
    have p1S := z4.someS hp1
    have p2S := z4.someS hp2'
    have p3S := z4.someS hp3'
    have mc : Mv S c H4 (upd (upd (upd (upd H4 p1 (.dK [])) p2 (.dK [])) p2 (.dK [(Sum.inr "on", .bl false)])) p3 (.dK [])) := ((((Mv.new z4 hp1).mut hp2').mut hp2').mut hp3')
    have c1 : (upd (upd (upd (upd H4 p1 (.dK [])) p2 (.dK [])) p2 (.dK [(Sum.inr "on", .bl false)])) p3 (.dK [])) p1 = some (.dK []) := by rw [upd_ne n31.symm, upd_ne n21.symm, upd_ne n21.symm, upd_same]
    have c2 : (upd (upd (upd (upd H4 p1 (.dK [])) p2 (.dK [])) p2 (.dK [(Sum.inr "on", .bl false)])) p3 (.dK [])) p2 = some (.dK [(Sum.inr "on", .bl false)]) := by rw [upd_ne n32.symm, upd_same]
    have c3 : (upd (upd (upd (upd H4 p1 (.dK [])) p2 (.dK [])) p2 (.dK [(Sum.inr "on", .bl false)])) p3 (.dK [])) p3 = some (.dK []) := upd_same
    generalize (upd (upd (upd (upd H4 p1 (.dK [])) p2 (.dK [])) p2 (.dK [(Sum.inr "on", .bl false)])) p3 (.dK [])) = Hc at mc c1 c2 c3 ⊢
    refine ⟨_, rfl, _, rfl, _, rfl, S, c, tot, ne, rfl, mc.z, t0, t1, fun H5 rv rs m5 rr B => ?_⟩
    have d1 := m5.fr _ _ p1S.1 p1S.2 c1
    have d2 := m5.fr _ _ p2S.1 p2S.2 c2
    have d3 := m5.fr _ _ p3S.1 p3S.2 c3
    refine ⟨d3, [(Sum.inr "rows", rv)], rfl, by show 1 ≤ 15; decide, ?_⟩
    rw [merge_nd (acc := []) (by simp), List.nil_append]
    refine ⟨by rw [upd_ne n31.symm]; exact d1, [(Sum.inr "flags", .ref p2), (Sum.inr "lists", .ref p3)], rfl, by show 2 ≤ 15; decide, ?_⟩
    rw [merge_nd (acc := []) (by rw [List.nil_append]; exact inr_nd nd2), List.nil_append]
    have mE : Mv S c H4 (upd (upd H5 p3 (.dK [(Sum.inr "rows", rv)])) p1 (.dK [(Sum.inr "flags", .ref p2), (Sum.inr "lists", .ref p3)])) := ((mc.trans m5).mut hp3').mut hp1
    have rE : Rep (upd (upd H5 p3 (.dK [(Sum.inr "rows", rv)])) p1 (.dK [(Sum.inr "flags", .ref p2), (Sum.inr "lists", .ref p3)])) 10 (fun b => H4 b = none) (dataD ne false rs) (.ref p1) := by
      have nc1 : ∀ b, Hc b = none → b ≠ p1 := fun b hb z => by rw [z, c1] at hb; cases hb
      have nc3 : ∀ b, Hc b = none → b ≠ p3 := fun b hb z => by rw [z, c3] at hb; cases hb
      refine ⟨p1, _, rfl, hp1, upd_same, by show 2 ≤ 100000; decide, .cons ⟨rfl, p2, [(Sum.inr "on", .bl false)], rfl, ⟨hp2', n21⟩, by rw [upd_ne n21, upd_ne n32.symm]; exact d2, by show 1 ≤ 100000; decide, .cons ⟨rfl, rfl⟩ .nil⟩ (.cons ⟨rfl, p3, [(Sum.inr "rows", rv)], rfl, ⟨hp3', n31⟩, by rw [upd_ne n31, upd_same], by show 1 ≤ 100000; decide, .cons ⟨rfl, ?_⟩ .nil⟩ .nil)⟩
      refine rep_S (S := fun b => Hc b = none) (fun b hb => ⟨⟨mc.back hb, nc1 b hb⟩, nc3 b hb⟩) ?_
      refine rep_upd (o := .dK []) (by rw [upd_ne n31.symm]; exact d1) (fun _ z => nomatch z) nc1 (rep_upd d3 (fun _ z => nomatch z) nc3 rr)
    generalize (upd (upd H5 p3 (.dK [(Sum.inr "rows", rv)])) p1 (.dK [(Sum.inr "flags", .ref p2), (Sum.inr "lists", .ref p3)])) = HE at mE rE ⊢
    refine gname_go ?_
    have nS : ¬ H4 S = none := fun z => (z4.someS z).1 rfl
    have nc : ¬ H4 c = none := fun z => (z4.someS z).2 rfl
    have qS : (q4 ≠ S ∧ q4 ≠ c) ∧ fa4 ≠ S ∧ fa4 ≠ c := by
      obtain ⟨_, k0, cs0, hS, hc, _⟩ := id z4
      refine ⟨⟨fun e => ?_, fun e => ?_⟩, fun e => ?_, fun e => ?_⟩
      · rw [e, hS] at hq4; cases hq4
      · rw [e, hc] at hq4
        cases cs0 with
        | nil => cases hq4
        | cons x cs0 => cases hq4
      · rw [e, hS] at hfa4; cases hfa4
      · rw [e, hc] at hfa4
        cases cs0 with
        | nil => cases hfa4
        | cons x cs0 => cases hfa4
    have nS3 : ¬ H3 S = none := fun z => (m3.z.someS z).1 rfl
    have nc3 : ¬ H3 c = none := fun z => (m3.z.someS z).2 rfl
    refine ⟨_, rfl, _, rfl, _, rfl, S, c, .ref p1, ne, tot, rs, _, rfl, mE.z, rE, nS, nc, B, fun H7 t dd m7 rdd ld => ?_⟩
    refine gname_go ?_
    obtain ⟨b', rs', ans, does, reas, hans, cons', hiff, kdd⟩ := law_pure B ld
    have r7 := rep_mv m7 nS nc rE
    have mv47 := mE.trans m7
    have hq7 := mv47.fr _ _ qS.1.1 qS.1.2 hq4
    have hfa7 := mv47.fr _ _ qS.2.1 qS.2.2 hfa4
    have rsv7 := rep_mv mv47 nS3 nc3 rsv
    obtain ⟨ddl, hddl⟩ := dd_tup ld
    -- from here on nothing moves but what is new
    refine ⟨_, rfl, _, rfl, .ref p1, t, _, dd, _, _, _, rfl, r7, data_pl 2 ne false rs, rdd, does, fun H8 av e8 r8 => ?_⟩
    refine gname_go ?_
    have ra8 := rt_rep r8
    obtain ⟨lv, klv, rlv⟩ := rep_kidS (n := 9) ra8 lkD2
    have kd' : kn 10 (dataD ne b' rs') := pl_kn (data_pl 2 ne b' rs')
    have hN : rowsN 3 (dataD ne false rs) = (tot : Int) := by rw [data_n ne false rs fun r hr => (B.r r hr).2.2.2.2.2]; unfold cnt; rw [B.sum]
    have hN' : rowsN 3 (dataD ne b' rs') = (cnt rs' : Int) := data_n ne b' rs' cons'
    refine Evl.q_asgU (xs := [.str "told", av]) (Evl.eu_tup (Evl.ea_cons Evl.ev_c (Evl.ea_cons (Evl.ev_var rfl) Evl.ea_nil)) (by show 2 ≤ 100000; decide)) fun u0 H9 hu0 e9 hu9 => ?_
    have ra9 := rep_ex e9 ra8
    have told : Rep H9 11 (fun _ => True) (.tup [.str "told", dataD ne b' rs']) (.ref u0) := ⟨u0, _, rfl, hu9, by show 2 ≤ 100000; decide, .cons rfl (.cons (rep_S (fun _ _ => trivial) ra9) .nil)⟩
    have refd : ∀ {Hx : Hp} {u : Addr}, Hx u = some (.tup [.str "refused", .str "row"]) → Rep Hx 11 (fun _ => True) (.tup [.str "refused", .str "row"]) (.ref u) := fun h => ⟨_, _, rfl, h, by show 2 ≤ 100000; decide, .cons rfl (.cons rfl .nil)⟩
    have limd : ∀ {Hx : Hp} {u : Addr}, Hx u = some (.tup [.str "limit", .int 300]) → Rep Hx 11 (fun _ => True) (.tup [.str "limit", .int 300]) (.ref u) := fun h => ⟨_, _, rfl, h, by show 2 ≤ 100000; decide, .cons rfl (.cons rfl .nil)⟩
    refine Evl.q_cut (M := fun σ' Hx => ∃ du, σ' = [some (.ref a), some (.ref S), some (.int (tot : Int)), some (.bl ne), some (.ref q4), some (.ref p1), some (.ref t), some av, some du, none, none, none] ∧ Ex H9 Hx ∧ Rep Hx 11 (fun _ => True) (if cnt rs' ≤ 300 then .tup [.str "told", dataD ne b' rs'] else .tup [.str "refused", .str "row"]) du) ?_ fun σ' H10 pm => ?_
    · have cn : cntN 3 [("rows", .lst (rs'.map (rowO ne)))] = (cnt rs' : Int) := by
        rw [← hN']
        exact (rowsN_eq (m := 2) lkD2).symm
      refine Evl.s_when (b := decide ((cnt rs' : Int) > 300)) (Evl.et_test (Evl.ev_op (ev_fn (Evl.ea_cons (ev_kid (Evl.ev_var rfl) Evl.ev_c (klv.ex e9)) Evl.ea_nil) fun Hx ex Q' q' => ⟨lv, 9, _, _, rfl, rep_ex (e9.trans ex) rlv, nd1 _, (kd'.2 _ (List.mem_cons_of_mem _ List.mem_cons_self)), ?_, fun Hy ey => by rw [cn]; exact q' Hy ey⟩) Evl.ev_c Evl.rv_I0)) (fun hb Hx ex => ?_) (fun hb Hx ex => ?_)
      · obtain ⟨l2, ls2, e2, hl2, hw2⟩ := data_wf ne b' rs'
        cases e2
        rw [lkD2] at hl2
        cases hl2
        exact hw2
      · have hb := of_decide_eq_true hb
        refine Evl.s_asgU (xs := [.str "refused", .str "row"]) (Evl.eu_tup (Evl.ea_cons Evl.ev_c (Evl.ea_cons Evl.ev_c Evl.ea_nil)) (by show 2 ≤ 100000; decide)) fun u Hy hu ey huy => ⟨.ref u, rfl, ex.trans ey, ?_⟩
        rw [if_neg (by omega)]
        exact refd huy
      · have hb := of_decide_eq_false hb
        refine ⟨.ref u0, rfl, ex, ?_⟩
        rw [if_pos (by omega)]
        exact rep_ex ex told
    obtain ⟨du, rfl, e10, rdu⟩ := pm
    refine Evl.q_cut (M := fun σ' Hx => ∃ du, σ' = [some (.ref a), some (.ref S), some (.int (tot : Int)), some (.bl ne), some (.ref q4), some (.ref p1), some (.ref t), some av, some du, none, none, none] ∧ Ex H9 Hx ∧ Rep Hx 11 (fun _ => True) (outD (!decide (rowsN 3 (dataD ne false rs) ≤ 300)) ans (dataD ne b' rs')) du) ?_ fun σ' H11 pm => ?_
    · refine Evl.s_when (b := decide ((tot : Int) > 300)) (Evl.et_test (Evl.ev_op (Evl.ev_var rfl) Evl.ev_c Evl.rv_I0)) (fun hb Hx ex => ?_) (fun hb Hx ex => ?_)
      · have hb := of_decide_eq_true hb
        refine Evl.s_asgU (xs := [.str "limit", .int 300]) (Evl.eu_tup (Evl.ea_cons Evl.ev_c (Evl.ea_cons Evl.ev_c Evl.ea_nil)) (by show 2 ≤ 100000; decide)) fun u Hy hu ey huy => ⟨.ref u, rfl, (e10.trans ex).trans ey, ?_⟩
        rw [hN, decide_eq_false (by omega)]
        exact limd huy
      · have hb := of_decide_eq_false hb
        refine ⟨du, rfl, e10.trans ex, ?_⟩
        have eo : outD (!decide (rowsN 3 (dataD ne false rs) ≤ 300)) ans (dataD ne b' rs') = (if cnt rs' ≤ 300 then .tup [.str "told", dataD ne b' rs'] else .tup [.str "refused", .str "row"]) := by
          rw [hN, decide_eq_true (by omega)]
          have := hiff (by omega)
          unfold outD
          rw [if_neg (by decide)]
          by_cases c : cnt rs' ≤ 300
          · rw [if_pos c, if_pos (this.mpr c)]
          · rw [if_neg c, if_neg (fun z => c (this.mp z))]
        rw [eo]
        exact rep_ex ex rdu
    obtain ⟨du, rfl, e11, rdu⟩ := pm
    -- the shape
    have e711 := (e8.trans e9).trans e11
    have hq11 := e711 _ _ hq7
    refine ⟨_, rfl, q4, _, 0, .ref fa4, rfl, rfl, Evl.sq_of hq11, rfl, _, rfl, q4, _, 1, sv, rfl, rfl, Evl.sq_of hq11, rfl, fun x dx hx hdx nxd => ?_⟩
    have old : ∀ b o, H11 b = some o → (upd (upd H11 dx (.own x)) x (.ins C_Shape dx [])) b = some o := fun b o h => by
      have n1 : b ≠ x := fun e => by rw [e, hx] at h; cases h
      have n2 : b ≠ dx := fun e => by rw [e, hdx] at h; cases h
      rw [upd_ne n1, upd_ne n2]; exact h
    have wOn : isW "on" := ⟨by decide +kernel, by decide +kernel, by decide +kernel⟩
    refine ⟨x, dx, fa4, ["on"], sv, 6, fun b => H3 b = none ∧ H11 b ≠ none, shapeD ne, shO ne, rfl, upd_same, old _ _ (e711 _ _ hfa7), by show 1 ≤ 2; decide, fun y hy => by rw [List.mem_singleton.mp hy]; exact wOn, nd1 _, rep_ex old (rep_dom (rep_ex e711 rsv7)), sh_d ne, ok_sh ne, fun h => h.2 hx, fun H12 fl' fr12 permf so hS12 => ⟨rfl, ?_⟩⟩
    have e12 : Ex H11 H12 := fun b o h => fr12 b o (fun e => by rw [e, hx] at h; cases h) (old _ _ h)
    have efl : fl' = ([("on" : Str)] : List Str) := List.perm_singleton.mp permf
    subst efl
    refine gname_go ?_
    dsimp only
    have e712 := e711.trans e12
    have rd12 := rep_ex e712 r7
    have rt12 := rep_ex e712 rdd
    have kd : kn 11 (dataD ne false rs) := pl_kn (data_pl 3 ne false rs)
    refine ⟨_, rfl, .ref p1, _, _, rfl, rep_up rd12, kd, fun H13 gv e13 rg => ?_⟩
    refine gname_go ?_
    refine ⟨_, rfl, .ref t, _, dd, rfl, rep_ex e13 rt12, kdd, fun H14 tv e14 rtv => ?_⟩
    refine gname_go ?_
    dsimp only
    have e1214 := e13.trans e14
    have rg14 := rep_ex e14 rg
    obtain ⟨tg, tgs, rfl, htg, _⟩ : ∃ tg tgs, tv = .ref tg ∧ H14 tg = some (.tup tgs) ∧ True := by
      subst hddl
      obtain ⟨tg, tgs, e, h, _⟩ := rtv
      exact ⟨tg, tgs, e, h, trivial⟩
    obtain ⟨ol, hol, kol⟩ := outD_tup (b := !decide (rowsN 3 (dataD ne false rs) ≤ 300)) (ans := ans) (d := dataD ne b' rs') (kn_N kd')
    refine ⟨_, rfl, _, rfl, _, rfl, x, tg, gv, _, _, _, dataD ne false rs, dd, dataD ne b' rs', ["on"], shO ne, ans, rfl, hS12.ex e1214, by show 1 ≤ 2; decide, nd1 _, ok_sh ne, rep_down (data_dp 2 ne false rs) rg14, data_pl 2 ne false rs, data_ok ne false B, rtv, fun _ => ⟨reas, fun _ => does⟩, hans, fun H15 ov e15 rov => ⟨_, rfl, ?_⟩⟩
    have e1115 := (e12.trans e1214).trans e15
    rw [hol] at rov rdu
    refine ⟨11, 11, _, _, ol, by decide, rov, rep_ex e1115 rdu, kol, false, rfl, ?_⟩
    dsimp only
    rw [if_neg (by decide)]
    have rg15 := rep_ex e15 rg14
    have rt15 := rep_ex e15 rtv
    have rd15 := rep_ex (e1214.trans e15) (rep_up rd12)
    have rdd15 := rep_ex (e1214.trans e15) rt12
    refine ⟨_, rfl, _, rfl, 11, 11, _, _, dataD ne false rs, by decide, .inr ⟨_, rfl⟩, rg15, rd15, kn_N kd, true, rfl, ?_⟩
    rw [if_pos rfl]
    refine ⟨_, rfl, _, rfl, 11, 11, _, _, dd, by decide, .inl ⟨_, hddl⟩, rt15, rdd15, kn_N kdd, ?_⟩
    exact k _
end Pk

namespace Pk
open PySem PySem.Spec PyProof.Rows L2 Ssb
theorem all_mk {l : PySem.W.OpenLaw} {w : World} {K : PySem.W.Frag} {h : Heap} {mg : Str → Option Value} {fa C_Shape C_LimitExceeded C_InvalidDeed C_StayError C_FORMS : Addr} {t_MOST_ROWS : Tok} {t_GREATEST_ID : Tok} (X : K.In h) (G : h.Ns mainGlobals mg) (hfa : mg "law" = some (.ref fa))
    (aShape : PySem.W.nsIn K mainGlobals "Shape" = some (some (.ref C_Shape)))
    (pgShape : PySem.W.plainGet K C_Shape Str.empty = true)
    (hdShape : PySem.W.hasDictIn K C_Shape = true)
    (poShape : PySem.W.plainOver K C_Shape = true)
    (saShape : PySem.W.findIn K (.ref C_Shape) "__setattr__" = some (some (.builtin "object.__setattr__")))
    (mkShape : PySem.W.makesIn K C_Shape = true)
    (kcShape : PySem.W.keepIn K (.ref C_Shape) = true)
    (nShapeflags : PySem.W.findIn K (.ref C_Shape) "flags" = some none)
    (nShapetable : PySem.W.findIn K (.ref C_Shape) "table" = some none)
    (aFORMS : PySem.W.nsIn K mainGlobals "FORMS" = some (some (.ref C_FORMS)))
    (tuFORMS : TupK K C_FORMS [(D.tup [D.str "append", D.int 3]), (D.tup [D.str "cut", D.int 2]), (D.tup [D.str "insert", D.int 4]), (D.tup [D.str "remove", D.int 3]), (D.tup [D.str "move", D.int 4]), (D.tup [D.str "field", D.int 5]), (D.tup [D.str "flag", D.int 2])])
    (aStayError : PySem.W.nsIn K mainGlobals "StayError" = some (some (.ref C_StayError)))
    (kcStayError : PySem.W.keepIn K (.ref C_StayError) = true)
    (aLimitExceeded : PySem.W.nsIn K mainGlobals "LimitExceeded" = some (some (.ref C_LimitExceeded)))
    (ovLimitExceeded : PySem.W.excOver K C_LimitExceeded exBm = true)
    (mdLimitExceeded : PySem.W.excInitIn K C_LimitExceeded exBm "Exception.__new__" = true)
    (hdLimitExceeded : PySem.W.hasDictIn K C_LimitExceeded = true)
    (saLimitExceeded : PySem.W.findIn K (.ref C_LimitExceeded) "__setattr__" = some (some (.builtin "object.__setattr__")))
    (ecLimitExceeded : PySem.W.subIn K (.ref C_LimitExceeded) (.type "BaseException") = some true)
    (tyLimitExceeded : PySem.W.typeIn K (.ref C_LimitExceeded) = some (.type "type"))
    (kcLimitExceeded : PySem.W.keepIn K (.ref C_LimitExceeded) = true)
    (gaLimitExceeded : PySem.W.findIn K (.ref C_LimitExceeded) "__getattribute__" = some (some (.builtin "BaseException.__getattribute__")))
    (ggLimitExceeded : PySem.W.findIn K (.ref C_LimitExceeded) "__getattr__" = some none)
    (owLimitExceeded : PySem.W.exmOne K (.ref C_LimitExceeded) (.ref C_LimitExceeded) = some true)
    (klLimitExceeded : PySem.W.findIn K (.ref C_LimitExceeded) "__class__" = some (some (.builtin "object.__class__")))
    (knLimitExceeded : PySem.W.specialIn K (.builtin "object.__class__") "__get__" = some (some (.builtin "getset_descriptor.__get__")))
    (ktLimitExceeded : PySem.W.takesIn K (.builtin "object.__class__") = some true)
    (kmLimitExceeded : PySem.W.mroIn K C_LimitExceeded (.type "object") = some true)
    (nLimitExceededlimit : PySem.W.findIn K (.ref C_LimitExceeded) "limit" = some none)
    (isLimitExceededStayError : PySem.W.kitOne K (.ref C_LimitExceeded) (.ref C_StayError) = some true)
    (exLimitExceededStayError : PySem.W.exmOne K (.ref C_LimitExceeded) (.ref C_StayError) = some true)
    (seLimitExceeded : PySem.W.kitOne K (.ref C_LimitExceeded) (.ref C_LimitExceeded) = some true)
    (aInvalidDeed : PySem.W.nsIn K mainGlobals "InvalidDeed" = some (some (.ref C_InvalidDeed)))
    (ovInvalidDeed : PySem.W.excOver K C_InvalidDeed exBm = true)
    (mdInvalidDeed : PySem.W.excInitIn K C_InvalidDeed exBm "Exception.__new__" = true)
    (hdInvalidDeed : PySem.W.hasDictIn K C_InvalidDeed = true)
    (saInvalidDeed : PySem.W.findIn K (.ref C_InvalidDeed) "__setattr__" = some (some (.builtin "object.__setattr__")))
    (ecInvalidDeed : PySem.W.subIn K (.ref C_InvalidDeed) (.type "BaseException") = some true)
    (tyInvalidDeed : PySem.W.typeIn K (.ref C_InvalidDeed) = some (.type "type"))
    (kcInvalidDeed : PySem.W.keepIn K (.ref C_InvalidDeed) = true)
    (gaInvalidDeed : PySem.W.findIn K (.ref C_InvalidDeed) "__getattribute__" = some (some (.builtin "BaseException.__getattribute__")))
    (ggInvalidDeed : PySem.W.findIn K (.ref C_InvalidDeed) "__getattr__" = some none)
    (owInvalidDeed : PySem.W.exmOne K (.ref C_InvalidDeed) (.ref C_InvalidDeed) = some true)
    (klInvalidDeed : PySem.W.findIn K (.ref C_InvalidDeed) "__class__" = some (some (.builtin "object.__class__")))
    (knInvalidDeed : PySem.W.specialIn K (.builtin "object.__class__") "__get__" = some (some (.builtin "getset_descriptor.__get__")))
    (ktInvalidDeed : PySem.W.takesIn K (.builtin "object.__class__") = some true)
    (kmInvalidDeed : PySem.W.mroIn K C_InvalidDeed (.type "object") = some true)
    (nInvalidDeedreason : PySem.W.findIn K (.ref C_InvalidDeed) "reason" = some none)
    (isInvalidDeedStayError : PySem.W.kitOne K (.ref C_InvalidDeed) (.ref C_StayError) = some true)
    (exInvalidDeedStayError : PySem.W.exmOne K (.ref C_InvalidDeed) (.ref C_StayError) = some true)
    (exInvalidDeedLimitExceeded : PySem.W.exmOne K (.ref C_InvalidDeed) (.ref C_LimitExceeded) = some false)
    (seInvalidDeed : PySem.W.kitOne K (.ref C_InvalidDeed) (.ref C_InvalidDeed) = some true)
    (z_abs : PySem.W.nsIn K mainGlobals "abs" = some none)
    (z_all : PySem.W.nsIn K mainGlobals "all" = some none)
    (z_enumerate : PySem.W.nsIn K mainGlobals "enumerate" = some none)
    (z_int : PySem.W.nsIn K mainGlobals "int" = some none)
    (z_str : PySem.W.nsIn K mainGlobals "str" = some none)
    (z_bool : PySem.W.nsIn K mainGlobals "bool" = some none)
    (z_isinstance : PySem.W.nsIn K mainGlobals "isinstance" = some none)
    (z_len : PySem.W.nsIn K mainGlobals "len" = some none)
    (z_list : PySem.W.nsIn K mainGlobals "list" = some none)
    (z_range : PySem.W.nsIn K mainGlobals "range" = some none)
    (z_sorted : PySem.W.nsIn K mainGlobals "sorted" = some none)
    (z_sum : PySem.W.nsIn K mainGlobals "sum" = some none)
    (z_tuple : PySem.W.nsIn K mainGlobals "tuple" = some none)
    (z_set : PySem.W.nsIn K mainGlobals "set" = some none)
    (z_dict : PySem.W.nsIn K mainGlobals "dict" = some none)
    (g_MOST_ROWS : PySem.W.nsIn K mainGlobals "MOST_ROWS" = some (some (.int 300 t_MOST_ROWS)))
    (g_GREATEST_ID : PySem.W.nsIn K mainGlobals "GREATEST_ID" = some (some (.int 1000000 t_GREATEST_ID)))
    (d_fresh : Here K mg "fresh" s_fresh)
    (d_LimitExceeded_init : HereM K C_LimitExceeded "__init__" "LimitExceeded.__init__" s_LimitExceeded_init)
    (d_InvalidDeed_init : HereM K C_InvalidDeed "__init__" "InvalidDeed.__init__" s_InvalidDeed_init)
    (d_is_word : Here K mg "is_word" s_is_word)
    (d_are_words : Here K mg "are_words" s_are_words)
    (d_is_integer : Here K mg "is_integer" s_is_integer)
    (d_has_names : Here K mg "has_names" s_has_names)
    (d_is_named : Here K mg "is_named" s_is_named)
    (d_has_form : Here K mg "has_form" s_has_form)
    (d_wrong_part : Here K mg "wrong_part" s_wrong_part)
    (d_are_lists : Here K mg "are_lists" s_are_lists)
    (d_are_list_shapes : Here K mg "are_list_shapes" s_are_list_shapes)
    (d_list_rows : Here K mg "list_rows" s_list_rows)
    (d_are_fields : Here K mg "are_fields" s_are_fields)
    (d_Shape_init : HereM K C_Shape "__init__" "Shape.__init__" s_Shape_init)
    (d_Shape_outer : HereM K C_Shape "outer" "Shape.outer" s_Shape_outer)
    (d_Shape_inner : HereM K C_Shape "inner" "Shape.inner" s_Shape_inner)
    (d_Shape_fields : HereM K C_Shape "fields" "Shape.fields" s_Shape_fields)
    (d_Shape_lists_in : HereM K C_Shape "lists_in" "Shape.lists_in" s_Shape_lists_in)
    (d_Shape_need_list : HereM K C_Shape "need_list" "Shape.need_list" s_Shape_need_list)
    (d_check : Here K mg "check" s_check)
    (d_check_words : Here K mg "check_words" s_check_words)
    (d_is_choice : Here K mg "is_choice" s_is_choice)
    (d_check_lists : Here K mg "check_lists" s_check_lists)
    (d_check_rows : Here K mg "check_rows" s_check_rows)
    (d_check_row : Here K mg "check_row" s_check_row)
    (d_rows_in : Here K mg "rows_in" s_rows_in)
    (d_wrong_reason : Here K mg "wrong_reason" s_wrong_reason)
    (d_list_at : Here K mg "list_at" s_list_at)
    (d_rows_at : Here K mg "rows_at" s_rows_at)
    (d_indexes_fit : Here K mg "indexes_fit" s_indexes_fit)
    (d_row_fits : Here K mg "row_fits" s_row_fits)
    (d_after_deed : Here K mg "after_deed" s_after_deed)
    (d_apply : Here K mg "apply" s_apply)
    (d__law_open : Here K mg "_law_open" s__law_open)
    (d__law_mixed : Here K mg "_law_mixed" s__law_mixed)
    (d__law_draw : Here K mg "_law_draw" s__law_draw)
    (d__law_copy : Here K mg "_law_copy" s__law_copy)
    (d__law_list_at : Here K mg "_law_list_at" s__law_list_at)
    (d__law_applied : Here K mg "_law_applied" s__law_applied)
    (d__law_big_rows : Here K mg "_law_big_rows" s__law_big_rows)
    (d__law_big_shape : Here K mg "_law_big_shape" s__law_big_shape)
    (d__law_row_count : Here K mg "_law_row_count" s__law_row_count)
    (d__law_told : Here K mg "_law_told" s__law_told)
    (d__law_big_deed : Here K mg "_law_big_deed" s__law_big_deed)
    (d_law : Here K mg "law" s_law) :
    ∃ fd : FuncData, (∀ (s : Shared) (v : Value), BindsTo s fd ⟨[v], []⟩ [("_law_script", v)]) ∧ ∀ base : Heap, K.In base → base.Ns mainGlobals mg → FnOk l.prog w K mg base CX0 60 fa fd ["_law_script"] (spLaw K) := by
  have T : Txt K mg C_Shape C_LimitExceeded C_InvalidDeed C_StayError C_FORMS := { abs := PySem.W.mg_none_of X G z_abs, all := PySem.W.mg_none_of X G z_all, enumerate := PySem.W.mg_none_of X G z_enumerate, int := PySem.W.mg_none_of X G z_int, str := PySem.W.mg_none_of X G z_str, bool := PySem.W.mg_none_of X G z_bool, isinstance := PySem.W.mg_none_of X G z_isinstance, len := PySem.W.mg_none_of X G z_len, list := PySem.W.mg_none_of X G z_list, range := PySem.W.mg_none_of X G z_range, sorted := PySem.W.mg_none_of X G z_sorted, sum := PySem.W.mg_none_of X G z_sum, tuple := PySem.W.mg_none_of X G z_tuple, set := PySem.W.mg_none_of X G z_set, dict := PySem.W.mg_none_of X G z_dict, g_MOST_ROWS := ⟨_, PySem.W.mg_of X G g_MOST_ROWS⟩, g_GREATEST_ID := ⟨_, PySem.W.mg_of X G g_GREATEST_ID⟩, cl_Shape := ⟨pgShape, hdShape, poShape, saShape⟩, mk_Shape := mkShape, kp_Shape := kcShape, at_Shape := PySem.W.mg_of X G aShape, no_Shape_flags := nShapeflags, no_Shape_table := nShapetable, ox_LimitExceeded := ⟨ovLimitExceeded, mdLimitExceeded, hdLimitExceeded, saLimitExceeded, ecLimitExceeded, tyLimitExceeded, kcLimitExceeded⟩, at_LimitExceeded := PySem.W.mg_of X G aLimitExceeded, xk_LimitExceeded := ⟨⟨gaLimitExceeded, ggLimitExceeded, ecLimitExceeded, hdLimitExceeded⟩, exk_cl hdLimitExceeded, klLimitExceeded, knLimitExceeded, ktLimitExceeded, kmLimitExceeded⟩, own_LimitExceeded := owLimitExceeded, no_LimitExceeded_limit := nLimitExceededlimit, is_LimitExceeded_StayError := isLimitExceededStayError, ex_LimitExceeded_StayError := exLimitExceededStayError, se_LimitExceeded := seLimitExceeded, ox_InvalidDeed := ⟨ovInvalidDeed, mdInvalidDeed, hdInvalidDeed, saInvalidDeed, ecInvalidDeed, tyInvalidDeed, kcInvalidDeed⟩, at_InvalidDeed := PySem.W.mg_of X G aInvalidDeed, xk_InvalidDeed := ⟨⟨gaInvalidDeed, ggInvalidDeed, ecInvalidDeed, hdInvalidDeed⟩, exk_cl hdInvalidDeed, klInvalidDeed, knInvalidDeed, ktInvalidDeed, kmInvalidDeed⟩, own_InvalidDeed := owInvalidDeed, no_InvalidDeed_reason := nInvalidDeedreason, is_InvalidDeed_StayError := isInvalidDeedStayError, ex_InvalidDeed_StayError := exInvalidDeedStayError, ex_InvalidDeed_LimitExceeded := exInvalidDeedLimitExceeded, se_InvalidDeed := seInvalidDeed, at_FORMS := PySem.W.mg_of X G aFORMS, tu_FORMS := tuFORMS, at_StayError := PySem.W.mg_of X G aStayError, kp_StayError := kcStayError }
  have R : Prg K mg C_Shape C_LimitExceeded C_InvalidDeed C_StayError C_FORMS := { fresh := d_fresh, LimitExceeded_init := d_LimitExceeded_init, InvalidDeed_init := d_InvalidDeed_init, is_word := d_is_word, are_words := d_are_words, is_integer := d_is_integer, has_names := d_has_names, is_named := d_is_named, has_form := d_has_form, wrong_part := d_wrong_part, are_lists := d_are_lists, are_list_shapes := d_are_list_shapes, list_rows := d_list_rows, are_fields := d_are_fields, Shape_init := d_Shape_init, Shape_outer := d_Shape_outer, Shape_inner := d_Shape_inner, Shape_fields := d_Shape_fields, Shape_lists_in := d_Shape_lists_in, Shape_need_list := d_Shape_need_list, check := d_check, check_words := d_check_words, is_choice := d_is_choice, check_lists := d_check_lists, check_rows := d_check_rows, check_row := d_check_row, rows_in := d_rows_in, wrong_reason := d_wrong_reason, list_at := d_list_at, rows_at := d_rows_at, indexes_fit := d_indexes_fit, row_fits := d_row_fits, after_deed := d_after_deed, apply := d_apply, _law_open := d__law_open, _law_mixed := d__law_mixed, _law_draw := d__law_draw, _law_copy := d__law_copy, _law_list_at := d__law_list_at, _law_applied := d__law_applied, _law_big_rows := d__law_big_rows, _law_big_shape := d__law_big_shape, _law_row_count := d__law_row_count, _law_told := d__law_told, _law_big_deed := d__law_big_deed, law := d_law }
  exact main_ok T R hfa
theorem walk {l : PySem.W.OpenLaw} {q : Program} {loose : List Str} {XP : (Str → Option Value) → Heap → Prop} {YP : World → Heap → Prop} {d : DefRec} {K : Params → PySem.W.Frag} (hn : l.most = some 63) (hdf : d.params.defaults = [])
    (hY : ∀ (w : World) (h : Heap), YP w h → (K w.params).In h)
    (F : ∀ (w : World) (mg : Str → Option Value) (fa : Addr) (h : Heap), (K w.params).In h → h.Ns mainGlobals mg → mg d.name = some (.ref fa) →
      ∃ fd : FuncData, (∀ (s : Shared) (u : Value), BindsTo s fd ⟨[u], []⟩ [("_law_script", u)]) ∧ ∀ base : Heap, (K w.params).In base → base.Ns mainGlobals mg → FnOk l.prog w (K w.params) mg base CX0 60 fa fd ["_law_script"] (spLaw (K w.params))) :
    PySem.W.WalkO q loose XP YP l.row.toRowW d [] (fun f vs => PySem.call f vs) :=
  L2.walk_of (n := 63) (k := 60) (x := "_law_script") (CX := fun _ => CX0) (sp := fun w => spLaw (K w.params)) hn (by decide) hdf ⟨rfl, by decide, by decide⟩ hY F (fun _ _ a ns hl _ hS => ⟨a, ns, rfl, hS, hl, fun _ => rfl⟩) fun _ _ _ _ _ z => z
end Pk
open PySem PySem.W PyProof.Rows
set_option maxRecDepth 100000 in
set_option maxHeartbeats 0 in
theorem PySem.Challenge.cw_statestay_k81_deeds_at_the_row_limit_holds : PySem.Challenge.rw_statestay_k81_deeds_at_the_row_limit.Holds := by
  w_on; o_law; k_head; (case hw => w_witness2)
  k_fill
  refine Pk.walk (l := PySem.Challenge.rw_statestay_k81_deeds_at_the_row_limit) rfl rfl (fun w h Y => PySem.W.kIn_of Y) ?F
  case F =>
    intro w mg fa h KX G hmg
    refine' Pk.all_mk KX G hmg ?aShape ?pgShape ?hdShape ?poShape ?saShape ?mkShape ?kcShape ?nShapeflags ?nShapetable ?aFORMS ?tuFORMS ?aStayError ?kcStayError ?aLimitExceeded ?ovLimitExceeded ?mdLimitExceeded ?hdLimitExceeded ?saLimitExceeded ?ecLimitExceeded ?tyLimitExceeded ?kcLimitExceeded ?gaLimitExceeded ?ggLimitExceeded ?owLimitExceeded ?klLimitExceeded ?knLimitExceeded ?ktLimitExceeded ?kmLimitExceeded ?nLimitExceededlimit ?isLimitExceededStayError ?exLimitExceededStayError ?seLimitExceeded ?aInvalidDeed ?ovInvalidDeed ?mdInvalidDeed ?hdInvalidDeed ?saInvalidDeed ?ecInvalidDeed ?tyInvalidDeed ?kcInvalidDeed ?gaInvalidDeed ?ggInvalidDeed ?owInvalidDeed ?klInvalidDeed ?knInvalidDeed ?ktInvalidDeed ?kmInvalidDeed ?nInvalidDeedreason ?isInvalidDeedStayError ?exInvalidDeedStayError ?exInvalidDeedLimitExceeded ?seInvalidDeed ?z_abs ?z_all ?z_enumerate ?z_int ?z_str ?z_bool ?z_isinstance ?z_len ?z_list ?z_range ?z_sorted ?z_sum ?z_tuple ?z_set ?z_dict ?g_MOST_ROWS ?g_GREATEST_ID ?d_fresh ?d_LimitExceeded_init ?d_InvalidDeed_init ?d_is_word ?d_are_words ?d_is_integer ?d_has_names ?d_is_named ?d_has_form ?d_wrong_part ?d_are_lists ?d_are_list_shapes ?d_list_rows ?d_are_fields ?d_Shape_init ?d_Shape_outer ?d_Shape_inner ?d_Shape_fields ?d_Shape_lists_in ?d_Shape_need_list ?d_check ?d_check_words ?d_is_choice ?d_check_lists ?d_check_rows ?d_check_row ?d_rows_in ?d_wrong_reason ?d_list_at ?d_rows_at ?d_indexes_fit ?d_row_fits ?d_after_deed ?d_apply ?d__law_open ?d__law_mixed ?d__law_draw ?d__law_copy ?d__law_list_at ?d__law_applied ?d__law_big_rows ?d__law_big_shape ?d__law_row_count ?d__law_told ?d__law_big_deed ?d_law
    (case aShape => k_is)
    (case pgShape => k_is)
    (case hdShape => k_is)
    (case poShape => k_is)
    (case saShape => k_is)
    (case mkShape => k_is)
    (case kcShape => k_is)
    (case nShapeflags => k_is)
    (case nShapetable => k_is)
    (case aFORMS => k_is)
    (case tuFORMS => (refine' Pk.tup_mk7 ?h0 (Pk.form_mk ?h1) (Pk.form_mk ?h2) (Pk.form_mk ?h3) (Pk.form_mk ?h4) (Pk.form_mk ?h5) (Pk.form_mk ?h6) (Pk.form_mk ?h7); (case h0 => k_is); (case h1 => k_is); (case h2 => k_is); (case h3 => k_is); (case h4 => k_is); (case h5 => k_is); (case h6 => k_is); (case h7 => k_is)))
    (case aStayError => k_is)
    (case kcStayError => k_is)
    (case aLimitExceeded => k_is)
    (case ovLimitExceeded => first | k_is | kx_is)
    (case mdLimitExceeded => first | k_is | kx_is)
    (case hdLimitExceeded => k_is)
    (case saLimitExceeded => k_is)
    (case ecLimitExceeded => first | k_is | kx_is)
    (case tyLimitExceeded => first | k_is | kx_is)
    (case kcLimitExceeded => k_is)
    (case gaLimitExceeded => k_is)
    (case ggLimitExceeded => k_is)
    (case owLimitExceeded => kts_exm)
    (case klLimitExceeded => k_is)
    (case knLimitExceeded => k_is)
    (case ktLimitExceeded => k_is)
    (case kmLimitExceeded => k_is)
    (case nLimitExceededlimit => k_is)
    (case isLimitExceededStayError => kit_is)
    (case exLimitExceededStayError => kts_exm)
    (case seLimitExceeded => kit_is)
    (case aInvalidDeed => k_is)
    (case ovInvalidDeed => first | k_is | kx_is)
    (case mdInvalidDeed => first | k_is | kx_is)
    (case hdInvalidDeed => k_is)
    (case saInvalidDeed => k_is)
    (case ecInvalidDeed => first | k_is | kx_is)
    (case tyInvalidDeed => first | k_is | kx_is)
    (case kcInvalidDeed => k_is)
    (case gaInvalidDeed => k_is)
    (case ggInvalidDeed => k_is)
    (case owInvalidDeed => kts_exm)
    (case klInvalidDeed => k_is)
    (case knInvalidDeed => k_is)
    (case ktInvalidDeed => k_is)
    (case kmInvalidDeed => k_is)
    (case nInvalidDeedreason => k_is)
    (case isInvalidDeedStayError => kit_is)
    (case exInvalidDeedStayError => kts_exm)
    (case exInvalidDeedLimitExceeded => kts_exm)
    (case seInvalidDeed => kit_is)
    (case z_abs => k_is)
    (case z_all => k_is)
    (case z_enumerate => k_is)
    (case z_int => k_is)
    (case z_str => k_is)
    (case z_bool => k_is)
    (case z_isinstance => k_is)
    (case z_len => k_is)
    (case z_list => k_is)
    (case z_range => k_is)
    (case z_sorted => k_is)
    (case z_sum => k_is)
    (case z_tuple => k_is)
    (case z_set => k_is)
    (case z_dict => k_is)
    (case g_MOST_ROWS => k_is)
    (case g_GREATEST_ID => k_is)
    (case d_fresh => (refine' Pk.here_mk KX G ?a ?l ?c ?k; (case a => k_is); (case l => k_is); (case c => k_is); (case k => k_is)))
    (case d_LimitExceeded_init => (refine' Pk.hereM_mk ?a ?i ?l ?c ?k; (case a => k_is); (case i => k_is); (case l => k_is); (case c => k_is); (case k => k_is)))
    (case d_InvalidDeed_init => (refine' Pk.hereM_mk ?a ?i ?l ?c ?k; (case a => k_is); (case i => k_is); (case l => k_is); (case c => k_is); (case k => k_is)))
    (case d_is_word => (refine' Pk.here_mk KX G ?a ?l ?c ?k; (case a => k_is); (case l => k_is); (case c => k_is); (case k => k_is)))
    (case d_are_words => (refine' Pk.here_mk KX G ?a ?l ?c ?k; (case a => k_is); (case l => k_is); (case c => k_is); (case k => k_is)))
    (case d_is_integer => (refine' Pk.here_mk KX G ?a ?l ?c ?k; (case a => k_is); (case l => k_is); (case c => k_is); (case k => k_is)))
    (case d_has_names => (refine' Pk.here_mk KX G ?a ?l ?c ?k; (case a => k_is); (case l => k_is); (case c => k_is); (case k => k_is)))
    (case d_is_named => (refine' Pk.here_mk KX G ?a ?l ?c ?k; (case a => k_is); (case l => k_is); (case c => k_is); (case k => k_is)))
    (case d_has_form => (refine' Pk.here_mk KX G ?a ?l ?c ?k; (case a => k_is); (case l => k_is); (case c => k_is); (case k => k_is)))
    (case d_wrong_part => (refine' Pk.here_mk KX G ?a ?l ?c ?k; (case a => k_is); (case l => k_is); (case c => k_is); (case k => k_is)))
    (case d_are_lists => (refine' Pk.here_mk KX G ?a ?l ?c ?k; (case a => k_is); (case l => k_is); (case c => k_is); (case k => k_is)))
    (case d_are_list_shapes => (refine' Pk.here_mk KX G ?a ?l ?c ?k; (case a => k_is); (case l => k_is); (case c => k_is); (case k => k_is)))
    (case d_list_rows => (refine' Pk.here_mk KX G ?a ?l ?c ?k; (case a => k_is); (case l => k_is); (case c => k_is); (case k => k_is)))
    (case d_are_fields => (refine' Pk.here_mk KX G ?a ?l ?c ?k; (case a => k_is); (case l => k_is); (case c => k_is); (case k => k_is)))
    (case d_Shape_init => (refine' Pk.hereM_mk ?a ?i ?l ?c ?k; (case a => k_is); (case i => k_is); (case l => k_is); (case c => k_is); (case k => k_is)))
    (case d_Shape_outer => (refine' Pk.hereM_mk ?a ?i ?l ?c ?k; (case a => k_is); (case i => k_is); (case l => k_is); (case c => k_is); (case k => k_is)))
    (case d_Shape_inner => (refine' Pk.hereM_mk ?a ?i ?l ?c ?k; (case a => k_is); (case i => k_is); (case l => k_is); (case c => k_is); (case k => k_is)))
    (case d_Shape_fields => (refine' Pk.hereM_mk ?a ?i ?l ?c ?k; (case a => k_is); (case i => k_is); (case l => k_is); (case c => k_is); (case k => k_is)))
    (case d_Shape_lists_in => (refine' Pk.hereM_mk ?a ?i ?l ?c ?k; (case a => k_is); (case i => k_is); (case l => k_is); (case c => k_is); (case k => k_is)))
    (case d_Shape_need_list => (refine' Pk.hereM_mk ?a ?i ?l ?c ?k; (case a => k_is); (case i => k_is); (case l => k_is); (case c => k_is); (case k => k_is)))
    (case d_check => (refine' Pk.here_mk KX G ?a ?l ?c ?k; (case a => k_is); (case l => k_is); (case c => k_is); (case k => k_is)))
    (case d_check_words => (refine' Pk.here_mk KX G ?a ?l ?c ?k; (case a => k_is); (case l => k_is); (case c => k_is); (case k => k_is)))
    (case d_is_choice => (refine' Pk.here_mk KX G ?a ?l ?c ?k; (case a => k_is); (case l => k_is); (case c => k_is); (case k => k_is)))
    (case d_check_lists => (refine' Pk.here_mk KX G ?a ?l ?c ?k; (case a => k_is); (case l => k_is); (case c => k_is); (case k => k_is)))
    (case d_check_rows => (refine' Pk.here_mk KX G ?a ?l ?c ?k; (case a => k_is); (case l => k_is); (case c => k_is); (case k => k_is)))
    (case d_check_row => (refine' Pk.here_mk KX G ?a ?l ?c ?k; (case a => k_is); (case l => k_is); (case c => k_is); (case k => k_is)))
    (case d_rows_in => (refine' Pk.here_mk KX G ?a ?l ?c ?k; (case a => k_is); (case l => k_is); (case c => k_is); (case k => k_is)))
    (case d_wrong_reason => (refine' Pk.here_mk KX G ?a ?l ?c ?k; (case a => k_is); (case l => k_is); (case c => k_is); (case k => k_is)))
    (case d_list_at => (refine' Pk.here_mk KX G ?a ?l ?c ?k; (case a => k_is); (case l => k_is); (case c => k_is); (case k => k_is)))
    (case d_rows_at => (refine' Pk.here_mk KX G ?a ?l ?c ?k; (case a => k_is); (case l => k_is); (case c => k_is); (case k => k_is)))
    (case d_indexes_fit => (refine' Pk.here_mk KX G ?a ?l ?c ?k; (case a => k_is); (case l => k_is); (case c => k_is); (case k => k_is)))
    (case d_row_fits => (refine' Pk.here_mk KX G ?a ?l ?c ?k; (case a => k_is); (case l => k_is); (case c => k_is); (case k => k_is)))
    (case d_after_deed => (refine' Pk.here_mk KX G ?a ?l ?c ?k; (case a => k_is); (case l => k_is); (case c => k_is); (case k => k_is)))
    (case d_apply => (refine' Pk.here_mk KX G ?a ?l ?c ?k; (case a => k_is); (case l => k_is); (case c => k_is); (case k => k_is)))
    (case d__law_open => (refine' Pk.here_mk KX G ?a ?l ?c ?k; (case a => k_is); (case l => k_is); (case c => k_is); (case k => k_is)))
    (case d__law_mixed => (refine' Pk.here_mk KX G ?a ?l ?c ?k; (case a => k_is); (case l => k_is); (case c => k_is); (case k => k_is)))
    (case d__law_draw => (refine' Pk.here_mk KX G ?a ?l ?c ?k; (case a => k_is); (case l => k_is); (case c => k_is); (case k => k_is)))
    (case d__law_copy => (refine' Pk.here_mk KX G ?a ?l ?c ?k; (case a => k_is); (case l => k_is); (case c => k_is); (case k => k_is)))
    (case d__law_list_at => (refine' Pk.here_mk KX G ?a ?l ?c ?k; (case a => k_is); (case l => k_is); (case c => k_is); (case k => k_is)))
    (case d__law_applied => (refine' Pk.here_mk KX G ?a ?l ?c ?k; (case a => k_is); (case l => k_is); (case c => k_is); (case k => k_is)))
    (case d__law_big_rows => (refine' Pk.here_mk KX G ?a ?l ?c ?k; (case a => k_is); (case l => k_is); (case c => k_is); (case k => k_is)))
    (case d__law_big_shape => (refine' Pk.here_mk KX G ?a ?l ?c ?k; (case a => k_is); (case l => k_is); (case c => k_is); (case k => k_is)))
    (case d__law_row_count => (refine' Pk.here_mk KX G ?a ?l ?c ?k; (case a => k_is); (case l => k_is); (case c => k_is); (case k => k_is)))
    (case d__law_told => (refine' Pk.here_mk KX G ?a ?l ?c ?k; (case a => k_is); (case l => k_is); (case c => k_is); (case k => k_is)))
    (case d__law_big_deed => (refine' Pk.here_mk KX G ?a ?l ?c ?k; (case a => k_is); (case l => k_is); (case c => k_is); (case k => k_is)))
    (case d_law => (refine' Pk.here_mk KX G ?a ?l ?c ?k; (case a => k_is); (case l => k_is); (case c => k_is); (case k => k_is)))
