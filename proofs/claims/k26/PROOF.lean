import PyProof.Rows.All
import Wide.All
import OpenK.AllK
import Wide.FinOn
import KE.KDictKeyed
import KE.KeyNested
import KE.KCallOwn
import PyProof.P3Eq
import KE.KExcInit
import KE.KExcIs
import PyProof.Rows.StrIntSpec
import PyProof.ListStr
import PyProof.EqAt
import PyProof.StrOps2
import PyProof.EqKinds
import PyProof.FactsAll.dict
import KE.KDictPairs
import KE.KDictCopyH
import KE.KEqNest
import KE.KFmtOwn
import KE.KExcLine
import KE.RegKIsAll
import KE.RegKTryMore
import HandS.ForMost
import HandS.Evl
import HandS.IsInst
import HandS.DictComp
import HandS.SetKeys
import HandS.Strs
import HandS.Wide
import HandS.Walk
import HandS.Conv
import HandS.More
import HandS.TupAny
import HandS.Rev
import HandS.SetBool
import HandS.ClsMeth
import HandS.Defaults
import HandS.MakeKw
import HandS.CallLocal
import HandS.Exc
import HandS.ExcInit
import HandS.ExcField
import HandS.CallSlots
import HandS.WordsExc
import HandS.RevTup
import HandS.TupLe
import HandS.FStr
import HandS.Deep
import HandS.TupLen
import HandS.Finally
import HandS.DeepEq
import HandS.OwnEq
import HandS.Zip
import PySem.Challenge.RW_statestay_k26_whole_three_drawings
set_option Elab.async false
set_option linter.all false
set_option maxRecDepth 100000
set_option maxHeartbeats 3100000
/-! Sets of texts of any size: set(xs) of a list or a tuple, and their length. -/
namespace Ssb
open PySem PySem.Spec PyProof.Rows L2

/-- acc and, behind it, what of the list was not met before -/
def met : List Str → List Str → List Str
  | acc, [] => acc
  | acc, x :: r => met (if x ∈ acc then acc else acc ++ [x]) r
theorem met_len : ∀ (l acc : List Str), (met acc l).length ≤ acc.length + l.length
  | [], acc => Nat.le_refl _
  | x :: r, acc => by
    have h := met_len r (if x ∈ acc then acc else acc ++ [x])
    show (met (if x ∈ acc then acc else acc ++ [x]) r).length ≤ acc.length + (r.length + 1)
    refine Nat.le_trans h ?_
    by_cases hx : x ∈ acc
    · rw [if_pos hx]; omega
    · rw [if_neg hx, List.length_append, List.length_singleton]; omega
theorem met_nodup : ∀ (l acc : List Str), (acc ++ l).Nodup → met acc l = acc ++ l
  | [], acc, _ => by rw [List.append_nil]; rfl
  | x :: r, acc, h => by
    have hx : ¬ x ∈ acc := fun hm => by
      have := (List.nodup_append.mp h).2.2 x hm x List.mem_cons_self
      exact this rfl
    show met (if x ∈ acc then acc else acc ++ [x]) r = acc ++ x :: r
    rw [if_neg hx, met_nodup r (acc ++ [x]) (by rw [List.append_assoc]; exact h), List.append_assoc]
    rfl
theorem met_in (acc : List Str) (x k : Str) : (decide (k ∈ acc) || decide (k = x)) = decide (k ∈ (if x ∈ acc then acc else acc ++ [x])) := by
  by_cases hx : x ∈ acc
  · rw [if_pos hx]
    by_cases e : k = x
    · rw [e, decide_eq_true hx]; rfl
    · rw [decide_eq_false e, Bool.or_false]
  · rw [if_neg hx]
    by_cases e : k = x
    · rw [e, decide_eq_true rfl, Bool.or_true, decide_eq_true (List.mem_append_right _ List.mem_cons_self)]
    · by_cases h2 : k ∈ acc
      · rw [decide_eq_true h2, decide_eq_true (List.mem_append_left _ h2)]; rfl
      · rw [decide_eq_false h2, decide_eq_false e, decide_eq_false]; rfl
        intro z
        rcases List.mem_append.mp z with z | z
        · exact h2 z
        · exact e (List.mem_singleton.mp z)
theorem met_size (acc : List Str) (x : Str) : (if decide (x ∈ acc) = true then acc.length else acc.length + 1) = (if x ∈ acc then acc else acc ++ [x]).length := by
  by_cases hx : x ∈ acc
  · rw [if_pos hx, decide_eq_true hx, if_pos rfl]
  · rw [if_neg hx, decide_eq_false hx, if_neg Bool.false_ne_true, List.length_append]; rfl
theorem cod_some {xs : List Str} {i : Nat} (h : i < xs.length) : xs.drop i = xs.getD i Str.empty :: xs.drop (i + 1) := by
  rw [List.drop_eq_getElem_cons h, List.getD_eq_getElem?_getD, List.getElem?_eq_getElem h, Option.getD_some]

section
variable {prog : Program} {w : World} {A : Around} {R : Result → Shared → Prop} {I S : Addr} {fp wr : List Addr} {G : Array GenState → Array GenState → Prop} {n : Nat} {P : Nat → Value → Prop} {St : Nat → Shared → Prop}
/-- set.update's own loop over texts -/
theorem upd_loop (W : WalksS prog w A.in1 I fp wr G n P St) (nS : S ∉ fp) {xs : List Str} (len : xs.length = n) (val : ∀ i v, P i v → ∃ t, v = .str (xs.getD i Str.empty) t) (few : n + 1 < scanBound) :
    ∀ (m i : Nat) (acc : List Str) (s : Shared), i + m = n → acc.length ≤ i → St i s → s.heap.SetOf (PySem.strKind prog w) S (fun k => decide (k ∈ acc)) acc.length →
      (∀ s2, Moved (S :: wr) G s s2 → s2.heap.SetOf (PySem.strKind prog w) S (fun k => decide (k ∈ met acc (xs.drop i))) (met acc (xs.drop i)).length → R (.ok (.ret .none)) s2) →
      codeAny (model prog w) A (.builtin "set.update.loop" ⟨[.ref S, .ref I], []⟩) R s := by
  have nw : S ∉ wr := fun hm => nS (W.sub S hm)
  have up : ∀ b, b ∈ wr → b ∈ S :: wr := fun b => List.mem_cons_of_mem S
  have stays : ∀ {s s2 : Shared} {T : Str → Bool} {c : Nat}, Moved wr G s s2 → s.heap.SetOf (PySem.strKind prog w) S T c → s2.heap.SetOf (PySem.strKind prog w) S T c := fun mv ⟨o, a1, a2, a3, q, r⟩ => ⟨o, a1, a2, a3, mv.heap S o nw q, r⟩
  intro m
  induction m with
  | zero =>
    intro i acc s e _ st so k
    obtain rfl : i = n := e
    refine codeAny_builtin PyProof.Rows.F.entry_set_update_loop ?_
    rw [Around.under_plainId PyProof.Rows.F.plain_set_update_loop]
    refine wpAny_bind (W.done s _ _ st fun s2 mv => wpAny_pure (k s2 (mv.mono up) ?_))
    rw [List.drop_of_length_le (Nat.le_of_eq len)]
    exact stays mv so
  | succ m ih =>
    intro i acc s e la st so k
    have lt : i < n := by omega
    refine codeAny_builtin PyProof.Rows.F.entry_set_update_loop ?_
    rw [Around.under_plainId PyProof.Rows.F.plain_set_update_loop]
    refine wpAny_bind (W.item i s _ _ lt st fun v s2 pv st2 mv => ?_)
    obtain ⟨t, rfl⟩ := val i v pv
    have so2 := stays mv so
    refine wpAny_bind (wpAny_holding ?_)
    unfold setAdd
    refine wpAny_holding (wpAny_bind ((PySem.strKind prog w).pyHash (k := xs.getD i Str.empty) (strKind_is _ _ _ _) ?_))
    refine wpAny_setAddHashed_of (knd := PySem.strKind prog w) (s := { s2 with toks := s2.toks + 1 }) (strKind_is _ _ _ _) rfl so2 (by omega) fun h3 sb so3 => ?_
    have out : ∀ b, b ≠ S → ∀ o, s2.heap.get? b = some o → h3.get? b = some o := fun b hb o q => (sb.2 b hb).trans q
    have so4 : h3.SetOf (PySem.strKind prog w) S (fun k' => decide (k' ∈ (if xs.getD i Str.empty ∈ acc then acc else acc ++ [xs.getD i Str.empty]))) (if xs.getD i Str.empty ∈ acc then acc else acc ++ [xs.getD i Str.empty]).length :=
      SetOf_congr so3 (fun k' => met_in _ _ _) (met_size _ _)
    have len4 : (if xs.getD i Str.empty ∈ acc then acc else acc ++ [xs.getD i Str.empty]).length ≤ i + 1 := by
      by_cases hx : xs.getD i Str.empty ∈ acc
      · rw [if_pos hx]; omega
      · rw [if_neg hx, List.length_append, List.length_singleton]; omega
    refine wpAny_pure ⟨plainId_quiet PyProof.Rows.F.plain_set_update_loop _, ih (i + 1) _ { s2 with heap := h3, toks := s2.toks + 1 } (by omega) len4 (W.frame _ s2 _ _ st2 (Nat.le_succ _) fun b hb o q => out b (fun z => nS (z ▸ hb)) o q) so4 fun s5 mv5 so5 => k s5 ?_ ?_⟩
    · exact Moved.trans W.gtrans ((mv.mono up).then_heap (Nat.le_succ _) fun b o hb q => out b (fun z => hb (z ▸ List.mem_cons_self)) o q) mv5
    · rw [cod_some (by omega)]
      exact so5
end

/-- what stands at the new set's place at first -/
abbrev bare (led : Bool) : Obj := { cls := .type "set", dict := none, data := .set #[] 0 (.fresh 0 0 led) }
section
variable {prog : Program} {w : World} {A : Around} {E : Value → Shared → Prop} {s : Shared} {src : Addr} {items : Array Value} {xs : List Str}
set_option maxHeartbeats 3200000 in
/-- set(list of texts) -/
theorem set_list {Q : Value → Shared → Prop} (calm : A.handled = none) (at_ : s.heap.IsList src items) (are : PyProof.Rows.StrsAre items.toList xs) (few : xs.length + 1 < scanBound)
    (k : ∀ (h2 : Heap) (tk : Nat), h2.SetOf (PySem.strKind prog w) s.heap.objs.size (fun k' => decide (k' ∈ met [] xs)) (met [] xs).length → (∀ b o, s.heap.get? b = some o → h2.get? b = some o) → Q (.ref s.heap.objs.size) { s with heap := h2, toks := tk }) :
    wpAny (model prog w) A (call (.type "set") [.ref src]) Q E s := by
  have m1 := PySem.F.called_set.mro
  obtain ⟨_, _, hm⟩ := m1
  have made := PySem.F.called_set.made
  have below := PySem.F.called_set.sub
  refine wpAny_call (codeAny_of_tree ?_)
  show wpAny _ _ (callAny (Value.type "set") ⟨[Value.ref src], []⟩) _ _ _
  refine wpAny_pure (And.intro (Code.quiet_builtin _ (by decide +kernel)) (codeAny_builtin PySem.F.entry_type_call ?_))
  rw [Around.under_plain (weight_type_call_type "set" [Value.ref src] []) rfl]
  have n1 := PySem.F.called_set.notType
  have n2 := PySem.F.called_set.canCreate
  have n3 := PySem.F.typeCall_set_1 (Value.ref src)
  repeat any_goals first | wp_step | assumption
  refine codeAny_mono (code_set_new_1 (Value.ref src) (E := E) (Q₁ := fun x s1 => ∃ led, x = .ref s.heap.objs.size ∧ s1 = { s with heap := s.heap.push (bare led) }) fun led => ⟨led, rfl, rfl⟩) fun r s1 back => ?_
  cases r with
  | error e => exact back
  | ok fl =>
    cases fl with
    | next => exact back.elim
    | brk => exact back.elim
    | cont => exact back.elim
    | ret x =>
      obtain ⟨led, rfl, rfl⟩ := back
      have gS : (s.heap.push (bare led)).get? s.heap.objs.size = some (bare led) := Heap.get?_push_size _ rfl
      have tS : Shared.TypeIs { s with heap := s.heap.push (bare led) } (.ref s.heap.objs.size) "set" := ⟨_, gS, rfl⟩
      have i1 := PySem.F.called_set.init.lookup
      have i2 := PySem.F.called_set.init.bind (.ref s.heap.objs.size)
      repeat any_goals first | wp_step | assumption
      refine codeAny_mono (codeAny_call_builtin (R := wants (fun r s2 => r = .none ∧ ∃ h2 tk, s2 = { s with heap := h2, toks := tk } ∧ h2.SetOf (PySem.strKind prog w) s.heap.objs.size (fun k' => decide (k' ∈ met [] xs)) (met [] xs).length ∧
        ∀ b o, s.heap.get? b = some o → h2.get? b = some o) E) PySem.F.called_set.init.plain PySem.F.entry_set_init (check_set_init_1 tS ?_)) fun r2 s2 back2 => ?_
      · obtain ⟨ol, gl, cl, nl, dl⟩ := at_
        obtain ⟨ocls, odict, odata, oslots⟩ := ol
        simp only at cl dl
        subst cl; subst dl
        have gl' : (s.heap.push (bare led)).get? src = some { cls := .type "list", dict := odict, data := .seq items nl, slots := oslots } := Heap.get?_push_of_some _ gl
        have u1 := PySem.F.sub_list_set
        have u2 := PySem.F.sub_list_frozenset
        have u3 : (Value.type "list" == Value.type "dict") = false := by decide
        have at2 : (s.heap.push (bare led)).IsList src items := ⟨_, gl', rfl, nl, rfl⟩
        unfold Builtin.«set.__init__» noKeywords Builtin.Frozenset.updateFrom
        generalize hide : pyIter = PI
        wp_walk
        subst hide
        refine wpAny_pyIter_list at2 (wpAny_bind (wpAny_runValue ?_))
        have small : src < s.heap.objs.size := Heap.lt_size gl
        have calm3 : A.in1.in1.in1.handled = none := by simp [calm]
        have z1 : (s.heap.push (bare led)).objs.size = s.heap.objs.size + 1 := Heap.size_push ..
        have d1 : src ≠ (s.heap.push (bare led)).objs.size := by rw [z1]; exact Nat.ne_of_lt (Nat.lt_succ_of_lt small)
        have d2 : s.heap.objs.size ∉ [(s.heap.push (bare led)).objs.size, src] := by
          rw [z1]
          intro hm2
          rcases List.mem_cons.mp hm2 with e | hm2
          · exact Nat.ne_of_lt (Nat.lt_succ_self _) e
          · exact Nat.ne_of_gt small (List.mem_singleton.mp hm2)
        have sz : xs.length = items.size := by rw [← StrsAre.len_eq are, Array.length_toList]
        have vals : ∀ (i : Nat) (v : Value), items[i]? = some v → ∃ t, v = .str (xs.getD i Str.empty) t := fun i v hv => SS.strs_at are i v (by rw [Array.getElem?_toList]; exact hv)
        refine upd_loop (S := s.heap.objs.size) ((Walks.list calm3 _ src d1 items).toS) d2 sz vals (by omega) items.size 0 [] _ (Nat.zero_add _) (Nat.le_refl _) ⟨⟨_, Heap.get?_push_size _ rfl, rfl, rfl⟩, (at2.push _)⟩ ?first ?last
        case first =>
          exact SetOf_congr ((setObjOf_fresh (knd := PySem.strKind prog w) led).setOf (Heap.get?_push_of_some _ gS) (by decide)) (fun _ => rfl) rfl
        case last =>
          intro s' mv so
          obtain ⟨h', g', d', tk', os'⟩ := s'
          obtain rfl : g' = s.gens := mv.gens
          obtain rfl : d' = s.drawn := mv.drawn
          obtain rfl : os' = s.os := mv.os
          refine wpAny_pure (wpAny_pure ⟨rfl, h', tk', rfl, so, fun b o q => ?_⟩)
          have lb : b < s.heap.objs.size := Heap.lt_size q
          refine mv.heap b o (fun hm2 => ?_) (Heap.get?_push_of_some _ (Heap.get?_push_of_some _ q))
          rcases List.mem_cons.mp hm2 with e | hm2
          · exact Nat.ne_of_lt lb e
          · have e2 := List.mem_singleton.mp hm2
            rw [z1] at e2
            exact Nat.ne_of_lt (Nat.lt_succ_of_lt lb) e2
      · cases r2 with
        | error e => exact back2
        | ok fl2 =>
          cases fl2 with
          | next => exact back2.elim
          | brk => exact back2.elim
          | cont => exact back2.elim
          | ret r =>
            obtain ⟨rfl, h2, tk, rfl, so, kp⟩ := back2
            repeat any_goals first | wp_step | assumption
            exact k _ _ so kp
set_option maxHeartbeats 3200000 in
/-- set(tuple of texts) -/
theorem set_tuple {Q : Value → Shared → Prop} (calm : A.handled = none) (at_ : s.heap.IsTuple src items) (are : PyProof.Rows.StrsAre items.toList xs) (few : xs.length + 1 < scanBound)
    (k : ∀ (h2 : Heap) (tk : Nat), h2.SetOf (PySem.strKind prog w) s.heap.objs.size (fun k' => decide (k' ∈ met [] xs)) (met [] xs).length → (∀ b o, s.heap.get? b = some o → h2.get? b = some o) → Q (.ref s.heap.objs.size) { s with heap := h2, toks := tk }) :
    wpAny (model prog w) A (call (.type "set") [.ref src]) Q E s := by
  have m1 := PySem.F.called_set.mro
  obtain ⟨_, _, hm⟩ := m1
  have made := PySem.F.called_set.made
  have below := PySem.F.called_set.sub
  refine wpAny_call (codeAny_of_tree ?_)
  show wpAny _ _ (callAny (Value.type "set") ⟨[Value.ref src], []⟩) _ _ _
  refine wpAny_pure (And.intro (Code.quiet_builtin _ (by decide +kernel)) (codeAny_builtin PySem.F.entry_type_call ?_))
  rw [Around.under_plain (weight_type_call_type "set" [Value.ref src] []) rfl]
  have n1 := PySem.F.called_set.notType
  have n2 := PySem.F.called_set.canCreate
  have n3 := PySem.F.typeCall_set_1 (Value.ref src)
  repeat any_goals first | wp_step | assumption
  refine codeAny_mono (code_set_new_1 (Value.ref src) (E := E) (Q₁ := fun x s1 => ∃ led, x = .ref s.heap.objs.size ∧ s1 = { s with heap := s.heap.push (bare led) }) fun led => ⟨led, rfl, rfl⟩) fun r s1 back => ?_
  cases r with
  | error e => exact back
  | ok fl =>
    cases fl with
    | next => exact back.elim
    | brk => exact back.elim
    | cont => exact back.elim
    | ret x =>
      obtain ⟨led, rfl, rfl⟩ := back
      have gS : (s.heap.push (bare led)).get? s.heap.objs.size = some (bare led) := Heap.get?_push_size _ rfl
      have tS : Shared.TypeIs { s with heap := s.heap.push (bare led) } (.ref s.heap.objs.size) "set" := ⟨_, gS, rfl⟩
      have i1 := PySem.F.called_set.init.lookup
      have i2 := PySem.F.called_set.init.bind (.ref s.heap.objs.size)
      repeat any_goals first | wp_step | assumption
      refine codeAny_mono (codeAny_call_builtin (R := wants (fun r s2 => r = .none ∧ ∃ h2 tk, s2 = { s with heap := h2, toks := tk } ∧ h2.SetOf (PySem.strKind prog w) s.heap.objs.size (fun k' => decide (k' ∈ met [] xs)) (met [] xs).length ∧
        ∀ b o, s.heap.get? b = some o → h2.get? b = some o) E) PySem.F.called_set.init.plain PySem.F.entry_set_init (check_set_init_1 tS ?_)) fun r2 s2 back2 => ?_
      · obtain ⟨ol, gl, cl, nl, dl⟩ := at_
        obtain ⟨ocls, odict, odata, oslots⟩ := ol
        simp only at cl dl
        subst cl; subst dl
        have gl' : (s.heap.push (bare led)).get? src = some { cls := .type "tuple", dict := odict, data := .seq items nl, slots := oslots } := Heap.get?_push_of_some _ gl
        have u1 := PySem.F.sub_tuple_set
        have u2 := PySem.F.sub_tuple_frozenset
        have u3 : (Value.type "tuple" == Value.type "dict") = false := by decide
        have at2 : (s.heap.push (bare led)).IsTuple src items := ⟨_, gl', rfl, nl, rfl⟩
        unfold Builtin.«set.__init__» noKeywords Builtin.Frozenset.updateFrom
        generalize hide : pyIter = PI
        wp_walk
        subst hide
        refine wpAny_pyIter_tuple at2 (wpAny_bind (wpAny_runValue ?_))
        have small : src < s.heap.objs.size := Heap.lt_size gl
        have calm3 : A.in1.in1.in1.handled = none := by simp [calm]
        have z1 : (s.heap.push (bare led)).objs.size = s.heap.objs.size + 1 := Heap.size_push ..
        have d1 : src ≠ (s.heap.push (bare led)).objs.size := by rw [z1]; exact Nat.ne_of_lt (Nat.lt_succ_of_lt small)
        have d2 : s.heap.objs.size ∉ [(s.heap.push (bare led)).objs.size, src] := by
          rw [z1]
          intro hm2
          rcases List.mem_cons.mp hm2 with e | hm2
          · exact Nat.ne_of_lt (Nat.lt_succ_self _) e
          · exact Nat.ne_of_gt small (List.mem_singleton.mp hm2)
        have sz : xs.length = items.size := by rw [← StrsAre.len_eq are, Array.length_toList]
        have vals : ∀ (i : Nat) (v : Value), items[i]? = some v → ∃ t, v = .str (xs.getD i Str.empty) t := fun i v hv => SS.strs_at are i v (by rw [Array.getElem?_toList]; exact hv)
        refine upd_loop (S := s.heap.objs.size) ((Walks.tuple calm3 _ src d1 items).toS) d2 sz vals (by omega) items.size 0 [] _ (Nat.zero_add _) (Nat.le_refl _) ⟨⟨_, Heap.get?_push_size _ rfl, rfl, rfl⟩, (at2.push _)⟩ ?first ?last
        case first =>
          exact SetOf_congr ((setObjOf_fresh (knd := PySem.strKind prog w) led).setOf (Heap.get?_push_of_some _ gS) (by decide)) (fun _ => rfl) rfl
        case last =>
          intro s' mv so
          obtain ⟨h', g', d', tk', os'⟩ := s'
          obtain rfl : g' = s.gens := mv.gens
          obtain rfl : d' = s.drawn := mv.drawn
          obtain rfl : os' = s.os := mv.os
          refine wpAny_pure (wpAny_pure ⟨rfl, h', tk', rfl, so, fun b o q => ?_⟩)
          have lb : b < s.heap.objs.size := Heap.lt_size q
          refine mv.heap b o (fun hm2 => ?_) (Heap.get?_push_of_some _ (Heap.get?_push_of_some _ q))
          rcases List.mem_cons.mp hm2 with e | hm2
          · exact Nat.ne_of_lt lb e
          · have e2 := List.mem_singleton.mp hm2
            rw [z1] at e2
            exact Nat.ne_of_lt (Nat.lt_succ_of_lt lb) e2
      · cases r2 with
        | error e => exact back2
        | ok fl2 =>
          cases fl2 with
          | next => exact back2.elim
          | brk => exact back2.elim
          | cont => exact back2.elim
          | ret r =>
            obtain ⟨rfl, h2, tk, rfl, so, kp⟩ := back2
            repeat any_goals first | wp_step | assumption
            exact k _ _ so kp
end
end Ssb

/-! Sets of texts as tracked things: set(xs), {text for ..}, their len. -/
namespace Ssb
open PySem PySem.Spec PyProof.Rows L2

/-- at a: the set of the texts of l -/
def Txs (P : Program) (w : World) (a : Addr) (l : List Str) : HO := .ext fun h => h.SetOf (PySem.strKind P w) a (fun k => decide (k ∈ l)) l.length
/-- l with x at its end, if it is not there -/
def put1 (l : List Str) (x : Str) : List Str := if x ∈ l then l else l ++ [x]
theorem put1_len (l : List Str) (x : Str) : (put1 l x).length ≤ l.length + 1 := by
  unfold put1
  by_cases h : x ∈ l
  · rw [if_pos h]; omega
  · rw [if_neg h, List.length_append]; exact Nat.le_refl _
section
variable {P : Program} {w : World} {X : Cx}
theorem txs_ok {H : Hp} {h : Heap} {a : Addr} {l : List Str} (r : h.SetOf (PySem.strKind P w) a (fun k => decide (k ∈ l)) l.length) : ObjOk P w H h a (Txs P w a l) := by
  refine ⟨r, ?_, fun g1 g2 p k => ?_⟩
  · obtain ⟨o, _, _, _, q, _⟩ := r; exact ⟨o, q⟩
  · obtain ⟨o, b1, b2, b3, q, r2⟩ := p; exact ⟨o, b1, b2, b3, k o q, r2⟩
theorem txs_at {pins : List (Addr × Obj)} {σ : L2.St} {H : Hp} {s : Shared} {a : Addr} {l : List Str} (I : Inv X pins σ H s) (e : H a = some (Txs X.prog X.w a l)) : s.heap.SetOf (PySem.strKind X.prog X.w) a (fun k => decide (k ∈ l)) l.length := by
  have z : ObjOk X.prog X.w H s.heap a (.ext fun h => h.SetOf (PySem.strKind X.prog X.w) a (fun k => decide (k ∈ l)) l.length) := I.hok a _ e
  exact z.1
/-- one text more -/
theorem txs_add {pins : List (Addr × Obj)} {σ : L2.St} {H : Hp} {s : Shared} {E : Value → Shared → Prop} {a : Addr} {l : List Str} {x : Str} {t : Tok} {Q : Value → Shared → Prop} (I : Inv X pins σ H s) (e : H a = some (Txs X.prog X.w a l)) (few : l.length + 1 < scanBound)
    (k : ∀ s2, Inv X pins σ (upd H a (Txs X.prog X.w a (put1 l x))) s2 → Q .none s2) : wpAny (model X.prog X.w) X.A (call (.builtin "set.add") [.ref a, .str x t]) Q E s := by
  refine PySem.call_set_add (knd := PySem.strKind X.prog X.w) (strKind_is _ _ _ _) rfl (txs_at I e) few fun h2 sb so => ?_
  have so2 : h2.SetOf (PySem.strKind X.prog X.w) a (fun k' => decide (k' ∈ put1 l x)) (put1 l x).length := SetOf_congr so (fun k' => met_in l x k') (met_size l x)
  have there : ∃ u, h2.get? a = some u := by
    obtain ⟨o, _, _, _, q, _⟩ := so2; exact ⟨o, q⟩
  exact k _ (I.write (t' := s.toks + 1) (x := a) (e := a) (by rw [e]; trivial) (.inl rfl) (fun b u hb q => (sb.2 b hb).trans q) there (txs_ok so2))

/-! ### set(xs) -/
def rSetS (K : PySem.W.Frag) (P : Program) (w : World) : List V → Hp → VK → Prop := fun vs H Q => ∃ (a : Addr) (xs : List Str), vs = [.ref a] ∧ (SqL K H a (xs.map V.str) ∨ SqT K H a (xs.map V.str)) ∧ xs.length + 1 < scanBound ∧
  ∀ p, H p = none → Q (.ref p) (upd H p (Txs P w p (met [] xs)))
theorem cr_setS (hc : X.calm = true) : CallR X (.type "set") (rSetS X.K X.prog X.w) := by
  intro pins s σ H vs us Q I r q
  obtain ⟨a, xs, rfl, sq, few, k⟩ := q
  rw [Vals.ref1 r]
  have new : H s.heap.objs.size = none := I.hok.fresh (Nat.le_refl _)
  have done : ∀ (h2 : Heap) (tk : Nat), h2.SetOf (PySem.strKind X.prog X.w) s.heap.objs.size (fun k' => decide (k' ∈ met [] xs)) (met [] xs).length → (∀ b o, s.heap.get? b = some o → h2.get? b = some o) → EP X pins σ Q (.ref s.heap.objs.size) { s with heap := h2, toks := tk } :=
    fun h2 tk so kp => ⟨.ref s.heap.objs.size, upd H s.heap.objs.size (Txs X.prog X.w s.heap.objs.size (met [] xs)), I.laid (t' := tk) kp (Nat.le_refl _) (txs_ok so), rfl, k _ new⟩
  rcases sq with sq | sq
  · obtain ⟨its, rv, pl, _⟩ := I.list sq
    exact set_list (I.ok.hd hc) pl.isList (by simpa using strsAre_of rv) few done
  · obtain ⟨its, rv, pl, _⟩ := I.tuple sq
    exact set_tuple (I.ok.hd hc) pl (by simpa using strsAre_of rv) few done
/-! ### len of it -/
def rLenTxs (P : Program) (w : World) : List V → Hp → VK → Prop := fun vs H Q => ∃ (a : Addr) (l : List Str), vs = [.ref a] ∧ H a = some (Txs P w a l) ∧ l.length < 1000000 ∧ Q (.int l.length) H
theorem call_lenTxs : CallR X (.builtin "len") (rLenTxs X.prog X.w) := by
  intro pins s σ H vs us Q I r q
  obtain ⟨a, l, rfl, e, few, k⟩ := q
  rw [Vals.ref1 r]
  obtain ⟨o, es, ep, t, ho, ex, dt, _, _, _, fits, n⟩ := txs_at I e
  refine PySem.call_len_set ho ex dt fits (by rw [n]; omega) ⟨.int l.length, H, I.tok _, ⟨_, by rw [n]⟩, k⟩
end

/-! ### {text for ..} -/
/-- the reading: D, the new set -/
def tTxs (P : Program) (w : World) (wi : TI) (g : TG) (tt : TT) (te : TE) (vs : List Nat) : TE := fun σ H Q => wi σ H fun J H1 => ∀ D, H1 D = none → ∃ W : Nat → Nat → Hp → Prop, (∃ m, W 0 m (upd H1 D (Txs P w D []))) ∧ ∀ i m H, W i m H →
  (J.stop i H ∧ Q (.ref D) H) ∨ (J.go i H ∧ ∃ Nx : Hp → Prop, (∀ H', Nx H' → ∃ m', m' < m ∧ W (i + 1) m' H') ∧ ∀ x H', J.yld i H x H' → g x (wipe σ vs) H' fun σ2 H2 => wipe σ2 vs = wipe σ vs ∧ tt σ2 H2 fun b H3 =>
    if b = true then te σ2 H3 fun y H4 => ∃ (z : Str) (l : List Str), y = .str z ∧ H4 D = some (Txs P w D l) ∧ l.length + 1 < scanBound ∧ Nx (upd H4 D (Txs P w D (put1 l z))) else Nx H3)
section
variable {X : Cx} {elt tg iter : Expr} {ifs : List Expr} {scope : Scope} {own : List (PySem.Str × Nat)} {pos pos' : Pos} {wi : TI} {g : TG} {tt : TT} {te : TE}
theorem pe_scT (hc : X.calm = true) (hN : X.N.Nodup) (hi : PI X tg iter wi) (ok : BlkOk X.N X.env.scope scope own)
    (hg : ∀ (u : Shared) (B : Hp) (C : Addr) (cl : List (PySem.Str × Addr)) (fp : List Addr), PG (X.blk u B scope (compEnvC scope cl C X.env) fp) tg g)
    (ht : ∀ (u : Shared) (B : Hp) (C : Addr) (cl : List (PySem.Str × Addr)) (fp : List Addr), PTs (X.blk u B scope (compEnvC scope cl C X.env) fp) ifs tt)
    (he : ∀ (u : Shared) (B : Hp) (C : Addr) (cl : List (PySem.Str × Addr)) (fp : List Addr), PE (X.blk u B scope (compEnvC scope cl C X.env) fp) elt te)
    (hf : ∀ x, foldedSetIterable iter X.env x = pure x := by intro _; rfl) :
    PE X (.SetComp elt [⟨tg, iter, ifs, 0⟩] scope pos) (tTxs X.prog X.w wi g tt te (own.map (·.2))) := by
  refine ⟨fun pins s σ H Q I red => ?_⟩
  rw [PpSet.eval_SetComp]
  have caught : ∀ y ∈ scope.names, y.2 = .free → ∃ c, X.env.cells.lookup y.1 = some c := fun y hy e => (ok.free y hy e).elim (fun k => I.ok.has _ (.inl k)) fun k => I.ok.has _ (.inr k)
  refine wpAny_comprehension_free rfl hf (closure_ok caught) ok.kind (fun y hy e => by rw [ok.uniq y hy, e]) (thn (hi.run pins s σ H _ I red) fun _ s1 r1 => thn r1 fun _ s2 r2 => ?_)
  obtain ⟨it, fp, at_, J, H2, rfl, I2, T, now, apart, rest⟩ := r2
  refine PpSet.newSet_ok (newEnv_comp ?_)
  have noD : H2 s2.heap.objs.size = none := I2.hok.fresh (Nat.le_refl _)
  obtain ⟨W, ⟨m0, w0⟩, turn⟩ := rest _ noD
  generalize eD : s2.heap.objs.size = D at noD w0 turn ⊢
  generalize e3 : ({ s2 with heap := s2.heap.push (bare (!X.w.params.followText "set-order")) } : Shared) = s3
  have g3 : s3.heap = s2.heap.push (bare (!X.w.params.followText "set-order")) := by rw [← e3]
  generalize eH3 : upd H2 D (Txs X.prog X.w D []) = H3 at w0
  have I3 : Inv X pins σ H3 s3 := by
    rw [← e3, ← eH3]
    refine I2.laid (t' := s2.toks) (fun b o q => Heap.get?_push_of_some _ q) (Nat.le_of_eq eD) (txs_ok ?_)
    rw [← eD]
    exact SetOf_congr ((setObjOf_fresh (knd := PySem.strKind X.prog X.w) _).setOf (Heap.get?_push_size _ rfl) (by decide)) (fun _ => rfl) rfl
  have low : ∀ b ∈ fp, b < s2.heap.objs.size := fun b hb => by
    obtain ⟨o, q, _⟩ := T.obj _ _ now b hb; exact Heap.lt_size q
  have fp3 : ∀ b ∈ fp, FpOk X pins H3 b ∧ b < s3.heap.objs.size := fun b hb => by
    refine ⟨⟨?_, (apart b hb).2⟩, by rw [g3, Heap.size_push]; exact Nat.lt_succ_of_lt (low b hb)⟩
    rw [← eH3, upd_ne (by rw [← eD]; exact Nat.ne_of_lt (low b hb))]
    exact (apart b hb).1
  have now3 : at_ 0 s3.heap := T.keep _ _ _ now fun b _ o q => by rw [g3]; exact Heap.get?_push_of_some _ q
  have B4 := block_start I3 ok hN fp3
  generalize eC : compEnvC scope (cellsFrom (s3.heap.objs.size + 1) scope.names (cloFrom X.env.cells scope.names [])) s3.heap.objs.size X.env = ce at B4
  have pG : PG (X.blk s3 H3 scope ce fp) tg g := by rw [← eC]; exact hg _ _ _ _ _
  have pT : PTs (X.blk s3 H3 scope ce fp) ifs tt := by rw [← eC]; exact ht _ _ _ _ _
  have pE : PE (X.blk s3 H3 scope ce fp) elt te := by rw [← eC]; exact he _ _ _ _ _
  have eL : ce.locals = s3.heap.objs.size := by rw [← eC]; rfl
  have fpN : ∀ b ∈ fp, H3 b = none := fun b hb => (fp3 b hb).1.1
  generalize e4 : ({ s3 with heap := pushCells (s3.heap.push { cls := .type "dict", data := .dict #[] }) scope.names } : Shared) = s4 at B4
  have now4 : at_ 0 s4.heap := T.keep _ _ _ now3 fun b _ o q => by rw [← e4]; exact pushCells_keeps _ _ _ _ (Heap.get?_push_of_some _ q)
  show codeAny _ _ (.compStart (.SetComp elt [⟨tg, iter, ifs, 0⟩] scope pos) 0 (.ref it) (.ref D) (compEnvC scope (cellsFrom (s3.heap.objs.size + 1) scope.names (cloFrom X.env.cells scope.names [])) s3.heap.objs.size X.env)) (compPost _ _ _ none _ (.ref D) s3.heap.objs.size) s4
  rw [eC]
  have fpOk : ∀ {σ' : L2.St} {H' : Hp} {s' : Shared}, Inv (X.blk s3 H3 scope ce fp) [] σ' H' s' → (∀ b ∈ fp, H' b = none) → ∀ b ∈ fp, FpOk (X.blk s3 H3 scope ce fp) [] H' b := fun {_ _ _} J' no b hb =>
    ⟨no b hb, (J'.ok.exf b hb).1, J'.ok.exfs b hb, .inl hb, fun x c q => (J'.ok.exf b hb).2 x c q, fun p hp => nomatch (show p ∈ ([] : List (Addr × Obj)) from hp)⟩
  refine PpSet.codeAny_compStart_set ?_ (T.self X.A 0 _ _ _ now4 ?_)
  all_goals
    refine PpSet.compLoopS_any (fun m u => ∃ i G, Inv (X.blk s3 H3 scope ce fp) [] (wipe σ (own.map (·.2))) G u ∧ at_ i u.heap ∧ (∀ b ∈ fp, G b = none) ∧ W i m G) ?_ m0 ⟨0, H3, B4, now4, fpN, w0⟩
    rintro m u ⟨i, G, B5, now5, no5, w5⟩
    rcases turn i m G w5 with ⟨stop, fin⟩ | ⟨go, Nx, less, step⟩
    · refine thnF (T.done (X.blk s3 H3 scope ce fp) rfl rfl rfl hc i [] u _ G (fun _ _ => False) B5 (fpOk B5 no5) now5 stop) fun r s6 ⟨er, B6⟩ => ?_
      subst er
      have I7 : Inv X pins σ G s6 := I3.call' (ch := fp) B6.os B6.base B6.hok B6.bare fun b hb => ⟨(fp3 b hb).1.2.2.2.1, (fp3 b hb).1.2.1, (fp3 b hb).1.2.2.2.2.1, (fp3 b hb).1.2.2.2.2.2⟩
      obtain ⟨mm, ns, _⟩ := B6.loc
      have ns : s6.heap.Ns ce.locals mm := ns
      have noC : G ce.locals = none := B6.free
      rw [eL] at ns noC
      obtain ⟨f0, f1, f2, f3, f4, f5⟩ := I3.fpOk (Nat.le_refl _) noC
      exact ⟨mm, ns, fun h'' sb => ⟨.ref D, G, I7.turned (t' := s6.toks) (fun b o hb q => (sb.2 b hb).trans q) f0 f1 f3 f4 f5, rfl, fin⟩⟩
    · refine thnF (T.item (X.blk s3 H3 scope ce fp) rfl rfl rfl hc i [] u _ G (fun _ _ => False) B5 (fpOk B5 no5) now5 go) fun r s6 ⟨v, er, r6⟩ => ?_
      subst er
      refine thnF r6 fun _ s7 ⟨x, G7, B7, rx, y7, now7, no7⟩ => ?_
      refine thnF (pG.run _ s7 _ G7 x v _ (B7.pinned (fpOk B7 no7) (T.obj _ _ now7)) rx (step x G7 y7)) fun _ s8 ⟨σ8, G8, B8, wp8, q8⟩ => ?_
      refine thnF (pT.run _ s8 σ8 G8 _ B8 q8) fun b s9 ⟨G9, B9, q9⟩ => ?_
      have close : ∀ {u' : Shared} {G' : Hp}, Inv (X.blk s3 H3 scope ce fp) ([] ++ pinsAt fp s7.heap) σ8 G' u' → Nx G' → ∃ m', m' < m ∧ ∃ i' G2, Inv (X.blk s3 H3 scope ce fp) [] (wipe σ (own.map (·.2))) G2 u' ∧ at_ i' u'.heap ∧ (∀ b ∈ fp, G2 b = none) ∧ W i' m' G2 := fun {u' G'} B' nx => by
        obtain ⟨m', lt, w'⟩ := less G' nx
        have held : ∀ b ∈ fp, ∀ o, s7.heap.get? b = some o → u'.heap.get? b = some o ∧ G' b = none := fun b hb o q =>
          ⟨(B'.pin (b, o) (List.mem_append_right _ (List.mem_append_right _ (mem_pinsAt hb q)))).1, (B'.pin (b, o) (List.mem_append_right _ (List.mem_append_right _ (mem_pinsAt hb q)))).2.1⟩
        refine ⟨m', lt, i + 1, G', (B'.unpinned (pins := [])).weak (by rw [← wp8, wipe_length]) (fun j z e => (wipe_some (by rw [wp8]; exact e)).1), T.keep _ _ _ now7 fun b hb o q => (held b hb o q).1, fun b hb => ?_, w'⟩
        obtain ⟨o, q, _⟩ := T.obj _ _ now7 b hb
        exact (held b hb o q).2
      cases b with
      | false =>
        simp only [Bool.false_eq_true, if_false] at q9 ⊢
        exact close B9 q9
      | true =>
        simp only [if_true] at q9 ⊢
        refine thnF (pE.run _ s9 σ8 G9 _ B9 q9) fun z s10 ⟨yv, G10, B10, r10, tx, l0, ey, at10, few, nx⟩ => ?_
        subst ey
        obtain ⟨tk, rfl⟩ := (show ∃ t, z = Value.str tx t from r10)
        exact txs_add (X := X.blk s3 H3 scope ce fp) B10 at10 few fun s11 B11 => close B11 nx
end
end Ssb

/-! Words: a def and its promise in one; data on the heap; loops over dicts. -/
namespace Ssb
open PySem PySem.Spec PyProof.Rows L2
open Evl (Ex Ev EvT EvL EvA EvU)

/-! ### a def of the module, a method of a class, and its promise -/
structure Fn (P : Program) (w : World) (K : PySem.W.Frag) (mg : Str → Option Value) (base : Heap) (nm : Str) (k : Nat) (ps : List Str) (sp : Sp) (f : Addr) (fd : FuncData) : Prop where
  ok : FnOk P w K mg base CX0 k f fd ps sp
  at_ : mg nm = some (.ref f)
  kp : PySem.W.keepIn K (.ref f) = true
  bd : Binds K fd ps []
structure Mt (P : Program) (w : World) (K : PySem.W.Frag) (mg : Str → Option Value) (base : Heap) (C : Addr) (nm : Str) (k : Nat) (ps : List Str) (sp : Sp) (f : Addr) (fd : FuncData) : Prop where
  ok : FnOk P w K mg base CX0 k f fd ps sp
  mt : Meth K C nm f
  bd : Binds K fd ps []
section
variable {X : Cx} {nm : Str} {k j : Nat} {ps : List Str} {sp : Sp} {f : Addr} {fd : FuncData} {p pos : Pos} {e : Expr} {es : List Expr} {t : TA}
theorem pcl (G : Fn X.prog X.w X.K X.mg X.base nm k ps sp f fd) (hr : Room j X.A) (ha : PA X (e :: es) t) (hj : k ≤ j := by first | decide | omega) (hg : Gl X nm := by rfl) (hdb : (nm == ("__debug__" : Str)) = false := by decide)
    (he : starEach (e :: es) X.env = (false, eval e X.env) :: starEach es X.env := by rfl) (hpl : (backTo pos (starEach es X.env)).any (·.1) = false := by rfl) : PE X (.Call (.Name nm p) (e :: es) [] pos) (tCall sp [] E0 t) :=
  pe_call G.ok (hr.mono hj) hg G.at_ G.kp G.bd .nil pass0 ha hdb he hpl
variable {o : Expr} {ta : TE} {apos : Pos} {C : Addr} {pl : Sem Bool}
theorem pmt (ho : PE X o ta) (c : Cls X.K C) (G : Mt X.prog X.w X.K X.mg X.base C nm k ps sp f fd) (hr : Room j X.A) (ha : PA X (e :: es) t) (hj : k ≤ j := by first | decide | omega)
    (he : starEach (e :: es) X.env = (false, eval e X.env) :: starEach es X.env := by rfl) (hpl : (backTo pos (starEach es X.env)).any (·.1) = false := by rfl)
    (ht : eval (.Call (.Attribute o nm apos) (e :: es) [] pos) X.env = (do
      let ov ← eval o X.env
      standAt apos.atName
      let (f, first) ← holding [ov] (getMethod ov nm pl)
      callWith pos f first (backTo pos (starEach (e :: es) X.env)) (backToKw pos (keywordEach [] X.env))) := by rfl) : PE X (.Call (.Attribute o nm apos) (e :: es) [] pos) (tMeth C nm sp [] E0 ta t) :=
  pe_meth ho c G.mt G.ok (hr.mono hj) G.bd .nil pass0 ha he hpl ht
theorem pmt0 (ho : PE X o ta) (c : Cls X.K C) (G : Mt X.prog X.w X.K X.mg X.base C nm k ps sp f fd) (hr : Room j X.A) (hj : k ≤ j := by first | decide | omega)
    (ht : eval (.Call (.Attribute o nm apos) [] [] pos) X.env = (do
      let ov ← eval o X.env
      standAt apos.atName
      let (f, first) ← holding [ov] (getMethod ov nm pl)
      callWith pos f first (backTo pos (starEach [] X.env)) (backToKw pos (keywordEach [] X.env))) := by rfl) : PE X (.Call (.Attribute o nm apos) [] [] pos) (tMeth C nm sp [] E0 ta tNil) :=
  pe_meth0 ho c G.mt G.ok (hr.mono hj) G.bd .nil pass0 ht
/-- a test that is never asked -/
def tNeverT : TT := fun _ _ _ => False
theorem pt_unseen : PT X e tNeverT := ⟨fun _ _ _ _ _ _ h => h.elim⟩
def tNeverE : TE := fun _ _ _ => False
theorem pe_unseen : PE X e tNeverE := ⟨fun _ _ _ _ _ _ h => h.elim⟩
end

/-! ### data, as they stand on the heap: lists and dicts at places of S, a dict never within itself -/
inductive D where
  | non | bl (b : Bool) | int (i : Int) | str (s : Str) | lst (l : List D) | tup (l : List D) | dic (l : List (Str × D))
def Rep (H : Hp) : Nat → (Addr → Prop) → D → V → Prop
  | 0, _, _, _ => False
  | _ + 1, _, .non, v => v = .non
  | _ + 1, _, .bl b, v => v = .bl b
  | _ + 1, _, .int i, v => v = .int i
  | _ + 1, _, .str s, v => v = .str s
  | n + 1, S, .lst l, v => ∃ a xs, v = .ref a ∧ S a ∧ H a = some (.lst xs) ∧ l.length ≤ 100000 ∧ Paired (fun d x => Rep H n S d x) l xs
  | n + 1, S, .tup l, v => ∃ a xs, v = .ref a ∧ H a = some (.tup xs) ∧ l.length ≤ 100000 ∧ Paired (fun d x => Rep H n S d x) l xs
  | n + 1, S, .dic l, v => ∃ a es, v = .ref a ∧ S a ∧ H a = some (.dK es) ∧ l.length ≤ 100000 ∧ Paired (fun (q : Str × D) (e : Key × V) => e.1 = Sum.inr q.1 ∧ Rep H n (fun b => S b ∧ b ≠ a) q.2 e.2) l es
theorem pair_imp {α β : Type} {F G : α → β → Prop} : ∀ {l : List α} {m : List β}, Paired F l m → (∀ a b, F a b → G a b) → Paired G l m
  | _, _, .nil, _ => .nil
  | _, _, .cons h t, k => .cons (k _ _ h) (pair_imp t k)
theorem pair_len {α β : Type} {F : α → β → Prop} : ∀ {l : List α} {m : List β}, Paired F l m → l.length = m.length
  | _, _, .nil => rfl
  | _, _, .cons _ t => congrArg (· + 1) (pair_len t)
theorem pair_at {α β : Type} {F : α → β → Prop} : ∀ {l : List α} {m : List β} {i : Nat} {a : α}, Paired F l m → l[i]? = some a → ∃ b, m[i]? = some b ∧ F a b
  | _, _, _, _, .nil, e => by simp at e
  | _, _, 0, _, .cons h _, e => by
    simp at e; subst e; exact ⟨_, rfl, h⟩
  | _, _, i + 1, _, .cons _ t, e => by
    obtain ⟨b, h1, h2⟩ := pair_at (i := i) t (by simpa using e)
    exact ⟨b, by simpa using h1, h2⟩
theorem pair_back {α β : Type} {F : α → β → Prop} : ∀ {l : List α} {m : List β} {i : Nat} {b : β}, Paired F l m → m[i]? = some b → ∃ a, l[i]? = some a ∧ F a b
  | _, _, _, _, .nil, e => by simp at e
  | _, _, 0, _, .cons h _, e => by
    simp at e; subst e; exact ⟨_, rfl, h⟩
  | _, _, i + 1, _, .cons _ t, e => by
    obtain ⟨b, h1, h2⟩ := pair_back (i := i) t (by simpa using e)
    exact ⟨b, by simpa using h1, h2⟩
theorem pair_app {α β : Type} {F : α → β → Prop} : ∀ {l l' : List α} {m m' : List β}, Paired F l m → Paired F l' m' → Paired F (l ++ l') (m ++ m')
  | _, _, _, _, .nil, t => t
  | _, _, _, _, .cons h r, t => .cons h (pair_app r t)
theorem pair_snoc {α β : Type} {F : α → β → Prop} {l : List α} {m : List β} {a : α} {b : β} (p : Paired F l m) (h : F a b) : Paired F (l ++ [a]) (m ++ [b]) := pair_app p (.cons h .nil)
/-- what is told at the places of S (and of tuples) is all that counts -/
theorem rep_to {H H' : Hp} : ∀ {n : Nat} {S : Addr → Prop} {d : D} {v : V}, (∀ b o, H b = some o → (S b ∨ ∃ xs, o = .tup xs) → H' b = some o) → Rep H n S d v → Rep H' n S d v
  | 0, _, _, _, _, h => h.elim
  | n + 1, S, d, v, k, h => by
    cases d with
    | non => exact h
    | bl b => exact h
    | int i => exact h
    | str s => exact h
    | lst l =>
      obtain ⟨a, xs, e, s, ha, hl, p⟩ := h
      exact ⟨a, xs, e, s, k a _ ha (.inl s), hl, pair_imp p fun d x r => rep_to k r⟩
    | tup l =>
      obtain ⟨a, xs, e, ha, hl, p⟩ := h
      exact ⟨a, xs, e, k a _ ha (.inr ⟨xs, rfl⟩), hl, pair_imp p fun d x r => rep_to k r⟩
    | dic l =>
      obtain ⟨a, es, e, s, ha, hl, p⟩ := h
      exact ⟨a, es, e, s, k a _ ha (.inl s), hl, pair_imp p fun q x r => ⟨r.1, rep_to (fun b o hb z => k b o hb (z.imp (·.1) id)) r.2⟩⟩
theorem rep_ex {H H' : Hp} {n : Nat} {S : Addr → Prop} {d : D} {v : V} (e : Ex H H') (h : Rep H n S d v) : Rep H' n S d v := rep_to (fun b o hb _ => e b o hb) h
theorem rep_S {H : Hp} : ∀ {n : Nat} {S S' : Addr → Prop} {d : D} {v : V}, (∀ b, S b → S' b) → Rep H n S d v → Rep H n S' d v
  | 0, _, _, _, _, _, h => h.elim
  | n + 1, S, S', d, v, k, h => by
    cases d with
    | non => exact h
    | bl b => exact h
    | int i => exact h
    | str s => exact h
    | lst l =>
      obtain ⟨a, xs, e, s, ha, hl, p⟩ := h
      exact ⟨a, xs, e, k a s, ha, hl, pair_imp p fun d x r => rep_S k r⟩
    | tup l =>
      obtain ⟨a, xs, e, ha, hl, p⟩ := h
      exact ⟨a, xs, e, ha, hl, pair_imp p fun d x r => rep_S k r⟩
    | dic l =>
      obtain ⟨a, es, e, s, ha, hl, p⟩ := h
      exact ⟨a, es, e, k a s, ha, hl, pair_imp p fun q x r => ⟨r.1, rep_S (fun b z => ⟨k b z.1, z.2⟩) r.2⟩⟩
theorem rep_up {H : Hp} : ∀ {n : Nat} {S : Addr → Prop} {d : D} {v : V}, Rep H n S d v → Rep H (n + 1) S d v
  | 0, _, _, _, h => h.elim
  | n + 1, S, d, v, h => by
    cases d with
    | non => exact h
    | bl b => exact h
    | int i => exact h
    | str s => exact h
    | lst l =>
      obtain ⟨a, xs, e, s, ha, hl, p⟩ := h
      exact ⟨a, xs, e, s, ha, hl, pair_imp p fun d x r => rep_up r⟩
    | tup l =>
      obtain ⟨a, xs, e, ha, hl, p⟩ := h
      exact ⟨a, xs, e, ha, hl, pair_imp p fun d x r => rep_up r⟩
    | dic l =>
      obtain ⟨a, es, e, s, ha, hl, p⟩ := h
      exact ⟨a, es, e, s, ha, hl, pair_imp p fun q x r => ⟨r.1, rep_up r.2⟩⟩
/-- behind a lock of a, which S does not hold -/
theorem rep_lock {H : Hp} {n : Nat} {S : Addr → Prop} {d : D} {v : V} {a : Addr} {es : List (Key × V)} {u : HO} (ha : H a = some (.dK es)) (hS : ∀ b, S b → b ≠ a) (h : Rep H n S d v) : Rep (upd H a u) n S d v :=
  rep_to (fun b o hb z => by
    have ne : b ≠ a := by
      rcases z with z | ⟨xs, rfl⟩
      · exact hS b z
      · intro e; rw [e, ha] at hb; cases hb
    rw [upd_ne ne]; exact hb) h

/-! ### what a dict tells -/
theorem lk_cons {α : Type} (k j : Str) (d : α) (l : List (Str × α)) : List.lookup k ((j, d) :: l) = if k = j then some d else List.lookup k l := by
  by_cases h : k = j
  · subst h; simp [List.lookup]
  · have e : (k == j) = false := by simpa using h
    rw [if_neg h]; simp [List.lookup, e]
theorem vV_cons (k : Key) (e : Key × V) (l : List (Key × V)) : valV (e :: l) k = if e.1 = k then some e.2 else valV l k := by
  unfold valV
  rw [List.find?_cons]
  by_cases h : e.1 = k
  · rw [decide_eq_true h, if_pos h]; rfl
  · rw [decide_eq_false h, if_neg h]
theorem pair_lk {F : D → V → Prop} : ∀ {l : List (Str × D)} {es : List (Key × V)}, Paired (fun (q : Str × D) (e : Key × V) => e.1 = Sum.inr q.1 ∧ F q.2 e.2) l es → ∀ {k : Str} {d : D}, l.lookup k = some d → ∃ v, valV es (Sum.inr k : Key) = some v ∧ F d v
  | _, _, .nil, k, d, h => by simp [List.lookup] at h
  | (j, d0) :: l, e :: es, .cons h t, k, d, hk => by
    rw [lk_cons] at hk
    rw [vV_cons]
    by_cases c : k = j
    · rw [if_pos c] at hk
      cases hk
      exact ⟨e.2, by rw [if_pos (by rw [h.1, c])], h.2⟩
    · rw [if_neg c] at hk
      obtain ⟨v, h1, h2⟩ := pair_lk t hk
      exact ⟨v, by rw [if_neg (by rw [h.1]; intro z; exact c (Sum.inr.inj z).symm)]; exact h1, h2⟩
theorem pair_no {F : D → V → Prop} : ∀ {l : List (Str × D)} {es : List (Key × V)}, Paired (fun (q : Str × D) (e : Key × V) => e.1 = Sum.inr q.1 ∧ F q.2 e.2) l es → ∀ {k : Str}, l.lookup k = none → valV es (Sum.inr k : Key) = none
  | _, _, .nil, k, h => rfl
  | (j, d0) :: l, e :: es, .cons h t, k, hk => by
    rw [lk_cons] at hk
    rw [vV_cons]
    by_cases c : k = j
    · rw [if_pos c] at hk; cases hk
    · rw [if_neg c] at hk
      rw [if_neg (by rw [h.1]; intro z; exact c (Sum.inr.inj z).symm)]
      exact pair_no t hk

/-! ### expressions that only make objects -/
/-- te gives a v of which P holds (P stays when objects are made) -/
def EvP (te : TE) (σ : L2.St) (H : Hp) (P : V → Hp → Prop) : Prop := ∀ H1, Ex H H1 → ∀ Q : VK, (∀ v H2, Ex H1 H2 → P v H2 → Q v H2) → te σ H1 Q
section
variable {K : PySem.W.Frag} {σ : L2.St} {H H' : Hp} {te ta tb tc : TE} {v x y z : V} {t u : TT}
theorem Ev.p {P : V → Hp → Prop} (h : Ev te σ H v) (hp : ∀ H1, Ex H H1 → P v H1) : EvP te σ H P := fun H1 e Q q => h H1 e Q fun H2 e2 => q v H2 e2 (hp H2 (e.trans e2))
theorem ev_chain {r r' : R2} {b1 b2 : Bool} (ha : Ev ta σ H x) (hb : Ev tb σ H y) (hc : Ev tc σ H z) (h1 : Evl.RV r x y H (.bl b1)) (h2 : Evl.RV r' y z H (.bl b2)) : Ev (tChain r r' ta tb tc) σ H (.bl (b1 && b2)) := fun H1 e Q q =>
  ha H1 e _ fun H2 e2 => hb H2 (e.trans e2) _ fun H3 e3 => h1 H3 ((e.trans e2).trans e3) _ fun H4 e4 => ⟨b1, rfl, by
    cases b1 with
    | true => exact hc H4 (((e.trans e2).trans e3).trans e4) _ fun H5 e5 => h2 H5 ((((e.trans e2).trans e3).trans e4).trans e5) Q fun H6 e6 => q H6 ((((e2.trans e3).trans e4).trans e5).trans e6)
    | false => exact q H4 ((e2.trans e3).trans e4)⟩
theorem ev_isi {n : String} {ty : Value} {b : Bool} (h : Ev te σ H x) (hty : ∀ H1, Ex H H1 → TyX K H1 x ty) (hk : PySem.W.kitOne K ty (.type n) = some b) : Ev (tCB (rIsi K) (tCons te (tCons (tC (.ty n)) tNil))) σ H (.bl b) := fun H1 e Q q =>
  h H1 e _ fun H2 e2 => ⟨x, .ty n, ty, .type n, b, rfl, .ty n, hty H2 (e.trans e2), hk, q H2 e2⟩
theorem ev_isi2 {n m : String} {ty : Value} {b : Bool} (h : Ev te σ H x) (hty : ∀ H1, Ex H H1 → TyX K H1 x ty) (hk : PySem.W.kitAny K ty [.type n, .type m] = some b) :
    Ev (tCB (rIsiT K) (tCons te (tCons (tTup (tCons (tC (.ty n)) (tCons (tC (.ty m)) tNil))) tNil))) σ H (.bl b) := fun H1 e Q q =>
  h H1 e _ fun H2 e2 => ⟨(by show 2 ≤ sizeLine; decide), fun p hp => ⟨x, p, [.ty n, .ty m], ty, [.type n, .type m], b, rfl, upd_same, .cons (.ty n) (.cons (.ty m) .nil), hty _ ((e.trans e2).trans (Ex.new hp)), hk, q _ (e2.trans (Ex.new hp))⟩⟩
theorem ev_all {bs : List Bool} (h : EvL te σ H (bs.map V.bl)) : Ev (tCB (rAll K) (tCons te tNil)) σ H (.bl (bs.all id)) := fun H1 e Q q =>
  h H1 e _ fun p H2 _ e2 hp => ⟨p, bs, rfl, Evl.sq_of hp, q H2 e2⟩
theorem ev_lenS {s : Str} (h : Ev te σ H (.str s)) (hs : s.length ≤ 100000) : Ev (tCB (fun xs H Q => ∃ x n, xs = [x] ∧ LenV K x H n ∧ Q (.int n) H) (tCons te tNil)) σ H (.int (s.length : Int)) := fun H1 e Q q =>
  h H1 e _ fun H2 e2 => ⟨.str s, s.length, rfl, ⟨Evl.sz_of hs, rfl⟩, q H2 e2⟩
theorem ev_lenL {a : Addr} {xs : List V} (h : Ev te σ H (.ref a)) (hx : SqL K H a xs ∨ SqT K H a xs) : Ev (tCB (fun xs H Q => ∃ x n, xs = [x] ∧ LenV K x H n ∧ Q (.int n) H) (tCons te tNil)) σ H (.int (xs.length : Int)) := fun H1 e Q q =>
  h H1 e _ fun H2 e2 => ⟨.ref a, xs.length, rfl, hx.imp (fun z => ⟨xs, Evl.ex_l (e.trans e2) z, rfl⟩) fun z => ⟨xs, Evl.ex_t (e.trans e2) z, rfl⟩, q H2 e2⟩
theorem ev_lenK {a : Addr} {es : List (Key × V)} (h : Ev te σ H (.ref a)) (hx : H a = some (.dK es)) : Ev (tCB (fun xs H Q => ∃ a kvs, xs = [V.ref a] ∧ H a = some (.dK kvs) ∧ Q (.int kvs.length) H) (tCons te tNil)) σ H (.int (es.length : Int)) := fun H1 e Q q =>
  h H1 e _ fun H2 e2 => ⟨a, es, rfl, (e.trans e2) a _ hx, q H2 e2⟩
theorem ev_lenSet {P : Program} {w : World} {a : Addr} {l : List Str} (h : Ev te σ H (.ref a)) (hx : SqL K H a (l.map V.str) ∨ SqT K H a (l.map V.str)) (few : l.length ≤ 1000) :
    Ev (tCB (rLenTxs P w) (tCons (tCB (rSetS K P w) (tCons te tNil)) tNil)) σ H (.int ((met [] l).length : Int)) := fun H1 e Q q =>
  h H1 e _ fun H2 e2 => ⟨a, l, rfl, hx.imp (Evl.ex_l (e.trans e2)) (Evl.ex_t (e.trans e2)), Nat.lt_of_le_of_lt (Nat.add_le_add_right few 1) (by decide), fun p hp => ⟨p, met [] l, rfl, upd_same, by have := met_len l []; simp only [List.length_nil] at this; omega, q _ (e2.trans (Ex.new hp))⟩⟩
theorem ev_get {a : Addr} {es : List (Key × V)} {k : Str} (h : Ev ta σ H (.ref a)) (hk : Ev tb σ H (.str k)) (hx : Rd H a (.dK es)) (hv : valV es (Sum.inr k : Key) = some v) : Ev (tDGet ta tb) σ H v := fun H1 e Q q =>
  h H1 e _ fun H2 e2 => hk H2 (e.trans e2) _ fun H3 e3 => ⟨a, v, rfl, .inl ⟨es, Sum.inr k, Evl.ex_rd ((e.trans e2).trans e3) hx, rfl, hv.symm⟩, q H3 (e2.trans e3)⟩
theorem ev_din {a : Addr} {es : List (Key × V)} {k : Str} (hk : Ev tb σ H (.str k)) (h : Ev ta σ H (.ref a)) (hx : Rd H a (.dK es)) : Ev (tDIn tb ta) σ H (.bl (valV es (Sum.inr k : Key)).isSome) := fun H1 e Q q =>
  hk H1 e _ fun H2 e2 => h H2 (e.trans e2) _ fun H3 e3 => ⟨a, valV es (Sum.inr k), rfl, .inl ⟨es, Sum.inr k, Evl.ex_rd ((e.trans e2).trans e3) hx, rfl, rfl⟩, q H3 (e2.trans e3)⟩
/-- a call whose answer is a plain value -/
theorem ev_fn {sp : Sp} {vs : List V} {ta : TA} (h : EvA ta σ H vs) (hs : ∀ H1, Ex H H1 → ∀ Q : VK, (∀ H2, Ex H1 H2 → Q z H2) → sp vs H1 Q E0) : Ev (tCall sp [] E0 ta) σ H z := fun H1 e Q q =>
  h H1 e _ fun H2 e2 => by
    show sp (vs ++ []) H2 Q E0
    rw [List.append_nil]
    exact hs H2 (e.trans e2) Q fun H3 e3 => q H3 (e2.trans e3)
/-- an argument list whose first item is a new list -/
theorem ev_fnL {sp : Sp} {xs : List V} (h : Ev te σ H x) (hl : EvL tb σ H xs) (hs : ∀ p H1, Ex H H1 → H1 p = some (.lst xs) → ∀ Q : VK, (∀ H2, Ex H1 H2 → Q z H2) → sp [x, .ref p] H1 Q E0) : Ev (tCall sp [] E0 (tCons te (tCons tb tNil))) σ H z := fun H1 e Q q =>
  h H1 e _ fun H2 e2 => hl H2 (e.trans e2) _ fun p H3 _ e3 hp => hs p H3 ((e.trans e2).trans e3) hp Q fun H4 e4 => q H4 ((e2.trans e3).trans e4)
end

/-! ### comprehensions that keep every item -/
section
variable {K : PySem.W.Frag} {σ : L2.St} {H : Hp} {te tl : TE} {vs : List Nat} {J : It} {n : Nat} {G : Hp → Prop} {g : TG}
/-- what the new list holds behind i turns, in a heap that has only grown since H0 -/
def Cm (H0 : Hp) (f : Nat → V) (Dl i : Nat) (H' : Hp) : Prop := H0 Dl = none ∧ Ex H0 H' ∧ H' Dl = some (.lst ((List.range i).map f))
theorem cm_next {H0 H' : Hp} {f : Nat → V} {Dl i : Nat} {σ2 : L2.St} (p : Cm H0 f Dl i H') (hi : i < 100000) (he : Ev te σ2 H0 (f i)) :
    te σ2 H' fun y H4 => ∃ acc, H4 Dl = some (.lst acc) ∧ acc.length < sizeLine ∧ Cm H0 f Dl (i + 1) (upd H4 Dl (.lst (acc ++ [y]))) := by
  obtain ⟨p1, p2, p3⟩ := p
  refine he H' p2 _ fun H4 e4 => ⟨_, e4 Dl _ p3, Evl.sz_lt (by simpa using hi), p1, Ex.mut (p2.trans e4) p1, ?_⟩
  rw [upd_same, List.range_succ, List.map_append]
  rfl
/-- over anything that hands on the items xs and leaves the heap as it is -/
theorem el_walk {xs : List V} {f : Nat → V} (w : Walk J xs.length G (YAt xs)) (hz : xs.length ≤ 100000) {H1 : Hp} (hG : ∀ H', Ex H1 H' → G H') {j : Nat} (hw : ∀ x, wipe ((wipe σ vs).set j (some x)) vs = wipe σ vs)
    (he : ∀ (i : Nat) (x : V), xs[i]? = some x → ∀ H2, Ex H1 H2 → Ev te ((wipe σ vs).set j (some x)) H2 (f i)) {Q : VK} (q : ∀ p H2, H1 p = none → Ex H1 H2 → H2 p = some (.lst ((List.range xs.length).map f)) → Q (.ref p) H2) (Dl : Addr) (hD : H1 Dl = none) :
    ∃ W : Nat → Nat → Hp → Prop, (∃ m, W 0 m (upd H1 Dl (.lst []))) ∧ ∀ i m H, W i m H → (J.stop i H ∧ Q (.ref Dl) H) ∨ (J.go i H ∧ ∃ Nx : Hp → Prop, (∀ H', Nx H' → ∃ m', m' < m ∧ W (i + 1) m' H') ∧ ∀ x H', J.yld i H x H' → gName j x (wipe σ vs) H' fun σ2 H2 =>
      wipe σ2 vs = wipe σ vs ∧ tYes σ2 H2 fun b H3 => if b = true then te σ2 H3 fun y H4 => ∃ acc, H4 Dl = some (.lst acc) ∧ acc.length < sizeLine ∧ Nx (upd H4 Dl (.lst (acc ++ [y]))) else Nx H3) := by
  refine lc_it (g := gName j) (tt := tYes) w (Cm H1 f Dl) ⟨hD, Ex.new hD, upd_same⟩ (fun i H' _ p => hG H' p.2.1) (fun i x H2 H' hi p y => ?_) fun H' p => q Dl H' hD p.2.1 p.2.2
  obtain ⟨rfl, hx⟩ := y
  exact ⟨hw x, cm_next p (by omega) (he i x hx H1 (Ex.refl _))⟩
end
end Ssb

/-! Comprehensions and loops over texts, lists, tuples, dicts (under their lock). -/
namespace Ssb
open PySem PySem.Spec PyProof.Rows L2
open Evl (Ex Ev EvT EvL EvA EvU)
section
variable {K : PySem.W.Frag} {σ : L2.St} {H : Hp} {te tl ta td tb : TE} {vs : List Nat} {j : Nat} {f : Nat → V}
/-- len, list(..), tuple(..), truth: the readings by their names -/
def rLenA (K : PySem.W.Frag) : List V → Hp → VK → Prop := fun xs H Q => ∃ x n, xs = [x] ∧ LenV K x H n ∧ Q (V.int n) H
def rListA (K : PySem.W.Frag) : List V → Hp → VK → Prop := fun xs H Q => ∃ p ys, xs = [V.ref p] ∧ (SqL K H p ys ∨ SqT K H p ys) ∧ ∀ l, H l = none → Q (.ref l) (upd H l (.lst ys))
def rTupA (K : PySem.W.Frag) : List V → Hp → VK → Prop := fun xs H Q => ∃ p ys, xs = [V.ref p] ∧ ((SqL K H p ys ∧ ∀ l, H l = none → Q (.ref l) (upd H l (.tup ys))) ∨ (SqT K H p ys ∧ Q (.ref p) H))
def tTruA (K : PySem.W.Frag) (ta : TE) : TT := fun σ H Q => ta σ H fun x H' => ∃ k, TruV K x H' k ∧ Q k H'
theorem ev_allT {n : Nat} (h : EvL te σ H ((List.range n).map fun _ => V.bl true)) : Ev (tCB (rAll K) (tCons te tNil)) σ H (.bl true) := by
  have e : ((List.range n).map fun _ => V.bl true) = ((List.range n).map fun _ => true).map V.bl := by rw [List.map_map]; rfl
  rw [e] at h
  refine Evl.ev_is (ev_all h) ?_
  congr 1
  rw [List.all_eq_true]
  intro b hb
  obtain ⟨_, _, rfl⟩ := List.mem_map.mp hb
  rfl
theorem el_lcS {s : Str} (h : Ev ta σ H (.str s)) (hz : s.length ≤ 100000) (hw : ∀ x, wipe ((wipe σ vs).set j (some x)) vs = wipe σ vs)
    (he : ∀ (i : Nat) (c : Nat), s.cps[i]? = some c → ∀ H2, Ex H H2 → Ev te ((wipe σ vs).set j (some (.str ⟨#[c]⟩))) H2 (f i)) : EvL (tLc (iStr ta) (gName j) tYes te vs) σ H ((List.range s.length).map f) := fun H1 e Q q =>
  h H1 e _ fun H2 e2 => ⟨s, rfl, fun Dl hD => by
    have w : Walk (Its s) (s.cps.toList.map fun c => V.str ⟨#[c]⟩).length (fun _ => True) (YAt (s.cps.toList.map fun c => V.str ⟨#[c]⟩)) := by
      have l : (s.cps.toList.map fun c => V.str ⟨#[c]⟩).length = s.cps.size := by simp
      rw [l]
      refine walk_str.mono (fun _ z => z) fun i H v H' hi _ y => ?_
      obtain ⟨e, c, hc, rfl⟩ := y
      exact ⟨e, by simp [hc]⟩
    refine el_walk (f := f) w (by rw [List.length_map]; exact hz) (fun _ _ => trivial) hw (fun i x hx H3 e3 => ?_) (fun p H3 hp e3 hl => ?_) Dl hD
    · rw [List.getElem?_map] at hx
      cases hc : s.cps.toList[i]? with
      | none => rw [hc] at hx; cases hx
      | some c =>
        rw [hc] at hx
        cases hx
        exact he i c (by simpa using hc) H3 ((e.trans e2).trans e3)
    · refine q p H3 (Evl.fresh_back e2 hp) (e2.trans e3) ?_
      rw [hl]
      simp [Str.length]⟩
theorem el_lcA {a : Addr} {xs : List V} (h : Ev tl σ H (.ref a)) (hx : SqL K H a xs) (hz : xs.length ≤ 100000) (hw : ∀ x, wipe ((wipe σ vs).set j (some x)) vs = wipe σ vs)
    (he : ∀ (i : Nat) (x : V), xs[i]? = some x → ∀ H2, Ex H H2 → Ev te ((wipe σ vs).set j (some x)) H2 (f i)) : EvL (tLc (iList K tl) (gName j) tYes te vs) σ H ((List.range xs.length).map f) := fun H1 e Q q =>
  h H1 e _ fun H2 e2 => ⟨a, rfl, ⟨xs, Evl.ex_l (e.trans e2) hx⟩, fun Dl hD =>
    el_walk (f := f) walk_list hz (fun H3 e3 => Evl.ex_l ((e.trans e2).trans e3) hx) hw (fun i x h3 H3 e3 => he i x h3 H3 ((e.trans e2).trans e3)) (fun p H3 hp e3 hl => q p H3 (Evl.fresh_back e2 hp) (e2.trans e3) hl) Dl hD⟩
theorem el_lcT {a : Addr} {xs : List V} (h : Ev tl σ H (.ref a)) (hx : SqT K H a xs) (hz : xs.length ≤ 100000) (hw : ∀ x, wipe ((wipe σ vs).set j (some x)) vs = wipe σ vs)
    (he : ∀ (i : Nat) (x : V), xs[i]? = some x → ∀ H2, Ex H H2 → Ev te ((wipe σ vs).set j (some x)) H2 (f i)) : EvL (tLc (iTup K tl) (gName j) tYes te vs) σ H ((List.range xs.length).map f) := fun H1 e Q q =>
  h H1 e _ fun H2 e2 => ⟨a, rfl, ⟨xs, Evl.ex_t (e.trans e2) hx⟩, fun Dl hD =>
    el_walk (f := f) walk_tup hz (fun H3 e3 => Evl.ex_t ((e.trans e2).trans e3) hx) hw (fun i x h3 H3 e3 => he i x h3 H3 ((e.trans e2).trans e3)) (fun p H3 hp e3 hl => q p H3 (Evl.fresh_back e2 hp) (e2.trans e3) hl) Dl hD⟩
/-! ### under a lock -/
theorem unlock {H H' : Hp} {d : Addr} {u u' : HO} (hd : H d = some u) (e : Ex (upd H d u') H') : Ex H (upd H' d u) := fun b o hb => by
  by_cases h : b = d
  · subst h; rw [upd_same]; rw [hd] at hb; exact hb
  · rw [upd_ne h]; exact e b o (by rw [upd_ne h]; exact hb)
theorem lock_keys {d : Addr} {o : Obj} {es : List (Key × V)} : Walk (Itk d o es) (es.map fun e => kV e.1).length (fun H => H d = some (.frz o (.dK es))) (YAt (es.map fun e => kV e.1)) := by
  rw [List.length_map]
  refine walk_keys.mono (fun _ z => z) fun i H x H' _ _ y => ?_
  obtain ⟨e, k, v, hk, rfl⟩ := y
  exact ⟨e, by rw [List.getElem?_map, hk]; rfl⟩
theorem lock_vals {d : Addr} {o : Obj} {es : List (Key × V)} : Walk (Itd d o es) (es.map fun e => e.2).length (fun H => H d = some (.frz o (.dK es))) (YAt (es.map fun e => e.2)) := by
  rw [List.length_map]
  refine walk_values.mono (fun _ z => z) fun i H x H' _ _ y => ?_
  obtain ⟨e, k, hk⟩ := y
  exact ⟨e, by rw [List.getElem?_map, hk]; rfl⟩
theorem el_lcK {d : Addr} {es : List (Key × V)} (h : ∀ H1, Ev td σ H1 (.ref d)) (hd : H d = some (.dK es)) (hz : es.length ≤ 100000) (hw : ∀ x, wipe ((wipe σ vs).set j (some x)) vs = wipe σ vs)
    (he : ∀ (i : Nat) (k : Key) (v : V), es[i]? = some (k, v) → ∀ od H1 H2, Ex H H1 → Ex (upd H1 d (.frz od (.dK es))) H2 → Ev te ((wipe σ vs).set j (some (kV k))) H2 (f i)) : EvL (tLockE (tLc (iKeys td) (gName j) tYes te vs)) σ H ((List.range es.length).map f) := fun H1 e Q q => by
  have hd1 := e d _ hd
  refine ⟨d, .dK es, hd1, trivial, fun od => h _ _ (Ex.refl _) _ fun H2 e2 => ⟨d, od, rfl, .inl ⟨es, e2 d _ upd_same, fun Dl hD => ?_⟩⟩⟩
  refine el_walk (f := f) (Q := fun v H' => H' d = some (.frz od (.dK es)) ∧ Q v (upd H' d (.dK es))) lock_keys (by simpa using hz) (fun H3 e3 => e3 d _ (e2 d _ upd_same)) hw (fun i x hx H3 e3 => ?_) (fun p H3 hp e3 hl => ⟨e3 d _ (e2 d _ upd_same), ?_⟩) Dl hD
  · rw [List.getElem?_map] at hx
    cases hc : es[i]? with
    | none => rw [hc] at hx; cases hx
    | some c =>
      rw [hc] at hx
      cases hx
      exact he i c.1 c.2 hc od H1 H3 e (e2.trans e3)
  · have np : p ≠ d := fun z => by
      have := e2 d _ upd_same
      rw [z, this] at hp; cases hp
    refine q p _ ?_ (unlock hd1 (e2.trans e3)) ?_
    · have := Evl.fresh_back e2 hp
      rw [upd_ne np] at this; exact this
    · rw [upd_ne np, hl, List.length_map]
theorem el_lcV {d : Addr} {es : List (Key × V)} (h : ∀ H1, Ex H H1 → ∀ od, Ev td σ (upd H1 d (.frz od (.dK es))) (.ref d)) (hd : H d = some (.dK es)) (hz : es.length ≤ 100000) (hw : ∀ x, wipe ((wipe σ vs).set j (some x)) vs = wipe σ vs)
    (he : ∀ (i : Nat) (k : Key) (v : V), es[i]? = some (k, v) → ∀ od H1 H2, Ex H H1 → Ex (upd H1 d (.frz od (.dK es))) H2 → Ev te ((wipe σ vs).set j (some v)) H2 (f i)) : EvL (tLockE (tLc (iVals td) (gName j) tYes te vs)) σ H ((List.range es.length).map f) := fun H1 e Q q => by
  have hd1 := e d _ hd
  refine ⟨d, .dK es, hd1, trivial, fun od => h H1 e od _ (Ex.refl _) _ fun H2 e2 => ⟨d, od, es, rfl, e2 d _ upd_same, fun Dl hD => ?_⟩⟩
  refine el_walk (f := f) (Q := fun v H' => H' d = some (.frz od (.dK es)) ∧ Q v (upd H' d (.dK es))) lock_vals (by simpa using hz) (fun H3 e3 => e3 d _ (e2 d _ upd_same)) hw (fun i x hx H3 e3 => ?_) (fun p H3 hp e3 hl => ⟨e3 d _ (e2 d _ upd_same), ?_⟩) Dl hD
  · rw [List.getElem?_map] at hx
    cases hc : es[i]? with
    | none => rw [hc] at hx; cases hx
    | some c =>
      rw [hc] at hx
      cases hx
      exact he i c.1 c.2 hc od H1 H3 e (e2.trans e3)
  · have np : p ≠ d := fun z => by
      have := e2 d _ upd_same
      rw [z, this] at hp; cases hp
    refine q p _ ?_ (unlock hd1 (e2.trans e3)) ?_
    · have := Evl.fresh_back e2 hp
      rw [upd_ne np] at this; exact this
    · rw [upd_ne np, hl, List.length_map]
/-! ### a for under a lock: Pv by the lock's object, the turn, the slots, the heap -/
variable {D : Ends} {ts : TS} {g : TG}
def shut (D : Ends) (d : Addr) (u : HO) (od : Obj) (N : L2.St → Hp → Prop) : Ends :=
  { nx := N, ct := N, bk := fun σ' H' => H' d = some (.frz od u) ∧ D.nx σ' (upd H' d u), rt := fun v H' => H' d = some (.frz od u) ∧ D.rt v (upd H' d u) }
theorem for_lock {d : Addr} {es : List (Key × V)} {J : Obj → It} {ti : TI} {xs : Nat → Option V} (hd : H d = some (.dK es)) (hi : ∀ od R, R (J od) (upd H d (.frz od (.dK es))) → ti σ (upd H d (.frz od (.dK es))) R)
    {Y : Nat → Hp → V → Hp → Prop} (w : ∀ od, Walk (J od) es.length (fun H => H d = some (.frz od (.dK es))) Y) (Pv : Obj → Nat → L2.St → Hp → Prop) (h0 : ∀ od, Pv od 0 σ (upd H d (.frz od (.dK es)))) (hG : ∀ od i σ' H', i ≤ es.length → Pv od i σ' H' → H' d = some (.frz od (.dK es)))
    (hs : ∀ od i x σ' H' H2, i < es.length → Pv od i σ' H' → Y i H' x H2 → g x σ' H2 fun σ2 H3 => ts (shut D d (.dK es) od (Pv od (i + 1))) σ2 H3) (hn : ∀ od σ' H', Pv od es.length σ' H' → D.nx σ' (upd H' d (.dK es))) :
    tLock (tFor ti g ts) D σ H := by
  refine ⟨d, .dK es, hd, trivial, fun od => hi od _ ?_⟩
  exact for_it (w od) (Pv od) (h0 od) (fun i σ' H' hi p => hG od i σ' H' hi p) (fun i x σ' H' H2 hi p y => hs od i x σ' H' H2 hi p y) fun σ' H' p => ⟨hG od _ σ' H' (Nat.le_refl _) p, hn od σ' H' p⟩
end
end Ssb

/-! Comprehensions whose target is unpacked: lists, sets of texts. -/
namespace Ssb
open PySem PySem.Spec PyProof.Rows L2
open Evl (Ex Ev EvT EvL EvA EvU)
/-- the target takes x: the slots are σ2 behind it -/
def Unp (g : TG) (vs : List Nat) (σ σ2 : L2.St) (x : V) (H : Hp) : Prop := wipe σ2 vs = wipe σ vs ∧ ∀ Kont : L2.St → Hp → Prop, Kont σ2 H → g x (wipe σ vs) H Kont
section
variable {K : PySem.W.Frag} {σ : L2.St} {H : Hp} {te tl : TE} {vs : List Nat} {g : TG} {f : Nat → V}
theorem el_lcG {a : Addr} {xs : List V} (h : Ev tl σ H (.ref a)) (hx : SqL K H a xs) (hz : xs.length ≤ 100000) (he : ∀ (i : Nat) (x : V), xs[i]? = some x → ∀ H2, Ex H H2 → ∃ σ2, Unp g vs σ σ2 x H2 ∧ ∀ H3, Ex H H3 → Ev te σ2 H3 (f i)) :
    EvL (tLc (iList K tl) g tYes te vs) σ H ((List.range xs.length).map f) := fun H1 e Q q =>
  h H1 e _ fun H2 e2 => ⟨a, rfl, ⟨xs, Evl.ex_l (e.trans e2) hx⟩, fun Dl hD => by
    refine lc_list (K := K) (a := a) (xs := xs) (Cm H2 f Dl) ⟨hD, Ex.new hD, upd_same⟩ (fun i H' _ p => Evl.ex_l ((e.trans e2).trans p.2.1) hx) (fun i x H' hi p => ?_) fun H' p => q Dl H' (Evl.fresh_back e2 hD) (e2.trans p.2.1) p.2.2
    obtain ⟨σ2, ⟨hw, hk⟩, ev⟩ := he i x hi H' ((e.trans e2).trans p.2.1)
    exact hk _ ⟨hw, cm_next p (by have := (List.getElem?_eq_some_iff.mp hi).1; omega) (ev H2 (e.trans e2))⟩⟩
theorem yes_go {F G : Hp → Prop} (h : F H) : tYes σ H (fun b H3 => if b = true then F H3 else G H3) := by
  show (if true = true then F H else G H)
  rw [if_pos rfl]
  exact h
theorem ev_fld {a C dx : Addr} {fs : List (Str × V)} {v : V} {fn : Str} (h : Ev te σ H (.ref a)) (ho : H a = some (.ins C dx fs)) (c : Cls K C) (n : NoAttr K C fn) (l : fs.lookup fn = some v) : Ev (tFld K te fn) σ H v := fun H1 e Q q =>
  h H1 e _ fun H2 e2 => ⟨a, C, dx, fs, v, rfl, (e.trans e2) _ _ ho, c, n, l, q H2 e2⟩
theorem ev_sum {n : Nat} {c : Nat → Int} (h : EvL te σ H ((List.range n).map fun i => V.int (c i))) : Ev (tCB (rSum K) (tCons te tNil)) σ H (.int ((List.range n).map c).sum) := fun H1 e Q q =>
  h H1 e _ fun p H2 _ e2 hp => ⟨p, (List.range n).map c, rfl, by rw [List.map_map]; exact Evl.sq_of hp, q H2 e2⟩
/-- a pure answer handed on as an argument, a new tuple behind it -/
theorem rv_notN {x : V} : Evl.RV (fun x y H Q => y = .non ∧ Q (.bl (!decide (x = .non))) H) x .non H (.bl (!decide (x = .non))) := fun H1 _ _ q => ⟨rfl, q H1 (Ex.refl _)⟩
theorem rv_isN {x : V} : Evl.RV (fun x y H Q => y = .non ∧ Q (.bl (decide (x = .non))) H) x .non H (.bl (decide (x = .non))) := fun H1 _ _ q => ⟨rfl, q H1 (Ex.refl _)⟩
theorem met_snoc : ∀ (l acc : List Str) (x : Str), met acc (l ++ [x]) = put1 (met acc l) x
  | [], acc, x => rfl
  | y :: l, acc, x => met_snoc l _ x
/-- {name for .. in xs} -/
theorem ex_scG {P : Program} {w : World} {a : Addr} {xs : List V} {nms : List Str} (h : Ev tl σ H (.ref a)) (hx : SqL K H a xs) (hn : nms.length = xs.length) (few : xs.length ≤ 1000)
    (he : ∀ (i : Nat) (x : V), xs[i]? = some x → ∃ s, nms[i]? = some s ∧ ∀ H2, Ex H H2 → ∃ σ2, Unp g vs σ σ2 x H2 ∧ ∀ H3, Ex H H3 → Ev te σ2 H3 (.str s)) :
    Ev (tCB (rLenTxs P w) (tCons (tTxs P w (iList K tl) g tYes te vs) tNil)) σ H (.int ((met [] nms).length : Int)) := fun H1 e Q q =>
  h H1 e _ fun H2 e2 => ⟨a, rfl, ⟨xs, Evl.ex_l (e.trans e2) hx⟩, fun Dl hD => by
    have ml := met_len nms []
    simp only [List.length_nil] at ml
    refine ⟨fun i m H' => m = xs.length - i ∧ i ≤ xs.length ∧ Ex H2 H' ∧ H' Dl = some (Txs P w Dl (met [] (nms.take i))), ⟨xs.length, by simp, Nat.zero_le _, Ex.new hD, upd_same⟩, ?_⟩
    rintro i m H' ⟨rfl, hi, e3, hd⟩
    have sq := Evl.ex_l ((e.trans e2).trans e3) hx
    by_cases hlt : i < xs.length
    · refine .inr ⟨⟨xs, xs[i], sq, by simp [hlt]⟩, fun H' => Ex H2 H' ∧ H' Dl = some (Txs P w Dl (met [] (nms.take (i + 1)))), fun H' p' => ⟨xs.length - (i + 1), by omega, rfl, hlt, p'⟩, fun x H'' y => ?_⟩
      obtain ⟨rfl, y⟩ := y
      obtain ⟨s, hs, he2⟩ := he i x (y xs sq)
      obtain ⟨σ2, ⟨hw, hk⟩, ev⟩ := he2 _ ((e.trans e2).trans e3)
      refine hk _ ⟨hw, ev H2 (e.trans e2) _ e3 _ fun H4 e4 => ⟨s, met [] (nms.take i), rfl, e4 _ _ hd, ?_, Ex.mut (e3.trans e4) hD, ?_⟩⟩
      · have := met_len (nms.take i) []
        simp only [List.length_nil, List.length_take] at this
        exact Nat.lt_of_le_of_lt (show (met [] (nms.take i)).length + 1 ≤ 1001 by omega) (by decide)
      · rw [upd_same, List.take_add_one, hs]
        show _ = some (Txs P w Dl (met [] (nms.take i ++ [s])))
        rw [met_snoc]
    · have ei : i = xs.length := by omega
      subst ei
      refine .inl ⟨⟨xs, sq, Nat.le_refl _⟩, Dl, met [] nms, rfl, ?_, by omega, q H' (e2.trans e3)⟩
      rw [hd, ← hn, List.take_length]⟩
end
end Ssb

/-! Dicts whose keys are None and tuples of any depth together. -/
namespace Ssb
open PySem PySem.Spec PyProof.Rows L2
/-- an entry: its key, the key's value, what is stored -/
abbrev NEnt := NestedKey × Value × Value
def nEnt (w : World) (y : NEnt) : DictEntry := ⟨y.1.hash w, y.2.1, y.2.2⟩
/-- no plain value but None -/
def NoPlain (u : Value) : Prop := u = .none ∨ ∃ b, u = .ref b
def NKey (h : Heap) (k : NestedKey) (u : Value) : Prop := NestedIs h k u ∧ k.depth ≤ 8 ∧ NoPlain u
theorem nAt {w : World} {es : Array DictEntry} {ys : List NEnt} (he : es.toList = ys.map (nEnt w)) (j : Nat) : es[j]? = (ys[j]?).map (nEnt w) := by
  rw [← Array.getElem?_toList, he, List.getElem?_map]
theorem nSize {w : World} {es : Array DictEntry} {ys : List NEnt} (he : es.toList = ys.map (nEnt w)) : es.size = ys.length := by
  have := congrArg List.length he; simpa using this
theorem places_mem {n : Nat} {f : Nat → Option Int} {h : Int} {i : Nat} : i ∈ placesWithHash n f h ↔ i < n ∧ f i = some h := by
  unfold placesWithHash
  simp
theorem places_nd {n : Nat} {f : Nat → Option Int} {h : Int} : (placesWithHash n f h).Nodup := by
  unfold placesWithHash
  exact List.Pairwise.filter _ List.nodup_range
section
variable {prog : Program} {w : World} {A : Around} {E : Value → Shared → Prop} {s : Shared}
theorem w_ite {α : Type} {c : Prop} [Decidable c] {a b : Sem α} {M : Model} {Q : α → Shared → Prop} (h1 : c → wpAny M A a Q E s) (h2 : ¬ c → wpAny M A b Q E s) : wpAny M A (if c then a else b) Q E s := by
  by_cases h : c
  · rw [if_pos h]; exact h1 h
  · rw [if_neg h]; exact h2 h
theorem n_eq {x y : NestedKey} {a b : Value} {Q : Bool → Shared → Prop} (hu : A.units + 8 < cLine) (hx : NKey s.heap x a) (hy : NKey s.heap y b) (h : Q (decide (x = y)) s) : wpAny (model prog w) A (PySem.eqBool a b) Q E s := by
  have dx := hx.2.1
  have dy := hy.2.1
  exact eqAt_key x y A s _ _ hx.1 hy.1 (by omega) _ _ _ _ (by rw [← NestedKey.decide_eq]; exact h)
theorem n_quiet {k : NestedKey} {v : Value} {Q : Bool → Shared → Prop} (hk : NKey s.heap k v) (h : Q true s) : wpAny (model prog w) A (eqIsQuiet 8 v) Q E s := quiet_key k _ 8 s hk.1 hk.2.1 A E Q h
theorem n_tells {k : NestedKey} {u : Value} {l : List Value} {Q : Bool → Shared → Prop} (hk : NKey s.heap k u) (hl : ∀ v ∈ l, ∃ x, NKey s.heap x v) (h : Q false s) : wpAny (model prog w) A (tableMayTell u l) Q E s := by
  unfold tableMayTell
  split
  · exact wpAny_pure h
  refine wpAny_bind (n_quiet hk ?_)
  rw [if_neg (by decide)]
  refine wpAny_bind ?_
  refine wpAny_forIn_list _ (fun left b s' => s' = s ∧ b = (none, ()) ∧ ∀ v ∈ left, ∃ x, NKey s.heap x v) _ (fun v left b s' hh => ?_) (fun b s' hh => ?_) _ _ ⟨rfl, rfl, hl⟩
  · obtain ⟨rfl, rfl, hr⟩ := hh
    obtain ⟨x, hx⟩ := hr v List.mem_cons_self
    refine wpAny_bind (n_quiet hx ?_)
    rw [if_neg (by decide)]
    exact wpAny_pure ⟨rfl, rfl, fun v hv => hr v (List.mem_cons_of_mem _ hv)⟩
  · obtain ⟨rfl, rfl, _⟩ := hh
    exact wpAny_pure h
theorem uniq {ys : List NEnt} (hn : (ys.map (·.1)).Nodup) {i j : Nat} {x y : NEnt} (hi : ys[i]? = some x) (hj : ys[j]? = some y) (e : x.1 = y.1) : i = j := by
  have h1 : (ys.map (·.1))[i]? = some x.1 := by rw [List.getElem?_map, hi]; rfl
  have h2 : (ys.map (·.1))[j]? = some x.1 := by rw [List.getElem?_map, hj, e]; rfl
  exact (List.getElem?_inj (List.getElem?_eq_some_iff.mp h1).1 hn).mp (h1.trans h2.symm)
/-- where the key stands in the table -/
theorem n_find {d : Addr} {u : Value} {o : Obj} {es : Array DictEntry} {ep : Nat} {ys : List NEnt} {k : NestedKey} {Q : Option Nat → Shared → Prop} (hu : A.units + 8 < cLine) (hk : NKey s.heap k u)
    (ho : s.heap.get? d = some o) (hd : o.data = .dict es ep) (he : es.toList = ys.map (nEnt w)) (his : ∀ y ∈ ys, NKey s.heap y.1 y.2.1) (hn : (ys.map (·.1)).Nodup)
    (q0 : (∀ y ∈ ys, y.1 ≠ k) → Q none s) (q1 : ∀ (j : Nat) (y : NEnt), ys[j]? = some y → y.1 = k → Q (some j) s) : wpAny (model prog w) A (dictFind d u (k.hash w)) Q E s := by
  have sz : es.size = ys.length := nSize he
  generalize hp : placesWithHash es.size (fun i => es[i]?.map (·.hash)) (k.hash w) = pl
  have pm : ∀ i, i ∈ pl ↔ ∃ y, ys[i]? = some y ∧ y.1.hash w = k.hash w := fun i => by
    rw [← hp, places_mem, sz]
    constructor
    · rintro ⟨h1, h2⟩
      refine ⟨_, List.getElem?_eq_getElem h1, ?_⟩
      rw [nAt he, List.getElem?_eq_getElem h1] at h2
      exact Option.some.inj h2
    · rintro ⟨y, h1, h2⟩
      refine ⟨(List.getElem?_eq_some_iff.mp h1).1, ?_⟩
      rw [nAt he, h1]
      exact congrArg some h2
  have pn : pl.Nodup := by rw [← hp]; exact places_nd
  have st : ∀ v ∈ pl.filterMap (fun i => es[i]?.map (·.key)), ∃ x, NKey s.heap x v := fun v hv => by
    obtain ⟨i, hi, h2⟩ := List.mem_filterMap.mp hv
    obtain ⟨y, hy, _⟩ := (pm i).mp hi
    rw [nAt he, hy] at h2
    cases h2
    exact ⟨y.1, his y (List.mem_of_getElem? hy)⟩
  have miss : (∀ i ∈ pl, ∀ y, ys[i]? = some y → y.1 ≠ k) → ∀ y ∈ ys, y.1 ≠ k := fun h y hy e => by
    obtain ⟨i, hi⟩ := List.getElem?_of_mem hy
    exact h i ((pm i).mpr ⟨y, hi, by rw [e]⟩) y hi e
  -- one step of the walk
  have at_ : ∀ {i : Nat} {y : NEnt}, ys[i]? = some y → es[i]? = some (nEnt w y) := fun h => by rw [nAt he, h]; rfl
  unfold dictFind
  refine wpAny_holding ?_
  refine wpAny_bind (wpAny_dictEntries ho hd ?_)
  dsimp only
  rw [hp]
  have step : ∀ {i : Nat} {left done : List Nat} {hit : Option Nat}, pl = done ++ i :: left → ((hit = none ∧ ∀ i ∈ done, ∀ y, ys[i]? = some y → y.1 ≠ k) ∨ ∃ j y, hit = some j ∧ j ∈ done ∧ ys[j]? = some y ∧ y.1 = k) →
      ∃ y, ys[i]? = some y ∧ y.1.hash w = k.hash w ∧ (y.1 = k → hit = none) ∧ pl = (done ++ [i]) ++ left ∧ (y.1 ≠ k → ((hit = none ∧ ∀ i2 ∈ done ++ [i], ∀ y, ys[i2]? = some y → y.1 ≠ k) ∨ ∃ j y, hit = some j ∧ j ∈ done ++ [i] ∧ ys[j]? = some y ∧ y.1 = k)) := by
    intro i left done hit epl hh
    obtain ⟨y, hy, e⟩ := (pm i).mp (by rw [epl]; simp)
    refine ⟨y, hy, e, fun ek => ?_, by rw [epl]; simp, fun ne => ?_⟩
    · rcases hh with ⟨h0, _⟩ | ⟨j, y2, _, hj, hy2, e2⟩
      · exact h0
      · have := uniq hn hy hy2 (ek.trans e2.symm)
        subst this
        rw [epl] at pn
        exact absurd rfl ((List.nodup_append.mp pn).2.2 i hj i List.mem_cons_self)
    · rcases hh with ⟨h0, h1⟩ | ⟨j, y2, a1, a2, a3, a4⟩
      · refine .inl ⟨h0, fun i2 h2 y2 hy2 => ?_⟩
        rcases List.mem_append.mp h2 with h2 | h2
        · exact h1 i2 h2 y2 hy2
        · obtain rfl := List.mem_singleton.mp h2
          rw [hy] at hy2
          cases hy2; exact ne
      · exact .inr ⟨j, y2, a1, List.mem_append_left _ a2, a3, a4⟩
  have fin : ∀ {done : List Nat} {hit : Option Nat}, pl = done ++ [] → ((hit = none ∧ ∀ i ∈ done, ∀ y, ys[i]? = some y → y.1 ≠ k) ∨ ∃ j y, hit = some j ∧ j ∈ done ∧ ys[j]? = some y ∧ y.1 = k) → Q hit s := by
    intro done hit epl hh
    rw [List.append_nil] at epl
    rcases hh with ⟨h0, h1⟩ | ⟨j, y2, a1, a2, a3, a4⟩
    · rw [h0]; exact q0 (miss (by rw [epl]; exact h1))
    · rw [a1]; exact q1 j y2 a3 a4
  have any0 : ∀ b, u = .ref b → ¬ (es.any fun e => e.key == Value.ref b && e.hash != k.hash w) = true := by
    intro b eb
    rw [← Array.any_toList, List.any_eq_true]
    rintro ⟨e, hin, hc⟩
    rw [he] at hin
    obtain ⟨y, hy, rfl⟩ := List.mem_map.mp hin
    simp only [nEnt, Bool.and_eq_true, beq_iff_eq, bne_iff_ne, ne_eq] at hc
    have h1 := (his y hy).1
    rw [hc.1, ← eb] at h1
    exact hc.2 (by rw [NestedIs.inj _ _ _ h1 hk.1])
  have epf : ∀ {P : Prop}, (ep != ep) = true → P := fun h => by rw [bne_self_eq_false] at h; cases h
  rcases id hk.2.2 with rfl | ⟨b, rfl⟩ <;> dsimp only
  · refine w_ite (fun _ => ?_) fun _ => ?_
    · unfold dictWalkPlain
      refine wpAny_bind ?_
      refine wpAny_forIn_list _ (fun left b s' => s' = s ∧ b = (none, ()) ∧ ∃ done, pl = done ++ left ∧ ∀ i ∈ done, ∀ y, ys[i]? = some y → y.1 ≠ k) _ (fun i left b s' hh => ?_) (fun b s' hh => ?_) _ _ ⟨rfl, rfl, [], rfl, fun _ h => nomatch h⟩
      · obtain ⟨rfl, rfl, done, epl, hno⟩ := hh
        obtain ⟨y, hy, e, h1, h2, h3⟩ := step (hit := none) epl (.inl ⟨rfl, hno⟩)
        rw [at_ hy]
        dsimp only
        refine w_ite (fun _ => ?_) fun h => absurd (show ((nEnt w y).hash == k.hash w) = true by rw [beq_iff_eq]; exact e) h
        refine wpAny_bind (wpAny_dictEpoch ho hd (wpAny_bind (n_eq hu (his y (List.mem_of_getElem? hy)) hk (wpAny_bind (wpAny_dictEpoch ho hd ?_)))))
        refine w_ite epf fun _ => ?_
        by_cases ek : y.1 = k
        · rw [decide_eq_true ek]
          refine w_ite (fun _ => ?_) fun h => absurd rfl h
          exact wpAny_bind (wpAny_rule (wpAny_pure (wpAny_pure (q1 i y hy ek))))
        · rw [decide_eq_false ek]
          refine w_ite (fun h => nomatch h) fun _ => ?_
          refine wpAny_bind (wpAny_rule (wpAny_pure ⟨rfl, rfl, done ++ [i], h2, ?_⟩))
          rcases h3 ek with ⟨_, h⟩ | ⟨_, _, h, _⟩
          · exact h
          · cases h
      · obtain ⟨rfl, rfl, done, epl, hno⟩ := hh
        exact wpAny_pure (fin epl (.inl ⟨rfl, hno⟩))
    refine w_ite (fun _ => wpAny_bind (wpAny_pure ?_)) fun _ => wpAny_bind (n_tells hk st ?_)
    all_goals
      refine w_ite (fun h => absurd h (by simp)) fun _ => ?_
      refine wpAny_bind ?_
      refine wpAny_forIn_list _ (fun left b s' => s' = s ∧ ∃ hit done, b = (none, hit) ∧ pl = done ++ left ∧ ((hit = none ∧ ∀ i ∈ done, ∀ y, ys[i]? = some y → y.1 ≠ k) ∨ ∃ j y, hit = some j ∧ j ∈ done ∧ ys[j]? = some y ∧ y.1 = k)) _ (fun i left b s' hh => ?_) (fun b s' hh => ?_) _ _ ⟨rfl, none, [], rfl, rfl, .inl ⟨rfl, fun _ h => nomatch h⟩⟩
      · obtain ⟨rfl, hit, done, rfl, epl, hno⟩ := hh
        obtain ⟨y, hy, e, h1, h2, h3⟩ := step epl hno
        rw [at_ hy]
        dsimp only
        refine w_ite (fun _ => ?_) fun h => absurd (show ((nEnt w y).hash == k.hash w) = true by rw [beq_iff_eq]; exact e) h
        refine wpAny_bind (wpAny_dictEpoch ho hd (wpAny_bind (n_eq hu (his y (List.mem_of_getElem? hy)) hk (wpAny_bind (wpAny_dictEpoch ho hd ?_)))))
        refine w_ite epf fun _ => ?_
        by_cases ek : y.1 = k
        · rw [decide_eq_true ek]
          refine w_ite (fun _ => ?_) fun h => absurd rfl h
          obtain rfl := h1 ek
          refine w_ite (fun h => nomatch h) fun _ => ?_
          refine wpAny_bind (wpAny_rule ?_)
          refine w_ite (fun _ => wpAny_pure (wpAny_pure (q1 i y hy ek))) fun _ => wpAny_pure ⟨rfl, some i, done ++ [i], rfl, h2, .inr ⟨i, y, rfl, by simp, hy, ek⟩⟩
        · rw [decide_eq_false ek]
          refine w_ite (fun h => nomatch h) fun _ => ?_
          refine wpAny_bind (wpAny_rule ?_)
          refine w_ite (fun h => absurd h (by simp)) fun _ => ?_
          exact wpAny_pure ⟨rfl, hit, done ++ [i], rfl, h2, h3 ek⟩
      · obtain ⟨rfl, hit, done, rfl, epl, hno⟩ := hh
        exact wpAny_pure (fin epl hno)
  · refine w_ite (fun h => ?_) fun _ => ?_
    · simp [carriedByValue] at h
    refine w_ite (fun h => absurd h (any0 b rfl)) fun _ => ?_
    refine w_ite (fun _ => wpAny_bind (wpAny_pure ?_)) fun _ => wpAny_bind (n_tells hk st ?_)
    all_goals
      refine w_ite (fun h => absurd h (by simp)) fun _ => ?_
      refine wpAny_bind ?_
      refine wpAny_forIn_list _ (fun left b s' => s' = s ∧ ∃ hit done, b = (none, hit) ∧ pl = done ++ left ∧ ((hit = none ∧ ∀ i ∈ done, ∀ y, ys[i]? = some y → y.1 ≠ k) ∨ ∃ j y, hit = some j ∧ j ∈ done ∧ ys[j]? = some y ∧ y.1 = k)) _ (fun i left b s' hh => ?_) (fun b s' hh => ?_) _ _ ⟨rfl, none, [], rfl, rfl, .inl ⟨rfl, fun _ h => nomatch h⟩⟩
      · obtain ⟨rfl, hit, done, rfl, epl, hno⟩ := hh
        obtain ⟨y, hy, e, h1, h2, h3⟩ := step epl hno
        rw [at_ hy]
        dsimp only
        refine w_ite (fun _ => ?_) fun h => absurd (show ((nEnt w y).hash == k.hash w) = true by rw [beq_iff_eq]; exact e) h
        refine wpAny_bind (wpAny_dictEpoch ho hd (wpAny_bind (n_eq hu (his y (List.mem_of_getElem? hy)) hk (wpAny_bind (wpAny_dictEpoch ho hd ?_)))))
        refine w_ite epf fun _ => ?_
        by_cases ek : y.1 = k
        · rw [decide_eq_true ek]
          refine w_ite (fun _ => ?_) fun h => absurd rfl h
          obtain rfl := h1 ek
          refine w_ite (fun h => nomatch h) fun _ => ?_
          refine wpAny_bind (wpAny_rule ?_)
          refine w_ite (fun _ => wpAny_pure (wpAny_pure (q1 i y hy ek))) fun _ => wpAny_pure ⟨rfl, some i, done ++ [i], rfl, h2, .inr ⟨i, y, rfl, by simp, hy, ek⟩⟩
        · rw [decide_eq_false ek]
          refine w_ite (fun h => nomatch h) fun _ => ?_
          refine wpAny_bind (wpAny_rule ?_)
          refine w_ite (fun h => absurd h (by simp)) fun _ => ?_
          exact wpAny_pure ⟨rfl, hit, done ++ [i], rfl, h2, h3 ek⟩
      · obtain ⟨rfl, hit, done, rfl, epl, hno⟩ := hh
        exact wpAny_pure (fin epl hno)

end
end Ssb

namespace Ssb
open PySem PySem.Spec PyProof.Rows L2
section
variable {α : Type}
/-- what is stored at a key -/
def valN (xs : List (NestedKey × α × α)) (k : NestedKey) : Option α := (xs.find? fun x => decide (x.1 = k)).map (·.2.2)
def putN (xs : List (NestedKey × α × α)) (k : NestedKey) (a v : α) : List (NestedKey × α × α) :=
  if (valN xs k).isSome = true then xs.map fun x => if x.1 = k then (x.1, x.2.1, v) else x else xs ++ [(k, a, v)]
theorem valN_cons {x : NestedKey × α × α} {xs : List (NestedKey × α × α)} {k : NestedKey} : valN (x :: xs) k = if x.1 = k then some x.2.2 else valN xs k := by
  unfold valN
  by_cases h : x.1 = k
  · rw [if_pos h, List.find?_cons_of_pos (by simpa using h)]; rfl
  · rw [if_neg h, List.find?_cons_of_neg (by simpa using h)]
theorem valN_none {xs : List (NestedKey × α × α)} {k : NestedKey} : valN xs k = none ↔ ∀ y ∈ xs, y.1 ≠ k := by
  induction xs with
  | nil => exact ⟨(fun _ _ h => nomatch h), fun _ => rfl⟩
  | cons x xs ih =>
    rw [valN_cons]
    by_cases h : x.1 = k
    · rw [if_pos h]
      exact ⟨(fun e => nomatch e), fun hh => absurd h (hh x List.mem_cons_self)⟩
    · rw [if_neg h, ih]
      refine ⟨fun hh y hy => ?_, fun hh y hy => hh y (List.mem_cons_of_mem _ hy)⟩
      rcases List.mem_cons.mp hy with rfl | hy
      · exact h
      · exact hh y hy
theorem valN_at {xs : List (NestedKey × α × α)} (hn : (xs.map (·.1)).Nodup) {j : Nat} {y : NestedKey × α × α} (hj : xs[j]? = some y) : valN xs y.1 = some y.2.2 := by
  induction xs generalizing j with
  | nil => simp at hj
  | cons x xs ih =>
    rw [valN_cons]
    rw [List.map_cons, List.nodup_cons] at hn
    cases j with
    | zero => cases hj; rw [if_pos rfl]
    | succ j =>
      have hj : xs[j]? = some y := by simpa using hj
      rw [if_neg (fun e : x.1 = y.1 => hn.1 (List.mem_map.mpr ⟨y, List.mem_of_getElem? hj, e.symm⟩))]
      exact ih hn.2 hj
theorem putN_keys (xs : List (NestedKey × α × α)) (k : NestedKey) (a v : α) : (putN xs k a v).map (·.1) = if (valN xs k).isSome = true then xs.map (·.1) else xs.map (·.1) ++ [k] := by
  unfold putN
  by_cases h : (valN xs k).isSome = true
  · rw [if_pos h, if_pos h, List.map_map]
    refine List.map_congr_left fun x _ => ?_
    show (if x.1 = k then (x.1, x.2.1, v) else x).1 = x.1
    by_cases e : x.1 = k
    · rw [if_pos e]
    · rw [if_neg e]
  · rw [if_neg h, if_neg h, List.map_append]; rfl
theorem putN_nd {xs : List (NestedKey × α × α)} {k : NestedKey} {a v : α} (hn : (xs.map (·.1)).Nodup) : ((putN xs k a v).map (·.1)).Nodup := by
  rw [putN_keys]
  by_cases h : (valN xs k).isSome = true
  · rw [if_pos h]; exact hn
  · rw [if_neg h]
    have h0 : valN xs k = none := by cases e : valN xs k with
      | none => rfl
      | some z => rw [e] at h; exact absurd rfl h
    refine List.nodup_append.mpr ⟨hn, by simp, fun a ha b hb => ?_⟩
    rw [List.mem_singleton.mp hb]
    obtain ⟨y, hy, rfl⟩ := List.mem_map.mp ha
    exact valN_none.mp h0 y hy
theorem putN_len (xs : List (NestedKey × α × α)) (k : NestedKey) (a v : α) : (putN xs k a v).length ≤ xs.length + 1 := by
  unfold putN
  by_cases h : (valN xs k).isSome = true
  · rw [if_pos h, List.length_map]; omega
  · rw [if_neg h, List.length_append]; exact Nat.le_refl _
theorem putN_mem {xs : List (NestedKey × α × α)} {k : NestedKey} {a v : α} {y : NestedKey × α × α} (h : y ∈ putN xs k a v) : (∃ x ∈ xs, x.1 = y.1 ∧ x.2.1 = y.2.1) ∨ (y.1 = k ∧ y.2.1 = a) := by
  unfold putN at h
  by_cases c : (valN xs k).isSome = true
  · rw [if_pos c] at h
    obtain ⟨x, hx, e⟩ := List.mem_map.mp h
    refine .inl ⟨x, hx, ?_⟩
    by_cases ek : x.1 = k
    · rw [if_pos ek] at e; rw [← e]; exact ⟨rfl, rfl⟩
    · rw [if_neg ek] at e; rw [← e]; exact ⟨rfl, rfl⟩
  · rw [if_neg c] at h
    rcases List.mem_append.mp h with h | h
    · exact .inl ⟨y, h, rfl, rfl⟩
    · rw [List.mem_singleton.mp h]; exact .inr ⟨rfl, rfl⟩
theorem putN_val {xs : List (NestedKey × α × α)} {k q : NestedKey} {a v : α} : valN (putN xs k a v) q = if q = k then some v else valN xs q := by
  unfold putN
  by_cases c : (valN xs k).isSome = true
  · rw [if_pos c]
    induction xs with
    | nil => cases c
    | cons x xs ih =>
      rw [List.map_cons, valN_cons, valN_cons]
      by_cases ek : x.1 = k
      · rw [if_pos ek]
        by_cases eq : q = k
        · rw [if_pos (show (x.1, x.2.1, v).1 = q by rw [eq]; exact ek), if_pos eq]
        · have n1 : ¬ x.1 = q := fun e => eq (e.symm.trans ek)
          rw [if_neg (show ¬ (x.1, x.2.1, v).1 = q from n1), if_neg eq, if_neg n1]
          by_cases c2 : (valN xs k).isSome = true
          · rw [ih c2, if_neg eq]
          · have hn : ∀ y ∈ xs, y.1 ≠ k := valN_none.mp (by cases e : valN xs k with
              | none => rfl
              | some z => rw [e] at c2; exact absurd rfl c2)
            rw [show (xs.map fun x => if x.1 = k then (x.1, x.2.1, v) else x) = xs from by
              conv => rhs; rw [← List.map_id xs]
              exact List.map_congr_left fun y hy => if_neg (hn y hy)]
      · rw [if_neg ek]
        rw [valN_cons, if_neg ek] at c
        rw [ih c]
        by_cases eq : x.1 = q
        · rw [if_pos eq, if_neg (fun e => ek (eq.trans e)), if_pos eq]
        · rw [if_neg eq, if_neg eq]
  · rw [if_neg c]
    induction xs with
    | nil =>
      rw [List.nil_append, valN_cons]
      by_cases e : q = k
      · rw [if_pos e, if_pos e.symm]
      · rw [if_neg e, if_neg (fun z => e z.symm)]
    | cons x xs ih =>
      rw [List.cons_append, valN_cons, valN_cons]
      rw [valN_cons] at c
      by_cases ek : x.1 = k
      · rw [if_pos ek] at c; exact absurd rfl c
      rw [if_neg ek] at c
      rw [ih c]
      by_cases eq : x.1 = q
      · rw [if_pos eq, if_pos eq, if_neg (fun e => ek (eq.trans e))]
      · rw [if_neg eq, if_neg eq]
end
/-- a dict of such keys in the heap -/
def NDict (w : World) (h : Heap) (d : Addr) (ys : List NEnt) : Prop := ∃ o es ep, h.get? d = some o ∧ o.ExactDict ∧ o.data = .dict es ep ∧ es.toList = ys.map (nEnt w)
theorem NDict.typeIs {w : World} {s : Shared} {d : Addr} {ys : List NEnt} (x : NDict w s.heap d ys) : s.TypeIs (.ref d) "dict" := let ⟨o, _, _, ho, hc, _⟩ := x; ⟨o, ho, hc.1⟩
section
variable {prog : Program} {w : World} {A : Around} {E : Value → Shared → Prop} {s : Shared} {d : Addr} {u : Value} {k : NestedKey} {ys : List NEnt}
theorem n_hash {Q : Int → Shared → Prop} (hu : A.units + 8 < cLine) (hk : NKey s.heap k u) (h : Q (k.hash w) { s with toks := s.toks + k.draws }) : wpAny (model prog w) A (PySem.pyHash u) Q E s := by
  have dk := hk.2.1
  exact pyHash_key _ _ _ _ _ hk.1 (by omega) h
theorem n_get {Q : Option Value → Shared → Prop} (hu : A.units + 8 < cLine) (hk : NKey s.heap k u) (hm : NDict w s.heap d ys) (his : ∀ y ∈ ys, NKey s.heap y.1 y.2.1) (hn : (ys.map (·.1)).Nodup)
    (h : Q (valN ys k) { s with toks := s.toks + k.draws }) : wpAny (model prog w) A (dictGet d u) Q E s := by
  obtain ⟨o, es, ep, ho, _, hd, he⟩ := hm
  unfold dictGet
  refine wpAny_holding (wpAny_bind (n_hash hu hk (wpAny_bind (n_find (s := { s with toks := s.toks + k.draws }) hu hk ho hd he his hn (fun no => ?_) fun j y hj e => ?_))))
  · rw [valN_none.mpr no] at h
    exact wpAny_pure h
  · subst e
    rw [valN_at hn hj] at h
    refine wpAny_bind (wpAny_dictEntries (s := { s with toks := s.toks + y.1.draws }) ho hd ?_)
    rw [nAt he, hj]
    exact wpAny_pure h
theorem NKey.keeps {h h' : Heap} {o : Obj} {es : Array DictEntry} {ep : Nat} (x : NKey h k u) (ho : h.get? d = some o) (hd : o.data = .dict es ep) (hs : Heap.SameBut d h h') : NKey h' k u :=
  ⟨NestedIs.at (fun b ob vs n hb hc => (hs.2 b (fun e => by rw [e, ho] at hb; cases hb; rw [hd] at hc; cases hc)).trans hb) k u x.1, x.2⟩
theorem mod_put {v : Value} : ∀ {ys : List NEnt} {j : Nat} {y : NEnt}, (ys.map (·.1)).Nodup → ys[j]? = some y → (ys.map (nEnt w)).modify j (fun e => { e with val := v }) = (ys.map fun x => if x.1 = y.1 then (x.1, x.2.1, v) else x).map (nEnt w)
  | [], _, _, _, h => by simp at h
  | x :: ys, 0, y, hn, h => by
    cases h
    rw [List.map_cons, List.nodup_cons] at hn
    rw [List.map_cons, List.map_cons, List.map_cons, if_pos rfl]
    have : (ys.map fun z => if z.1 = x.1 then (z.1, z.2.1, v) else z) = ys := by
      conv => rhs; rw [← List.map_id ys]
      exact List.map_congr_left fun z hz => if_neg fun e => hn.1 (List.mem_map.mpr ⟨z, hz, e⟩)
    rw [this]
    rfl
  | x :: ys, j + 1, y, hn, h => by
    rw [List.map_cons, List.nodup_cons] at hn
    have h : ys[j]? = some y := by simpa using h
    rw [List.map_cons, List.map_cons, List.map_cons, if_neg (fun e => hn.1 (List.mem_map.mpr ⟨y, List.mem_of_getElem? h, e.symm⟩)), ← mod_put hn.2 h]
    rfl
theorem n_set {v : Value} {Q : Unit → Shared → Prop} (hu : A.units + 8 < cLine) (hk : NKey s.heap k u) (hm : NDict w s.heap d ys) (his : ∀ y ∈ ys, NKey s.heap y.1 y.2.1) (hn : (ys.map (·.1)).Nodup) (hz : ys.length ≤ sizeLine)
    (h : ∀ h', NDict w h' d (putN ys k u v) → Heap.SameBut d s.heap h' → Q () { s with heap := h', toks := s.toks + k.draws }) : wpAny (model prog w) A (dictSet d u v) Q E s := by
  obtain ⟨o, es, ep, ho, hc, hd, he⟩ := hm
  unfold dictSet
  refine wpAny_holding (wpAny_bind (n_hash hu hk ?_))
  unfold dictSetHashed
  refine wpAny_holding (wpAny_bind (n_find (s := { s with toks := s.toks + k.draws }) hu hk ho hd he his hn (fun no => ?_) fun j y hj e => ?_))
  · have e0 : putN ys k u v = ys ++ [(k, u, v)] := by
      unfold putN
      rw [valN_none.mpr no]
      rfl
    rw [e0] at h
    refine wpAny_bind (wpAny_rule ?_)
    refine wpAny_updateDictKeys (hz := by have e := nSize he; omega) (s := { s with toks := s.toks + k.draws }) ho hd (h _ ⟨_, _, ep + 1, Heap.get?_update_self _ ho (Obj.isFreed_of_dict (Obj.data_mapDictKeys hd _)), hc.mapDictKeys _, Obj.data_mapDictKeys hd _, ?_⟩ (Heap.SameBut.update ..))
    rw [List.map_append, ← he]
    simp [nEnt]
  · subst e
    have e0 : putN ys y.1 u v = ys.map fun x => if x.1 = y.1 then (x.1, x.2.1, v) else x := by
      unfold putN
      rw [valN_at hn hj]
      rfl
    rw [e0] at h
    refine wpAny_bind (wpAny_rule (wpAny_bind ?_))
    refine wpAny_updateDict (s := { s with toks := s.toks + y.1.draws }) ho hd (wpAny_point (h _ ⟨_, _, ep, Heap.get?_update_self _ ho (Obj.isFreed_of_dict (Obj.data_mapDict hd _)), hc.mapDict _, Obj.data_mapDict hd _, ?_⟩ (Heap.SameBut.update ..)))
    rw [← mod_put hn hj, ← he]
    obtain ⟨l⟩ := es
    simp
end
end Ssb

namespace Ssb
open PySem PySem.Spec PyProof.Rows L2
/-- the value v is the key k -/
def KeyAt (H : Hp) : D → V → Prop := fun d v => ∃ n S, Rep H n S d v
/-- data that may be keys -/
def kdD : Nat → D → Prop
  | _, .non => True
  | _, .int _ => True
  | _, .str _ => True
  | n + 1, .tup l => ∀ x ∈ l, kdD n x
  | _, _ => False
mutual
def nkD : D → NestedKey
  | .non => .none
  | .int i => .num i
  | .str s => .text s
  | .tup l => .tup (nkL l)
  | .bl _ => .none
  | .lst _ => .none
  | .dic _ => .none
def nkL : List D → List NestedKey
  | [] => []
  | d :: l => nkD d :: nkL l
end
theorem nk_depth : ∀ {n : Nat} {d : D}, kdD n d → (nkD d).depth ≤ n
  | n, .non, _ => by rw [nkD]; exact Nat.zero_le _
  | n, .int _, _ => by rw [nkD]; exact Nat.zero_le _
  | n, .str _, _ => by rw [nkD]; exact Nat.zero_le _
  | n + 1, .tup l, h => by
    rw [nkD]
    show NestedKey.depthAll (nkL l) + 1 ≤ n + 1
    have : ∀ l : List D, (∀ x ∈ l, kdD n x) → NestedKey.depthAll (nkL l) ≤ n := fun l => by
      induction l with
      | nil => intro _; exact Nat.zero_le _
      | cons d l ih =>
        intro h
        rw [nkL]
        show max (nkD d).depth (NestedKey.depthAll (nkL l)) ≤ n
        exact Nat.max_le.mpr ⟨nk_depth (h d List.mem_cons_self), ih fun x hx => h x (List.mem_cons_of_mem _ hx)⟩
    have := this l h
    omega
  | 0, .tup _, h => h.elim
  | n, .bl _, h => by cases n <;> exact h.elim
  | n, .lst _, h => by cases n <;> exact h.elim
  | n, .dic _, h => by cases n <;> exact h.elim
theorem nk_inj : ∀ {n m : Nat} {a b : D}, kdD n a → kdD m b → nkD a = nkD b → a = b := by
  intro n
  induction n with
  | zero =>
    intro m a b ha hb e
    cases a <;> cases b <;> simp only [nkD] at e <;> first | rfl | (cases e; rfl) | exact ha.elim | (cases m <;> exact hb.elim) | cases e
  | succ n ih =>
    intro m a b ha hb e
    cases a with
    | tup l =>
      cases b with
      | tup l' =>
        cases m with
        | zero => exact hb.elim
        | succ m =>
        simp only [nkD] at e
        injection e with e
        have : ∀ l l' : List D, (∀ x ∈ l, kdD n x) → (∀ x ∈ l', kdD m x) → nkL l = nkL l' → l = l' := fun l => by
          induction l with
          | nil => intro l' _ _ e; cases l' with
            | nil => rfl
            | cons y l' => rw [nkL, nkL] at e; cases e
          | cons x l ih2 =>
            intro l' h1 h2 e
            cases l' with
            | nil => rw [nkL, nkL] at e; cases e
            | cons y l' =>
              rw [nkL, nkL] at e
              injection e with e1 e2
              rw [ih (h1 x List.mem_cons_self) (h2 y List.mem_cons_self) e1, ih2 l' (fun z hz => h1 z (List.mem_cons_of_mem _ hz)) (fun z hz => h2 z (List.mem_cons_of_mem _ hz)) e2]
        rw [this l l' ha hb e]
      | non => simp only [nkD] at e; cases e
      | int i => simp only [nkD] at e; cases e
      | str s => simp only [nkD] at e; cases e
      | bl i => cases m <;> exact hb.elim
      | lst i => cases m <;> exact hb.elim
      | dic i => cases m <;> exact hb.elim
    | non => cases b <;> simp only [nkD] at e <;> first | rfl | (cases m <;> exact hb.elim) | cases e
    | int i => cases b <;> simp only [nkD] at e <;> first | (cases e; rfl) | (cases m <;> exact hb.elim) | cases e
    | str i => cases b <;> simp only [nkD] at e <;> first | (cases e; rfl) | (cases m <;> exact hb.elim) | cases e
    | bl i => exact ha.elim
    | lst i => exact ha.elim
    | dic i => exact ha.elim
section
variable {P : Program} {w : World} {H : Hp} {h : Heap}
theorem rep_nested (ok : HOk P w H h) : ∀ {n m : Nat} {S : Addr → Prop} {d : D} {v : V} {u : Value}, kdD n d → Rep H m S d v → RelV v u → NestedIs h (nkD d) u
  | _, 0, _, _, _, _, _, r, _ => r.elim
  | n, m + 1, S, .non, v, u, _, r, e => by
    have r : v = .non := r
    subst r
    obtain rfl : u = Value.none := e
    rw [nkD]; exact .none
  | n, m + 1, S, .int i, v, u, _, r, e => by
    have r : v = .int i := r
    subst r
    obtain ⟨t, rfl⟩ := e
    rw [nkD]; exact .int i t
  | n, m + 1, S, .str i, v, u, _, r, e => by
    have r : v = .str i := r
    subst r
    obtain ⟨t, rfl⟩ := e
    rw [nkD]; exact .text i t
  | n + 1, m + 1, S, .tup l, v, u, hk, r, e => by
    obtain ⟨t, ys, rfl, ht, _, pr⟩ := r
    obtain rfl : u = Value.ref t := e
    obtain ⟨_, its, rv, o, h1, h2, n1, h3⟩ := (show ObjOk P w H h t (.tup ys) from ok t _ ht)
    rw [nkD]
    refine .tup h1 h2 h3 ?_
    have : ∀ {l : List D} {ys : List V} {its : List Value}, (∀ x ∈ l, kdD n x) → Paired (fun d x => Rep H m S d x) l ys → Vals ys its → NestedAll h (nkL l) its := fun {l} => by
      induction l with
      | nil => intro ys its _ pr rv; cases pr; cases rv; rw [nkL]; exact .nil
      | cons d l ih =>
        intro ys its hk pr rv
        cases pr with
        | cons p1 pr =>
        cases rv with
        | cons v1 rv =>
        rw [nkL]
        exact .cons (rep_nested ok (hk d List.mem_cons_self) p1 v1) (ih (fun x hx => hk x (List.mem_cons_of_mem _ hx)) pr rv)
    simpa using this hk pr rv
  | 0, m + 1, S, .tup l, v, u, hk, r, e => hk.elim
  | n, m + 1, S, .bl l, v, u, hk, r, e => by cases n <;> exact hk.elim
  | n, m + 1, S, .lst l, v, u, hk, r, e => by cases n <;> exact hk.elim
  | n, m + 1, S, .dic l, v, u, hk, r, e => by cases n <;> exact hk.elim
/-- v is the key d: None or a tuple of keys -/
def KeyV (H : Hp) (d : D) (v : V) : Prop := kdD 8 d ∧ (d = .non ∨ ∃ l, d = .tup l) ∧ ∃ n S, Rep H n S d v
theorem key_n {d : D} {v : V} {u : Value} (ok : HOk P w H h) (k : KeyV H d v) (e : RelV v u) : NKey h (nkD d) u := by
  obtain ⟨h1, h2, n, S, r⟩ := k
  refine ⟨rep_nested ok h1 r e, nk_depth h1, ?_⟩
  cases n with
  | zero => exact r.elim
  | succ n =>
  rcases h2 with rfl | ⟨l, rfl⟩
  · have r : v = .non := r
    subst r
    exact .inl e
  · obtain ⟨t, _, rfl, _⟩ := r
    exact .inr ⟨t, e⟩
theorem KeyV.ex {H' : Hp} {d : D} {v : V} (e : ∀ b o, H b = some o → H' b = some o) (k : KeyV H d v) : KeyV H' d v := let ⟨h1, h2, n, S, r⟩ := k; ⟨h1, h2, n, S, rep_ex e r⟩
end
/-- an entry of a dict: its key as data, the key's value, what is stored -/
abbrev XEnt := D × V × V
def xk (x : XEnt) : NestedKey × V × V := (nkD x.1, x.2.1, x.2.2)
def RelE (x : XEnt) (y : NEnt) : Prop := nkD x.1 = y.1 ∧ RelV x.2.1 y.2.1 ∧ RelV x.2.2 y.2.2
/-- such a dict, as it is known -/
def DkO (w : World) (a : Addr) (xs : List XEnt) : HO := .ext fun h => xs.length ≤ sizeLine ∧ (a == sysModules) = false ∧ ∃ ys, NDict w h a ys ∧ Paired RelE xs ys ∧ ((xs.map xk).map (·.1)).Nodup
def Keys (H : Hp) (xs : List XEnt) : Prop := ∀ x ∈ xs, KeyV H x.1 x.2.1
def valX (xs : List XEnt) (d : D) : Option V := valN (xs.map xk) (nkD d)
def putX (xs : List XEnt) (d : D) (a v : V) : List XEnt := if (valX xs d).isSome = true then xs.map fun x => if nkD x.1 = nkD d then (x.1, x.2.1, v) else x else xs ++ [(d, a, v)]
theorem Paired.mem2 {α β : Type} {F : α → β → Prop} : ∀ {l : List α} {m : List β}, Paired F l m → ∀ b ∈ m, ∃ a ∈ l, F a b
  | _, _, .nil, _, h => nomatch h
  | _, _, .cons h t, b, hb => by
    rcases List.mem_cons.mp hb with rfl | hb
    · exact ⟨_, List.mem_cons_self, h⟩
    · obtain ⟨a, ha, e⟩ := Paired.mem2 t b hb
      exact ⟨a, List.mem_cons_of_mem _ ha, e⟩
theorem rel_val {xs : List XEnt} {ys : List NEnt} (h : Paired RelE xs ys) (k : NestedKey) : RelO (valN (xs.map xk) k) (valN ys k) := by
  induction h with
  | nil => exact True.intro
  | @cons x y xs ys h t ih =>
    rw [List.map_cons, valN_cons, valN_cons]
    by_cases e : nkD x.1 = k
    · rw [if_pos (show (xk x).1 = k from e), if_pos (by rw [← h.1]; exact e)]
      exact h.2.2
    · rw [if_neg (show ¬ (xk x).1 = k from e), if_neg (by rw [← h.1]; exact e)]
      exact ih
theorem putX_xk {xs : List XEnt} {d : D} {a v : V} : (putX xs d a v).map xk = putN (xs.map xk) (nkD d) a v := by
  unfold putX putN
  by_cases c : (valN (xs.map xk) (nkD d)).isSome = true
  · rw [if_pos (show (valX xs d).isSome = true from c), if_pos c, List.map_map, List.map_map]
    refine List.map_congr_left fun x _ => ?_
    show xk (if nkD x.1 = nkD d then (x.1, x.2.1, v) else x) = if (xk x).1 = nkD d then ((xk x).1, (xk x).2.1, v) else xk x
    by_cases e : nkD x.1 = nkD d
    · rw [if_pos e, if_pos (show (xk x).1 = nkD d from e)]; rfl
    · rw [if_neg e, if_neg (show ¬ (xk x).1 = nkD d from e)]
  · rw [if_neg (show ¬ (valX xs d).isSome = true from c), if_neg c, List.map_append]; rfl
theorem RelO.isS {o : Option V} {p : Option Value} (h : RelO o p) : o.isSome = p.isSome := by
  cases o <;> cases p <;> first | rfl | exact h.elim
theorem rel_put {xs : List XEnt} {ys : List NEnt} {d : D} {a v : V} {u r : Value} (h : Paired RelE xs ys) (ra : RelV a u) (rv : RelV v r) : Paired RelE (putX xs d a v) (putN ys (nkD d) u r) := by
  have e := RelO.isS (rel_val h (nkD d))
  unfold putX putN
  by_cases c : (valN ys (nkD d)).isSome = true
  · rw [if_pos (show (valX xs d).isSome = true from e.trans c), if_pos c]
    clear e c
    induction h with
    | nil => exact .nil
    | @cons x y xs ys h t ih =>
      rw [List.map_cons, List.map_cons]
      refine .cons ?_ ih
      by_cases e : nkD x.1 = nkD d
      · rw [if_pos e, if_pos (by rw [← h.1]; exact e)]
        exact ⟨h.1, h.2.1, rv⟩
      · rw [if_neg e, if_neg (by rw [← h.1]; exact e)]
        exact h
  · rw [if_neg (show ¬ (valX xs d).isSome = true from fun z => c (e.symm.trans z)), if_neg c]
    clear e c
    induction h with
    | nil => exact .cons ⟨rfl, ra, rv⟩ .nil
    | cons h t ih => exact .cons h ih
theorem putX_len {xs : List XEnt} {d : D} {a v : V} : (putX xs d a v).length ≤ xs.length + 1 := by
  have := putN_len (xs.map xk) (nkD d) a v
  rw [← putX_xk, List.length_map, List.length_map] at this
  exact this
theorem putX_keys {H : Hp} {xs : List XEnt} {d : D} {a v : V} (h : Keys H xs) (k : KeyV H d a) : Keys H (putX xs d a v) := fun y hy => by
  unfold putX at hy
  by_cases c : (valX xs d).isSome = true
  · rw [if_pos c] at hy
    obtain ⟨x, hx, e⟩ := List.mem_map.mp hy
    by_cases ek : nkD x.1 = nkD d
    · rw [if_pos ek] at e; rw [← e]; exact h x hx
    · rw [if_neg ek] at e; rw [← e]; exact h x hx
  · rw [if_neg c] at hy
    rcases List.mem_append.mp hy with hy | hy
    · exact h y hy
    · rw [List.mem_singleton.mp hy]; exact k
theorem valX_put {xs : List XEnt} {d q : D} {a v : V} : valX (putX xs d a v) q = if nkD q = nkD d then some v else valX xs q := by
  unfold valX
  rw [putX_xk, putN_val]
section
variable {P : Program} {w : World} {H : Hp} {h : Heap} {a : Addr}
theorem dn_of {xs : List XEnt} (ok : HOk P w H h) (hk : Keys H xs) (e : Rd H a (DkO w a xs)) : xs.length ≤ sizeLine ∧ (a == sysModules) = false ∧ ∃ ys, NDict w h a ys ∧ Paired RelE xs ys ∧ (ys.map (·.1)).Nodup ∧ ∀ y ∈ ys, NKey h y.1 y.2.1 := by
  obtain ⟨⟨h1, h2, ys, h3, h4, h5⟩, h6⟩ := (show ObjOk P w H h a (DkO w a xs) from e.ok ok)
  refine ⟨h1, h2, ys, h3, h4, ?_, fun y hy => ?_⟩
  · have : ys.map (·.1) = (xs.map xk).map (·.1) := by
      clear h3 h5 hk e h1 h2 h6
      induction h4 with
      | nil => rfl
      | cons h t ih => rw [List.map_cons, List.map_cons, List.map_cons, ih, ← h.1]; rfl
    rw [this]; exact h5
  · obtain ⟨x, hx, e⟩ := Paired.mem2 h4 y hy
    rw [← e.1]
    exact key_n ok (hk x hx) e.2.1
theorem dn_new {H' : Hp} {h' : Heap} {xs : List XEnt} {ys : List NEnt} (h1 : xs.length ≤ sizeLine) (h2 : (a == sysModules) = false) (h3 : NDict w h' a ys) (h4 : Paired RelE xs ys) (h5 : ((xs.map xk).map (·.1)).Nodup) : ObjOk P w H' h' a (DkO w a xs) := by
  refine ⟨⟨h1, h2, ys, h3, h4, h5⟩, ?_, fun g1 g2 p k => ?_⟩
  · obtain ⟨o, _, _, ho, _⟩ := h3; exact ⟨o, ho⟩
  · obtain ⟨a1, a2, zs, ⟨o, es, ep, ho, r⟩, a4⟩ := p
    exact ⟨a1, a2, zs, ⟨o, es, ep, k o ho, r⟩, a4⟩
end
/-- what the dict at a holds at y -/
def NGet (w : World) (H : Hp) (a : Addr) (y : V) (r : Option V) : Prop := ∃ xs d, Rd H a (DkO w a xs) ∧ Keys H xs ∧ KeyV H d y ∧ r = valX xs d
section
variable {X : Cx} {pins : List (Addr × Obj)} {σ : L2.St} {H : Hp} {s : Shared} {a : Addr} {y v : V} {u r : Value} {o : Option V} {A : Around} {E : Value → Shared → Prop}
theorem ng_at (I : L2.Inv X pins σ H s) (g : NGet X.w H a y o) : s.TypeIs (.ref a) "dict" ∧ (∀ b, Value.ref a = .ref b → ∃ ob, s.heap.get? b = some ob ∧ ob.dict = none) ∧ (a == sysModules) = false := by
  obtain ⟨xs, d, hr, hk, _⟩ := g
  obtain ⟨_, hd, ys, nd, _⟩ := dn_of I.hok hk hr
  refine ⟨nd.typeIs, fun b e => ?_, hd⟩
  cases e
  obtain ⟨ob, _, _, h1, h2, _⟩ := nd
  exact ⟨ob, h1, h2.2.1⟩
theorem ng_get {Q : Option Value → Shared → Prop} (hu : A.units + 8 < cLine) (I : L2.Inv X pins σ H s) (g : NGet X.w H a y o) (ry : RelV y u) (h : ∀ p s', L2.Inv X pins σ H s' → RelO o p → Q p s') : wpAny (model X.prog X.w) A (dictGet a u) Q E s := by
  obtain ⟨xs, d, hr, hk, ky, rfl⟩ := g
  obtain ⟨_, hd, ys, nd, pr, hn, his⟩ := dn_of I.hok hk hr
  exact n_get hu (key_n I.hok ky ry) nd his hn (h _ _ (I.tok _) (rel_val pr _))
/-- d[y], there -/
theorem n_getItem {Q : Value → Shared → Prop} (hu : A.units + 9 < cLine) (I : L2.Inv X pins σ H s) (g : NGet X.w H a y (some v)) (ry : RelV y u) (h : ∀ w' s', L2.Inv X pins σ H s' → RelV v w' → Q w' s') :
    wpAny (model X.prog X.w) A (getItem (.ref a) u) Q E s := by
  obtain ⟨ty, _, _⟩ := ng_at I g
  unfold getItem
  refine wpAny_holding (wpAny_bind (wpAny_sequenceKey ty (by decide) ?_))
  refine wpAny_bind (wpAny_callSpecial?_slot (name := Str.ofString "__getitem__") ty slot_dict_getitem (wpAny_call_entry slot_dict_getitem ty entry_dict_getitem ?_ (args_dict_getitem _ _)))
  show wpAny _ _ (dictGet a u >>= _) _ _ s
  refine wpAny_bind (ng_get (by show A.units + 1 + 8 < cLine; omega) I g ry fun p s' I' rp => ?_)
  obtain ⟨w', rfl, rw'⟩ := RelO.some_of rp
  exact wpAny_pure ⟨w', rfl, wpAny_pure (h w' s' I' rw')⟩
theorem n_contains {Q : Bool → Shared → Prop} (hu : A.units + 10 < cLine) (I : L2.Inv X pins σ H s) (g : NGet X.w H a y o) (ry : RelV y u) (h : ∀ s', L2.Inv X pins σ H s' → Q o.isSome s') :
    wpAny (model X.prog X.w) A (contains (.ref a) u) Q E s := by
  obtain ⟨ty, _, hd⟩ := ng_at I g
  refine wpAny_contains_slot ty PySem.F.slot_dict_contains ?_
  refine call_meetsIn PySem.F.slot_dict_contains ty PySem.F.entry_dict_contains (PySem.F.args_dict_contains_2 _ _) (S := fun A' R s' => A' = A ∧ s' = s ∧ ∀ s2, L2.Inv X pins σ H s2 → R (.ok (.ret (.bool o.isSome))) s2) (fun A' R s' hS => ?_) ⟨rfl, rfl, fun s2 I2 => wpAny_truthy_bool (h s2 I2)⟩
  obtain ⟨rfl, rfl, hq⟩ := hS
  show wpAny _ _ (dictGet a u >>= _) _ _ _
  refine wpAny_bind (ng_get (by show A'.units + 1 + 8 < cLine; omega) I g ry fun p s2 I2 rp => ?_)
  cases p with
  | some z =>
    have e : o.isSome = true := RelO.isS rp
    rw [e] at hq
    exact wpAny_pure (hq s2 I2)
  | none =>
    have e : o.isSome = false := RelO.isS rp
    rw [e] at hq
    exact wpAny_bind (wpAny_pendingKey_other hd (wpAny_pure (hq s2 I2)))
end
end Ssb

namespace Ssb
open PySem PySem.Spec PyProof.Rows L2
section
variable {X : Cx} {pins : List (Addr × Obj)} {σ : L2.St} {H : Hp} {s : Shared} {a : Addr} {y v : V} {u r : Value} {o : Option V} {A : Around} {E : Value → Shared → Prop}
theorem n_get2 {dv : V} {dw : Value} {Q : Value → Shared → Prop} (hu : A.units + 10 < cLine) (I : L2.Inv X pins σ H s) (g : NGet X.w H a y o) (ry : RelV y u) (rd : RelV dv dw) (h : ∀ z s', L2.Inv X pins σ H s' → RelV (o.getD dv) z → Q z s') :
    wpAny (model X.prog X.w) A (call (.builtin "dict.get") [.ref a, u, dw]) Q E s := by
  obtain ⟨ty, _, hd⟩ := ng_at I g
  refine call_meetsIn PySem.F.slot_dict_get ty PySem.F.entry_dict_get (PySem.F.args_dict_get_3 _ _ _) (S := fun A' R s' => A' = A ∧ s' = s ∧ ∀ z s2, L2.Inv X pins σ H s2 → RelV (o.getD dv) z → R (.ok (.ret z)) s2) (.of_wp fun A' R s' hS => ?_) ⟨rfl, rfl, fun z s2 I2 r2 => h z s2 I2 r2⟩
  obtain ⟨rfl, rfl, hq⟩ := hS
  show wpAny _ _ (dictGet a u >>= _) _ _ _
  refine wpAny_bind (ng_get (by show A'.units + 1 + 8 < cLine; omega) I g ry fun p s2 I2 rp => ?_)
  cases p with
  | some z =>
    obtain ⟨v, rfl, rv⟩ : ∃ v, o = some v ∧ RelV v z := by
      cases o with
      | none => exact rp.elim
      | some v => exact ⟨v, rfl, rp⟩
    exact wpAny_pure ⟨z, rfl, hq z s2 I2 rv⟩
  | none =>
    obtain rfl : o = none := by
      cases o with
      | none => rfl
      | some v => exact rp.elim
    refine wpAny_bind (wpAny_missed_other hd (wpAny_pure ⟨dw, rfl, hq dw s2 I2 rd⟩))
theorem xk_keys {xs : List XEnt} {ys : List NEnt} (h : Paired RelE xs ys) : (xs.map xk).map (·.1) = ys.map (·.1) := by
  induction h with
  | nil => rfl
  | cons h0 t ih => rw [List.map_cons, List.map_cons, List.map_cons, ih, ← h0.1]; rfl
theorem n_setItem {xs : List XEnt} {d : D} {Q : Unit → Shared → Prop} (hu : A.units + 10 < cLine) (I : L2.Inv X pins σ H s) (e : H a = some (DkO X.w a xs)) (hk : Keys H xs) (ky : KeyV H d y) (hl : xs.length < sizeLine) (ry : RelV y u) (rv : RelV v r)
    (h : ∀ s', L2.Inv X pins σ (upd H a (DkO X.w a (putX xs d y v))) s' → Q () s') : wpAny (model X.prog X.w) A (setItem (.ref a) u r) Q E s := by
  obtain ⟨h1, h2, ys, nd, pr, hn, his⟩ := dn_of I.hok hk (.inl e)
  have ty := nd.typeIs
  unfold setItem
  refine wpAny_holding (wpAny_bind (wpAny_sequenceKey ty (by decide) ?_))
  refine wpAny_bind (wpAny_callSpecial?_slot (name := Str.ofString "__setitem__") ty slot_dict_setitem (wpAny_call_entry slot_dict_setitem ty entry_dict_setitem ?_ (args_dict_setitem _ _ _)))
  show wpAny _ _ (Builtin.Dict.notOrdered "__setitem__" ⟨[.ref a, u, r], []⟩ >>= _) _ _ s
  refine wpAny_bind (wpAny_notOrdered_dict ty ?_)
  show wpAny _ _ (dictSet a u r >>= _) _ _ s
  have hz : ys.length ≤ sizeLine := by rw [← Paired.length pr]; exact h1
  refine wpAny_bind (n_set (by show A.units + 1 + 8 < cLine; omega) (key_n I.hok ky ry) nd his hn hz fun h' nd' sb => wpAny_pure ⟨.none, rfl, wpAny_pure (h _ ?_)⟩)
  have he : ∃ q, h'.get? a = some q := let ⟨q, _, _, hq, _⟩ := nd'; ⟨q, hq⟩
  refine d_write I (by rw [e]; exact True.intro) sb he (dn_new ?_ h2 nd' (rel_put pr ry rv) ?_)
  · have := putX_len (xs := xs) (d := d) (a := y) (v := v); omega
  · rw [putX_xk]
    refine putN_nd ?_
    rw [xk_keys pr]; exact hn
end
/-- {}, to be such a dict -/
def tNNew (w : World) : TE := fun _ H Q => ∀ p, H p = none → Q (.ref p) (upd H p (DkO w p []))
def tNGet (w : World) (td ty : TE) : TE := fun σ H Q => td σ H fun x H1 => ty σ H1 fun y H2 => ∃ a v, x = .ref a ∧ NGet w H2 a y (some v) ∧ Q v H2
def sNPut (w : World) (td ty tv : TE) : TS := fun D σ H => tv σ H fun v H1 => td σ H1 fun x H2 => ty σ H2 fun y H3 => ∃ a xs d, x = .ref a ∧ H3 a = some (DkO w a xs) ∧ Keys H3 xs ∧ KeyV H3 d y ∧ xs.length < sizeLine ∧ D.nx σ (upd H3 a (DkO w a (putX xs d y v)))
def rNIn (w : World) : R2 := fun y x H Q => ∃ a o, x = .ref a ∧ NGet w H a y o ∧ Q (.bl o.isSome) H
def rNGet2 (w : World) : V → List V → Hp → VK → Prop := fun x xs H Q => ∃ a y d o, x = .ref a ∧ xs = [y, d] ∧ NGet w H a y o ∧ Q (o.getD d) H
section
variable {X : Cx} {o i e value : Expr} {pos pos' tpos : Pos} {td ty tv : TE}
theorem pe_nnew : PE X (.Dict [] [] pos) (tNNew X.w) := ⟨fun pins s σ H Q I h =>
  wpAny_Dict_empty ⟨.ref s.heap.objs.size, _, I.laid (a := s.heap.objs.size) (o := DkO X.w s.heap.objs.size []) (t' := s.toks) (fun _ _ q => Heap.get?_push_of_some _ q) (Nat.le_refl _) (dn_new (Nat.zero_le _) (beq_eq_false_iff_ne.mpr (Ne.symm (Nat.ne_of_lt I.big))) (ys := []) ⟨_, #[], 0, Heap.get?_push_size _ rfl, ⟨rfl, rfl, rfl⟩, rfl, rfl⟩ .nil List.nodup_nil), rfl, h _ (I.hok.fresh (Nat.le_refl _))⟩⟩
theorem pe_nget (hu : X.A.units + 20 < cLine) (ho : PE X o td) (hi : PE X i ty) (hs : NoSl i) : PE X (.Subscript o i pos) (tNGet X.w td ty) := by
  refine ⟨fun pins s σ H Q I h => ?_⟩
  refine subD_of PySem.F.slot_dict_getitem.lookup hs (thn (ho.run pins s σ H _ I h) fun u s1 ⟨x, H1, I1, rx, q1⟩ => thn (hi.run pins s1 σ H1 _ I1 q1) fun iv s2 ⟨y, H2, I2, ry, a, v, ex, g, q2⟩ => ?_)
  cases ex
  obtain rfl : u = Value.ref a := rx
  exact ⟨(ng_at I2 g).1, n_getItem (by omega) I2 g ry fun w' s3 I3 rw' => ⟨v, H2, I3, rw', q2⟩⟩
theorem op_nin (hu : X.A.units + 20 < cLine) : OpR X (compareOp .In) (rNIn X.w) := by
  intro pins s σ H y x u xv Q I ry rx ⟨a, o, ex, g, q⟩
  cases ex
  obtain rfl : xv = Value.ref a := rx
  show wpAny _ _ (do return Value.bool (← contains (.ref a) u)) _ _ s
  exact wpAny_bind (n_contains (by omega) I g ry fun s' I' => wpAny_pure ⟨.bl o.isSome, H, I', rfl, q⟩)
theorem mt_nget2 (hu : X.A.units + 20 < cLine) : MtR X "dict.get" (rNGet2 X.w) := by
  intro pins s σ H x xs xv us Q I rx rxs ⟨a, y, d, o, ex, exs, g, q⟩
  cases ex
  cases exs
  obtain rfl : xv = Value.ref a := rx
  cases rxs with
  | cons r1 rxs =>
  cases rxs with
  | cons r2 rxs =>
  cases rxs
  exact n_get2 (by omega) I g r1 r2 fun z s' I' rz => ⟨_, H, I', rz, q⟩
theorem ps_nput (hu : X.A.units + 20 < cLine) (ho : PE X o td) (hi : PE X i ty) (hv : PE X value tv) (hs : swapsWith value (some (.Subscript o i pos')) pos.line X.env = pure false) :
    PS X (.Assign [.Subscript o i pos'] value pos) (sNPut X.w td ty tv) := by
  refine ⟨fun pins s σ H D I h => ?_⟩
  refine wpAny_Assign_Subscript (thn (hv.run pins s σ H _ I h) fun r s1 ⟨v, H1, I1, rv, q1⟩ => thn (ho.run pins s1 σ H1 _ I1 q1) fun u s2 ⟨x, H2, I2, rx, q2⟩ => thn (hi.run pins s2 σ H2 _ I2 q2) fun iv s3 ⟨y, H3, I3, ry, a, xs, d, ex, ea, hk, ky, hl, q3⟩ => ?_) hs
  cases ex
  obtain rfl : u = Value.ref a := rx
  exact n_setItem (by omega) I3 ea hk ky hl ry rv fun s4 I4 => ⟨σ, _, I4, q3⟩
end
theorem callI_with {M : Model} {A : Around} {E : Value → Shared → Prop} {s : Shared} {x C : Addr} {ox : Obj} {env : Env} {pos : Pos} {e : Expr} {rest : List Expr} {Q : Value → Shared → Prop} (hd : ox.data = .plain)
    (h : wpAny M A (spliced (backTo pos (starEach (e :: rest) env))) (fun vs s₁ => (∃ od, PySem.W.InstAt s₁.heap x ox C od) ∧ wpAny M A (call (.ref x) vs) Q E s₁) E s)
    (he : starEach (e :: rest) env = (false, eval e env) :: starEach rest env) (hpl : (backTo pos (starEach rest env)).any (·.1) = false) :
    wpAny M A (callWith pos (.ref x) [] (backTo pos (starEach (e :: rest) env)) []) Q E s := by
  rw [he] at h ⊢
  have pl : (((false, eval e env) :: backTo pos (starEach rest env)).any (·.1) || ([] : List (Option Str × Sem Value)).any (·.1.isNone)) = false := by
    show ((false || (backTo pos (starEach rest env)).any (·.1)) || false) = false
    rw [hpl]; rfl
  have hE : wpAny M A (evalArgs (.ref x) true (backTo pos ((false, eval e env) :: starEach rest env)) []) (fun a s₁ => (∃ od, PySem.W.InstAt s₁.heap x ox C od) ∧ wpAny M A (call (.ref x) ([] ++ a.pos) a.kw) Q E s₁) E s := PySem.Calls.evalArgs_plain h
  unfold callWith
  refine wpAny_bind (wpAny_holding (wpAny_mono hE (fun a s1 hh => wpAny_bind (wpAny_standAt ?_)) fun _ _ z => z))
  obtain ⟨⟨od, J⟩, hq⟩ := hh
  have L := PySem.W.kco_keeper (M := M) J hd
  simp only [pl]
  refine wpAny_bind (L.here ?_)
  dsimp only
  refine wpAny_bind (wpAny_mono (wpAny_operateT hq) (fun r s2 hr => ?_) fun _ _ z => z)
  exact wpAny_bind (wpAny_holding (wpAny_point (wpAny_pure hr)))
/-- a local that holds an instance is called: its class's __call__ -/
def tCallI (i : Nat) (C : Addr) (sp : Sp) (t : TA) : TE := fun σ H Q => ∃ a dx fs, σ[i]? = some (some (.ref a)) ∧ t σ H fun vs H1 => H1 a = some (.ins C dx fs) ∧ sp (.ref a :: vs) H1 Q E0
section
variable {X : Cx} {k i : Nat} {C f : Addr} {fd : FuncData} {ps : List Str} {sp : Sp} {x : Str} {p pos : Pos} {e : Expr} {es : List Expr} {t : TA}
theorem pe_callI (F : FnOk X.prog X.w X.K X.mg X.base CX0 k f fd ps sp) (hr : Room k X.A) (hN : X.N[i]? = some x) (hv : Vis X.env.scope x) (hm : PySem.W.findIn X.K (.ref C) "__call__" = some (some (.ref f))) (hf : PySem.W.isFn X.K (.ref f) = true) (hg : PySem.W.fnIn X.K f = true)
    (hb : Binds X.K fd ps []) (ha : PA X (e :: es) t) (hdb : (x == ("__debug__" : Str)) = false := by decide) (hcd : (x == ("__classdict__" : Str)) = false := by decide)
    (he : starEach (e :: es) X.env = (false, eval e X.env) :: starEach es X.env := by rfl) (hpl : (backTo pos (starEach es X.env)).any (·.1) = false := by rfl) : PE X (.Call (.Name x p) (e :: es) [] pos) (tCallI i C sp t) := by
  refine ⟨fun pins s σ H Q I h => ?_⟩
  obtain ⟨a, dx, fs, hs, ht⟩ := h
  refine wpAny_Call_Name_kw (thn ((pe_var (pos := p) hN hv hdb hcd).run pins s σ H (fun v H1 => v = .ref a ∧ H1 = H) I ⟨.ref a, hs, rfl, rfl⟩) fun u s1 ⟨v, H1, I1, r1, q1⟩ => ?_)
  obtain ⟨rfl, rfl⟩ := q1
  cases r1
  refine callI_with (C := C) (ox := PySem.W.instObj C dx) rfl (thn (ha.run pos pins s1 σ _ _ I1 ht) fun us s2 hh => ?_) he hpl
  obtain ⟨vs, H2, I2, r, ea, q⟩ := hh
  obtain ⟨mA, O, _⟩ := ins_get I2.hok ea
  obtain ⟨od, J, _⟩ := O.look
  refine ⟨⟨_, J⟩, ?_⟩
  have r2 : Vals (V.ref a :: vs) (Value.ref a :: us) := .cons rfl r
  have hl : (Value.ref a :: us).length = ps.length := by rw [← r2.length]; exact F.len _ _ _ _ q
  refine wpAny_call (PySem.W.kco_code I2.kIn J rfl hm hf hg (codeAny_mono (F.run X.A X.stack s2 H2 ⟨Value.ref a :: us, []⟩ (Value.ref a :: us) (V.ref a :: vs) Q E0 hr I2.env0 (by have := hb s2 (Value.ref a :: us) I2.kIn (by rw [List.length_append]; exact hl); rw [List.append_nil] at this; exact this) r2 q) fun r s' hq => ?_))
  cases r with
  | error e => exact hq.elim
  | ok fl =>
    cases fl with
    | ret u => exact I2.after hq
    | next => exact False.elim hq
    | brk => exact False.elim hq
    | cont => exact False.elim hq
end
end Ssb

namespace Ssb
open PySem PySem.Spec PyProof.Rows L2
theorem nk_rc {A : Around} {s : Shared} {x : NestedKey} {ys : List NestedKey} {a b : Value} (hx : NKey s.heap x a) (hy : NestedIs s.heap (.tup ys) b) (dy : (NestedKey.tup ys).depth ≤ 8) (hu : A.units + 10 < cLine) : PySem.SeqAt.RcAt A s a b (decide (x = .tup ys)) := by
  cases hy with
  | @tup l' o' vs' n' _ k1 k2 k3 k4 =>
  have hl' : s.heap.IsTuple l' vs' := ⟨_, k1, k2, _, k3⟩
  rcases hx with ⟨hx, dx, np⟩
  cases hx with
  | none => rw [decide_eq_false (fun e => nomatch e)]; exact PySem.SeqAt.RcAt.none_tuple hl' (by omega)
  | bool e => rcases np with h | ⟨_, h⟩ <;> cases h
  | int i t => rcases np with h | ⟨_, h⟩ <;> cases h
  | text z t => rcases np with h | ⟨_, h⟩ <;> cases h
  | @tup l o vs n xs h1 h2 h3 h4 =>
    have hl : s.heap.IsTuple l vs := ⟨_, h1, h2, _, h3⟩
    have n1 : vs.size = xs.length := by simpa using NestedAll.length _ _ h4
    have n2 : vs'.size = ys.length := by simpa using NestedAll.length _ _ k4
    rw [NestedKey.decide_eq]
    show PySem.SeqAt.RcAt A s (.ref l) (.ref l') (NestedKey.beqAll xs ys)
    rw [← beqAll_eq xs ys, ← n1, ← n2]
    refine PySem.SeqAt.RcAt.tuples hl hl' (by omega) fun j j1 j2 => ?_
    have dx : NestedKey.depthAll xs + 1 ≤ 8 := dx
    have := eqAt_keys xs ys A.in1 s vs.toList vs'.toList h4 k4 (by show A.units + 1 + _ < cLine; omega) j (by simpa using j1) (by simpa using j2)
    simpa using this
theorem nk_eq {A : Around} {s : Shared} {x y : NestedKey} {a b : Value} (hx : NKey s.heap x a) (hy : NKey s.heap y b) (hu : A.units + 10 < cLine) : PySem.SeqAt.EqAt A s a b (decide (x = y)) := by
  have d1 := hx.2.1
  have d2 := hy.2.1
  rw [NestedKey.decide_eq]
  exact eqAt_key x y A s _ _ hx.1 hy.1 (by omega)
/-- == of a key (None or a tuple) and a tuple -/
def rEqK : R2 := fun x y H Q => ∃ d l, KeyV H d x ∧ KeyV H (.tup l) y ∧ Q (.bl (decide (nkD d = nkD (.tup l)))) H
/-- a key in a list of keys -/
def rInLK : R2 := fun x y H Q => ∃ d b ds ys, y = .ref b ∧ KeyV H d x ∧ H b = some (.lst ys) ∧ Paired (fun d v => KeyV H d v) ds ys ∧ Q (.bl (ds.any fun e => decide (nkD e = nkD d))) H
section
variable {X : Cx}
theorem op_eqK (hu : X.A.units + 20 < cLine) : OpR X (compareOp .Eq) rEqK := by
  intro pins s σ H x y xv yv Q I rx ry ⟨d, l, kx, ky, q⟩
  have hx := key_n I.hok kx rx
  have hy := key_n I.hok ky ry
  have e : nkD (.tup l) = .tup (nkL l) := by rw [nkD]
  rw [e] at hy q
  exact nk_rc hx hy.1 hy.2.1 (by omega) _ _ _ _ ⟨.bl _, H, I, rfl, q⟩
theorem op_inLK (hu : X.A.units + 20 < cLine) : OpR X (compareOp .In) rInLK := by
  intro pins s σ H x y xv yv Q I rx ry ⟨d, b, ds, ys, ey, kx, hb, pr, q⟩
  cases ey
  obtain rfl : yv = Value.ref b := ry
  obtain ⟨_, its, n, rv, hg⟩ := (show ObjOk X.prog X.w H s.heap b (.lst ys) from I.hok b _ hb)
  have hx := key_n I.hok kx rx
  have key : ∀ {ds : List D} {ys : List V} {its : List Value}, Paired (fun d v => KeyV H d v) ds ys → Vals ys its → ∃ zs : List (D × Value), zs.map (·.1) = ds ∧ zs.map (·.2) = its ∧ ∀ z ∈ zs, NKey s.heap (nkD z.1) z.2 := by
    intro ds
    induction ds with
    | nil => intro ys its p v; cases p; cases v; exact ⟨[], rfl, rfl, fun _ h => nomatch h⟩
    | cons d ds ih =>
      intro ys its p v
      cases p with
      | cons p1 p =>
      cases v with
      | cons v1 v =>
      obtain ⟨zs, h1, h2, h3⟩ := ih p v
      refine ⟨(d, _) :: zs, by rw [List.map_cons, h1], by rw [List.map_cons, h2], fun z hz => ?_⟩
      rcases List.mem_cons.mp hz with rfl | hz
      · exact key_n I.hok p1 v1
      · exact h3 z hz
  obtain ⟨zs, h1, h2, h3⟩ := key pr rv
  -- the key that a value is
  have inj : ∀ z ∈ zs, ∀ z' ∈ zs, z.2 = z'.2 → nkD z.1 = nkD z'.1 := fun z hz z' hz' e => by
    have a1 := (h3 z hz).1
    rw [e] at a1
    exact NestedIs.inj _ _ _ a1 (h3 z' hz').1
  classical
  refine PySem.SeqAt.in_listAt (items := its.toArray) (fun v => decide (∃ z ∈ zs, z.2 = v ∧ nkD z.1 = nkD d)) ⟨_, hg, rfl, n, rfl⟩ (fun v hv => ?_) ⟨.bl _, H, I, rfl, ?_⟩
  · have hv : v ∈ its := by simpa using hv
    rw [← h2] at hv
    obtain ⟨z, hz, rfl⟩ := List.mem_map.mp hv
    have := nk_eq (A := X.A.in1) (s := s) (h3 z hz) hx (by show X.A.units + 1 + 10 < cLine; omega)
    have e : decide (∃ z' ∈ zs, z'.2 = z.2 ∧ nkD z'.1 = nkD d) = decide (nkD z.1 = nkD d) := by
      rw [Bool.eq_iff_iff, decide_eq_true_eq, decide_eq_true_eq]
      exact ⟨fun ⟨z', hz', e1, e2⟩ => (inj z hz z' hz' e1.symm).trans e2, fun e => ⟨z, hz, rfl, e⟩⟩
    rw [e]; exact this
  · have e : its.toArray.any (fun v => decide (∃ z ∈ zs, z.2 = v ∧ nkD z.1 = nkD d)) = ds.any fun e => decide (nkD e = nkD d) := by
      rw [List.any_toArray, ← h1, ← h2, Bool.eq_iff_iff, List.any_eq_true, List.any_eq_true]
      constructor
      · rintro ⟨v, hv, hh⟩
        obtain ⟨z, hz, _, e2⟩ := of_decide_eq_true hh
        exact ⟨z.1, List.mem_map.mpr ⟨z, hz, rfl⟩, decide_eq_true e2⟩
      · rintro ⟨x, hx', hh⟩
        obtain ⟨z, hz, rfl⟩ := List.mem_map.mp hx'
        exact ⟨z.2, List.mem_map.mpr ⟨z, hz, rfl⟩, decide_eq_true ⟨z, hz, rfl, of_decide_eq_true hh⟩⟩
    rw [e]; exact q
end
end Ssb

namespace Ssb
open PySem PySem.Spec PyProof.Rows L2
/-- d.get(k, x) of a dict whose keys are None and tuples -/
def tNGet2 (w : World) (to : TE) (t : TA) : TE := fun σ H Q => to σ H fun x H1 => (∃ a xs, x = .ref a ∧ H1 a = some (DkO w a xs) ∧ Keys H1 xs) ∧ t σ H1 fun xs H2 => rNGet2 w x xs H2 Q
section
variable {X : Cx} {o e : Expr} {es : List Expr} {to : TE} {t : TA} {apos cpos : Pos}
theorem pe_nget2 (hu : X.A.units + 20 < cLine) (ho : PE X o to) (ha : PA X (e :: es) t)
    (hbase : attributeBase o "get" X.env (eval o X.env) = eval o X.env := by rfl)
    (hfew : ((backTo cpos (starEach (e :: es) X.env)).all (fun z => !z.1) && (backToKw cpos (keywordEach [] X.env)).all (fun z => z.1.isSome)
      && decide ((e :: es).length + ([] : List Keyword).length + (if ([] : List Keyword).isEmpty then 0 else 1) < 30)) = true := by rfl)
    (hline : (apos.endLine == cpos.line) = true := by rfl) (hs : starEach (e :: es) X.env = (false, eval e X.env) :: starEach es X.env := by rfl) (hplain : (backTo cpos (starEach es X.env)).any (·.1) = false := by rfl) :
    PE X (.Call (.Attribute o "get" apos) (e :: es) [] cpos) (tNGet2 X.w to t) := by
  refine ⟨fun pins s σ H Q I h => ?_⟩
  refine wpAny_Call_method_late hbase hfew hline rfl (thn (ho.run pins s σ H _ I h) fun v s1 ⟨x, H1, I1, r1, ⟨a, xs, ex, hd, hk⟩, q1⟩ => ?_)
  cases ex
  obtain rfl : v = Value.ref a := r1
  obtain ⟨_, hm, ys, nd, _⟩ := dn_of I1.hok hk (.inl hd)
  refine ⟨"dict", "dict.get", PySem.F.plainAttrs_dict, PySem.F.slot_dict_get, PySem.F.type_dict_get, nd.typeIs, fun b e2 => ?_, ?_⟩
  · cases e2
    obtain ⟨ob, _, _, h1, h2, _⟩ := nd
    exact ⟨ob, h1, h2.2.1⟩
  have hA := ha.run cpos pins s1 σ H1 _ I1 q1
  rw [hs] at hA ⊢
  refine Calls.callWith_builtin ?_ (Calls.evalArgs_plain ?_)
  · show (false || (backTo cpos (starEach es X.env)).any (·.1)) = false
    rw [hplain] <;> rfl
  · exact thn hA fun us s2 ⟨vs, H2, I2, r2, q2⟩ => mt_nget2 hu pins s2 σ H2 (.ref a) vs _ us Q I2 rfl r2 q2
end
/-- all tuples stay -/
def Tk (H H' : Hp) : Prop := ∀ b xs, H b = some (.tup xs) → H' b = some (.tup xs)
theorem Tk.of {H H' : Hp} (e : ∀ b o, H b = some o → H' b = some o) : Tk H H' := fun b xs h => e b _ h
theorem Tk.upd {H : Hp} {q : Addr} {o u : HO} (h : H q = some o) (n : ∀ xs, o ≠ .tup xs) : Tk H (L2.upd H q u) := fun b xs hb => by
  have : b ≠ q := fun e => by rw [e, h] at hb; cases hb; exact n _ rfl
  rw [upd_ne this]; exact hb
theorem Tk.trans {H H1 H2 : Hp} (a : Tk H H1) (b : Tk H1 H2) : Tk H H2 := fun c xs h => b c xs (a c xs h)
/-- keys: only tuples matter -/
theorem rep_tk {H H' : Hp} (e : Tk H H') {S' : Addr → Prop} : ∀ {n k : Nat} {S : Addr → Prop} {d : D} {v : V}, kdD k d → Rep H n S d v → Rep H' n S' d v
  | 0, _, _, _, _, _, h => h.elim
  | n + 1, k, _, .non, _, _, h => h
  | n + 1, k, _, .int _, _, _, h => h
  | n + 1, k, _, .str _, _, _, h => h
  | n + 1, 0, _, .tup _, _, hk, _ => hk.elim
  | n + 1, k + 1, S, .tup l, v, hk, h => by
    obtain ⟨a, xs, ea, ha, hl, p⟩ := h
    refine ⟨a, xs, ea, e _ _ ha, hl, ?_⟩
    clear ha ea hl
    have : ∀ {l : List D} {xs : List V}, (∀ x ∈ l, kdD k x) → Paired (fun d x => Rep H n S d x) l xs → Paired (fun d x => Rep H' n S' d x) l xs := fun {l} => by
      induction l with
      | nil => intro xs _ p; cases p; exact .nil
      | cons d l ih =>
        intro xs hk p
        cases p with
        | cons p1 p => exact .cons (rep_tk e (hk d List.mem_cons_self) p1) (ih (fun x hx => hk x (List.mem_cons_of_mem _ hx)) p)
    exact this hk p
  | n + 1, k, _, .bl _, _, hk, _ => by cases k <;> exact hk.elim
  | n + 1, k, _, .lst _, _, hk, _ => by cases k <;> exact hk.elim
  | n + 1, k, _, .dic _, _, hk, _ => by cases k <;> exact hk.elim
theorem KeyV.tk {H H' : Hp} {d : D} {v : V} (e : Tk H H') (k : KeyV H d v) : KeyV H' d v := let ⟨h1, h2, n, S, r⟩ := k; ⟨h1, h2, n, S, rep_tk e h1 r⟩
theorem Keys.tk {H H' : Hp} {xs : List XEnt} (e : Tk H H') (k : Keys H xs) : Keys H' xs := fun x hx => (k x hx).tk e
theorem kd_le : ∀ {n m : Nat} {d : D}, n ≤ m → kdD n d → kdD m d
  | n, m, .non, _, _ => by cases m <;> trivial
  | n, m, .int _, _, _ => by cases m <;> trivial
  | n, m, .str _, _, _ => by cases m <;> trivial
  | n + 1, m + 1, .tup l, h, k => fun x hx => kd_le (Nat.le_of_succ_le_succ h) (k x hx)
  | 0, _, .tup _, _, k => k.elim
  | n + 1, 0, .tup _, h, _ => absurd h (by omega)
  | n, _, .bl _, _, k => by cases n <;> exact k.elim
  | n, _, .lst _, _, k => by cases n <;> exact k.elim
  | n, _, .dic _, _, k => by cases n <;> exact k.elim
end Ssb

/-! Own errors over Exception whose __init__ keeps one attribute: made, raised. -/
namespace Ssb
open PySem PySem.Spec L2 PyProof.Rows

abbrev exBm : List Value := [.type "Exception", .type "BaseException", .type "object"]
/-- what the written part tells of such a class -/
structure OexE (K : PySem.W.Frag) (C : Addr) : Prop where
  over : PySem.W.excOver K C exBm = true
  made : PySem.W.excInitIn K C exBm "Exception.__new__" = true
  hd : PySem.W.hasDictIn K C = true
  sa : PySem.W.findIn K (.ref C) "__setattr__" = some (some (.builtin "object.__setattr__"))
  exC : PySem.W.subIn K (.ref C) (.type "BaseException") = some true
  tyC : PySem.W.typeIn K (.ref C) = some (.type "type")
  kC : PySem.W.keepIn K (.ref C) = true
section
variable {X : Cx} {pins : List (Addr × Obj)} {σ : L2.St} {H : Hp} {s : Shared} {a C : Addr} {f : Str} {y : V} {u : Value} {Q : Unit → Shared → Prop} {E : Value → Shared → Prop} {A : Around}
/-- the invariant behind the first attribute -/
theorem ost_inv {hp h' : Heap} {g : Array GenState} {d : Drawn} {t t' : Nat} {os : OsState} {dx t1 : Addr} (I : Inv X pins σ H ⟨hp, g, d, t, os⟩) (e : H a = some (exo a C none)) (ry : RelV y u) (dn : hp.objs.size ≤ dx) (dne : dx ≠ a) (k : ∀ b o, b ≠ a → hp.get? b = some o → h'.get? b = some o)
    (hx : h'.get? a = some ({ cls := .ref C, dict := some dx, data := .fields #[.ref t1, .none, .none, .none, .bool false, .none] } : Obj)) (hn : h'.Ns1 dx (fun z => if z = f then some u else none)) :
    H dx = none ∧ Inv X pins σ (upd (upd H dx (exd dx [(f, y)])) a (exo a C (some dx))) ⟨h', g, d, t', os⟩ := by
  have hnd : H dx = none := I.hok.fresh dn
  have old : ∀ b o, hp.get? b = some o → b ≠ dx := fun b o q => Nat.ne_of_lt (Nat.lt_of_lt_of_le (Heap.lt_size q) dn)
  have nota : ∀ b, H b = none → b ≠ a := fun b n z => by rw [z, e] at n; cases n
  refine ⟨hnd, I.un (t' := t') ⟨fun b o q n _ _ => k b o (nota b n) q, fun b o q n _ _ => ⟨o.slots, k b o (nota b n) q⟩, fun b o q n _ => (by rw [upd_ne (nota b n), upd_ne (old b o q)]; exact n), fun b o q _ => ?_,
    fun b xs q => (by rw [upd_ne (at_ne e q exo_tup), upd_ne (ne_of_none q hnd)]; exact q), fun b o v q => (by rw [upd_ne (at_ne e q exo_frz), upd_ne (ne_of_none q hnd)]; exact q), fun b ps q => ⟨#[], (by rw [upd_ne (at_ne e q exo_tbl), upd_ne (ne_of_none q hnd), q]; simp)⟩⟩ fun b o q => ?_⟩
  · by_cases hb : b = a
    · exact ⟨_, hb ▸ hx⟩
    · exact ⟨o, k b o hb q⟩
  · by_cases hb : b = a
    · subst hb; rw [upd_same] at q; cases q; exact exo_ok hx
    rw [upd_ne hb] at q
    by_cases hd : b = dx
    · subst hd; rw [upd_same] at q; cases q; exact exd_ok hn (relO_put (fs := []) ry fun g => True.intro)
    rw [upd_ne hd] at q
    refine (I.hok b o q).stay (fun c v hc z => k c v (hc.elim (fun hc => by rw [hc]; exact hb) fun hc => at_ne e hc exo_own) z) (fun c hc => ?_) (fun c xs hc => ?_)
    · rw [upd_ne (at_ne e hc exo_own), upd_ne (ne_of_none hc hnd)]; exact hc
    · rw [upd_ne (at_ne e hc exo_tup), upd_ne (ne_of_none hc hnd)]; exact hc
/-- self.f = y, the first attribute -/
theorem ost_newE (T : OexE X.K C) (I : Inv X pins σ H s) (e : H a = some (exo a C none)) (hno : PySem.W.findIn X.K (.ref C) f = some none) (ry : RelV y u)
    (h : ∀ dx s', H dx = none → dx ≠ a → Inv X pins σ (upd (upd H dx (exd dx [(f, y)])) a (exo a C (some dx))) s' → Q () s') : wpAny (model X.prog X.w) A (setAttr (.ref a) f u) Q E s := by
  obtain ⟨t1, ho⟩ := exo_at I.hok e
  obtain ⟨hp, g, d, t, os⟩ := s
  obtain ⟨cd, hc, hd'⟩ := PySem.W.any_some T.hd
  have hxs : a ≠ hp.objs.size := Nat.ne_of_lt (Heap.lt_size ho)
  refine PySem.W.set_plain I.kIn (od := none) ⟨ho, rfl, rfl, trivial⟩ T.sa (PySem.W.osa_openX (od := none) PySem.F.store_Exception I.kIn ⟨ho, rfl, rfl, trivial⟩ T.over (r := none) (by unfold PySem.W.takerIn; rw [hno]; rfl) fun b => ?_)
  refine wpAny_bind (wpAny_pure (wpAny_bind (PySem.W.instanceDict_exc (t := t1) (c2 := .none) ho (PySem.W.looks_clsIn I.kIn hc) hd' ?_)))
  refine PySem.HandSPX.store_in_new ?_ fun h' tk' hn' hs => ?_
  · exact ⟨_, #[], _, (Heap.get?_update_ne _ _ _ _ hxs.symm).trans (Heap.get?_push_at rfl rfl), rfl, fun e he => absurd he (by simp), fun _ => rfl⟩
  · have k : ∀ b o, b ≠ a → hp.get? b = some o → h'.get? b = some o := fun b o nb ho' => (hs.2 b (Nat.ne_of_lt (Heap.lt_size ho'))).trans ((Heap.get?_update_ne _ _ _ _ nb).trans (Heap.get?_push_of_some _ ho'))
    have hx : h'.get? a = some ({ cls := .ref C, dict := some hp.objs.size, data := .fields #[.ref t1, .none, .none, .none, .bool false, .none] } : Obj) := (hs.2 a hxs).trans (Heap.get?_update_self _ (Heap.get?_push_of_some _ ho) rfl)
    obtain ⟨n, J⟩ := ost_inv (t' := tk') I e ry (Nat.le_refl _) hxs.symm k hx hn'
    exact h _ _ n hxs.symm J
end
/-! ### readings and rules -/
/-- self.f = e within such an __init__ -/
def tOsE (K : PySem.W.Frag) (f : Str) (to te : TE) : TS := fun D σ H => te σ H fun y H1 => to σ H1 fun x H2 => ∃ a C : Addr, x = .ref a ∧ OexE K C ∧ PySem.W.findIn K (.ref C) f = some none ∧
  H2 a = some (exo a C none) ∧ ∀ dx, H2 dx = none → dx ≠ a → D.nx σ (upd (upd H2 dx (exd dx [(f, y)])) a (exo a C (some dx)))
section
variable {X : Cx} {o e : Expr} {es : List Expr} {to te : TE} {ta : TA} {f : Str} {p p' pos : Pos}
theorem ps_osE (ho : PE X o to) (he : PE X e te) (hs : swapsWith e (some (.Attribute o f p')) pos.line X.env = pure false := by rfl) : PS X (.Assign [.Attribute o f p'] e pos) (tOsE X.K f to te) :=
  ⟨fun pins s σ H D I h => plainObj_wpAny_Assign_Attribute (thn (he.run pins s σ H _ I h) fun v s1 ⟨y, H1, I1, r1, q1⟩ => thn (ho.run pins s1 σ H1 _ I1 q1) fun u s2 ⟨x, H2, I2, r2, a, C, ex, T, hno, ea, q⟩ => by
    subst ex
    cases (show u = Value.ref a from r2)
    exact ost_newE T I2 ea hno r1 fun dx s' n ne J => ⟨σ, _, J, q dx n ne⟩) hs⟩
/-- C(e, ..) as what is raised; its __init__ keeps sp -/
theorem pmk_oexE {x : Str} {C fI : Addr} {k j : Nat} {fd : FuncData} {ps : List Str} {sp : Sp} (T : OexE X.K C) (G : Mt X.prog X.w X.K X.mg X.base C "__init__" k ps sp fI fd) (tI : PySem.W.typeIn X.K (.ref fI) = some (.type "function")) (hr : Room j X.A) (hm : X.mg x = some (.ref C)) (ha : PA X (e :: es) ta) (hj : k + 1 ≤ j := by first | decide | omega)
    (hg : Gl X x := by rfl) (hdb : (x == ("__debug__" : Str)) = false := by decide) (he : starEach (e :: es) X.env = (false, eval e X.env) :: starEach es X.env := by rfl) (hpl : (backTo pos (starEach es X.env)).any (·.1) = false := by rfl) : PMk X (.Call (.Name x p) (e :: es) [] pos) (tMkO C sp [] ta) := by
  intro pins s σ H Q I h
  refine wpAny_Call_Name_kw (ld_glob I hg hm ?_ hdb)
  refine PySem.W.callWith_K (h₀ := X.base) I.ok.mod.kin T.kC (thn (ha.run pos pins s σ H _ I h) fun us s1 ⟨vs, H1, I1, r1, hz, q1⟩ => ⟨I1.kIn, ?_⟩) he hpl
  show wpAny _ _ (call (.ref C) us) _ _ _
  obtain ⟨hp, g, dr, tk, os⟩ := s1
  obtain ⟨nm, N, qn, bs, bm, hdct, sn, sub, ab, col, dd, k0, k1, k2, k3, k5, hC, hT⟩ := PySem.W.excInit_of I1.kIn T.made
  have hn : H1 (hp.objs.size + 1) = none := I1.hok.fresh (Nat.le_succ _)
  have hq := q1 (hp.objs.size + 1) hn
  rw [List.append_nil] at hq
  have kk : ∀ b o, hp.get? b = some o → ((hp.push (PySem.W.kdv_tup us)).push (PySem.HandSPX.excO C hp.objs.size)).get? b = some o := fun b o z => Heap.get?_push_of_some _ (Heap.get?_push_of_some _ z)
  have hget : ((hp.push (PySem.W.kdv_tup us)).push (PySem.HandSPX.excO C hp.objs.size)).get? (hp.objs.size + 1) = some (PySem.HandSPX.excO C hp.objs.size) := by heap_get
  have I2 := I1.laid (t' := tk) (o := exo (hp.objs.size + 1) C none) kk (Nat.le_succ _) (exo_ok hget)
  have r2 : Vals (V.ref (hp.objs.size + 1) :: vs) (Value.ref (hp.objs.size + 1) :: us) := .cons rfl r1
  have hl : (Value.ref (hp.objs.size + 1) :: us ++ []).length = ps.length := by rw [List.append_nil, ← r2.length, G.ok.len _ _ _ _ hq]
  have hb := G.bd ⟨(hp.push (PySem.W.kdv_tup us)).push (PySem.HandSPX.excO C hp.objs.size), g, dr, tk, os⟩ (Value.ref (hp.objs.size + 1) :: us) I2.kIn hl
  rw [List.append_nil] at hb
  have hus : us.length ≤ sizeLine := by rw [← Paired.length r1, sizeLine_eq]; omega
  refine wpAny_call (PySem.HandSPX.call_own PySem.F.excBase_Exception hT hC (PySem.W.looks_findIn I1.kIn G.mt.at_) (fun self => PySem.W.bind_fn I1.kIn self tI) hus
    (codeAny_mono (G.ok.run _ X.stack _ _ ⟨Value.ref (hp.objs.size + 1) :: us, []⟩ (Value.ref (hp.objs.size + 1) :: us) _ _ E0 ((hr.mono hj).make C us []) (I2.env0.make C us []) hb r2 hq) fun r s' hq' => ?_))
  cases r with
  | error er => exact hq'.elim
  | ok fl =>
    cases fl with
    | ret u =>
      obtain ⟨v, H2, os2, bare2, un2, hok2, rv, ev, d, fs, ea, ed, hd1, q2⟩ := hq'
      subst ev
      obtain ⟨h2, g2, d2, t2, os'⟩ := s'
      exact ⟨rv, mk_end (raises_own T.exC T.tyC) I1 (Nat.le_succ _) kk un2 hok2 os2 bare2 ea ed hd1 q2⟩
    | next => exact hq'.elim
    | brk => exact hq'.elim
    | cont => exact hq'.elim
end
end Ssb

/-! try .. except C as e, where the caught error stays known behind the suite. -/
namespace Ssb
open PySem PySem.Spec L2 PyProof.Rows
/-- at a: an error that was caught, of this class, with this dict -/
def exk (a : Addr) (cls : Value) (d : Option Addr) : HO := .ext fun h => ∃ oe vs, h.get? a = some oe ∧ Zc cls d oe ∧ oe.data = .fields vs
theorem exk_ok {P : Program} {w : World} {H : Hp} {h : Heap} {a : Addr} {cls : Value} {d : Option Addr} {oe : Obj} {vs : Array Value} (e : h.get? a = some oe) (z : Zc cls d oe) (f : oe.data = .fields vs) : ObjOk P w H h a (exk a cls d) :=
  ⟨⟨oe, vs, e, z, f⟩, ⟨oe, e⟩, fun _ _ ⟨o2, v2, e2, z2, f2⟩ k => ⟨o2, v2, k _ e2, z2, f2⟩⟩
theorem exk_at {P : Program} {w : World} {H : Hp} {h : Heap} {a : Addr} {cls : Value} {d : Option Addr} (hok : HOk P w H h) (e : H a = some (exk a cls d)) : ∃ oe vs, h.get? a = some oe ∧ Zc cls d oe ∧ oe.data = .fields vs := by
  have x : ObjOk P w H h a (.ext fun h => ∃ oe vs, h.get? a = some oe ∧ Zc cls d oe ∧ oe.data = .fields vs) := hok a _ e
  exact x.1
section
variable {X : Cx} {pins : List (Addr × Obj)} {σ : L2.St} {H : Hp} {s : Shared}
theorem adopt {a : Addr} {oe : Obj} {vs : Array Value} {cls : Value} {d : Option Addr} (I : Inv X ((a, oe) :: pins) σ H s) (hd : oe.data = .fields vs) (hz : Zc cls d oe) (n0 : ∀ b o, X.s_0.heap.get? b = some o → b ∉ X.ex → b ≠ a) (np : ∀ p ∈ X.pn ++ pins, p.1 ≠ a) : Inv X pins σ (upd H a (exk a cls d)) s := by
  obtain ⟨ge, na, nL, nF, nC⟩ := I.pin (a, oe) (List.mem_append_right _ List.mem_cons_self)
  have keep : ∀ {b : Addr} {o : HO}, H b = some o → (upd H a (exk a cls d)) b = some o := fun {b o} hb => by
    rw [upd_ne (fun z => by rw [z, na] at hb; cases hb)]; exact hb
  have B := I.base
  refine ⟨I.ok, I.os, I.bare, ⟨B.keep, B.slot, fun b o q n x => (by rw [upd_ne (n0 b o q x)]; exact B.free b o q n x), B.there, fun b xs q => keep (B.tups b xs q), fun b o u q => keep (B.frzs b o u q), fun b ps q => (B.tbls b ps q).imp fun _ h => keep h⟩, I.loc, I.cell, ?_, fun x c hc => ?_, fun p hp => ?_, fun b o q => ?_, I.len⟩
  · rw [upd_ne (Ne.symm nL)]; exact I.free
  · obtain ⟨v, oc, e1, e2⟩ := I.cell x c hc
    have : c ≠ a := fun z => by
      rw [z] at e1
      have e3 := Option.some.inj (ge.symm.trans e1)
      have e3 : oe = oc := e3
      rw [← e3] at e2
      exact nC _ (by simpa using e2)
    rw [upd_ne this]; exact I.freeC x c hc
  · obtain ⟨e1, e2, e3⟩ := I.pin p (by
      rcases List.mem_append.mp hp with h | h
      · exact List.mem_append_left _ h
      · exact List.mem_append_right _ (List.mem_cons_of_mem _ h))
    exact ⟨e1, by rw [upd_ne (np p hp)]; exact e2, e3⟩
  · by_cases hb : b = a
    · subst hb; rw [upd_same] at q; cases q; exact exk_ok ge hz hd
    · rw [upd_ne hb] at q
      exact (I.hok b o q).stay (fun _ _ _ z => z) (fun _ hc => keep hc) fun _ _ hc => keep hc
end
/-- what the clause asks of an error of the body: as wAs, but behind the suite a is known -/
def wKeep (K : PySem.W.Frag) (c : Value) (i : Nat) (ts : Addr → Value → Option Addr → TS) (Wout : WX) (D : Ends) : WX := fun cls d σ H => ∃ b, PySem.W.exmOne K cls c = some b ∧
  (b = true → ∀ a, H a = none → ts a cls d { nx := fun σ' H' => D.nx (σ'.set i none) (upd H' a (exk a cls d)), rt := fun v H' => D.rt v (upd H' a (exk a cls d)), bk := fun σ' H' => D.bk (σ'.set i none) (upd H' a (exk a cls d)), ct := fun σ' H' => D.ct (σ'.set i none) (upd H' a (exk a cls d)) } (σ.set i (some (.ref a))) H) ∧ (b = false → Wout cls d σ H)
section
variable {X : Cx} {x n : Str} {c : Value} {i : Nat} {body suite : List Stmt} {b₀ : Stmt} {np pos pos' : Pos} {tb : WX → TS} {ts : Addr → Value → Option Addr → TS} {Wout : WX}
theorem ps_try_keep (hs : X.stack = X.env :: X.outer) (hf : X.env.frame = some X.env.locals) (hN : X.N.Nodup) (hi : X.N[i]? = some n) (hln : X.env.kindOf n = some .local) (hc : Names X x c) (tk : Takes X Wout)
    (hb : ∀ (W : WX) (pn : List (Addr × Obj)) (xe : Value → Shared → Prop), Takes (X.tr pn xe) W → PassesOwn (model X.prog X.w) X.A X.env xe → PSs (X.tr pn xe) body (tb W))
    (hsu : ∀ (a : Addr) (oe : Obj) (cls : Value) (d : Option Addr) (pn : List (Addr × Obj)), Zc cls d oe → (∃ vs, oe.data = .fields vs) → PSs (X.suite a ((a, oe) :: pn)) (b₀ :: suite) (ts a cls d)) :
    PS X (.Try body [.ExceptHandler (some (.Name x np)) (some n) (b₀ :: suite) pos'] [] [] pos) (fun D σ H => tb (wKeep X.K c i ts Wout D) D σ H) := by
  refine ⟨fun pins s σ H D I h => ?_⟩
  have ok := I.ok
  have fr0 : X.A.frames = some (X.env :: X.outer) := by rw [ok.frames, hs]
  refine wpAny_Try_except (wpAny_mono ((hb (wKeep X.K c i ts Wout D) (X.pn ++ pins) (fun e s₁ => wpAny (model X.prog X.w) X.A (noteFrame e X.env) (fun _ s₂ => wpAny (model X.prog X.w) X.A (setFlight e none) (fun _ s₃ => wpAny (model X.prog X.w) X.A (handleBy e X.env [.ExceptHandler (some (.Name x np)) (some n) (b₀ :: suite) pos']) (SP X pins D) X.xe s₃) X.xe s₂) X.xe s₁) (fun u s' xx => ?_) PassesOwn.looking).run [] s σ H D (I.toTry _) h) (fun f s1 hsp => ?_) (fun e s1 he => he))
  · obtain ⟨a, B, sI, pins', σ1, HH, cls, d, rfl, J0, nb, up, sky, na, os, ag, b, hb1, hyes, hno⟩ := xx
    have J : Inv X pins σ1 HH sI := J0.ofTry ok
    rw [show (X.tr (X.pn ++ pins) _).stack = X.env :: X.outer from hs] at sky
    refine Sky.land Zc.steady fr0 hf sky fun h3 fl3 up3 => ?_
    have J3 : Inv X pins σ1 HH { s' with heap := h3 } := J.landed nb fl3.1 (up.trans up3) os ag
    obtain ⟨oe3, vs3, he3, hz3, hd3⟩ := fl3.there
    have nfr : a ∉ frs (X.env :: X.outer) := fun hm => by
      obtain ⟨_, o', e', hnf⟩ := fl3.2.2.1.mem hm
      rw [he3] at e'; cases e'; exact hnf _ hd3
    have nL : a ≠ X.env.locals := fun z => nfr (List.mem_filterMap.mpr ⟨X.env, List.mem_cons_self, (by rw [hf, z])⟩)
    have nF : a ∉ X.fs := fun hm => (List.mem_filterMap.mp hm).elim fun e he => nfr (List.mem_filterMap.mpr ⟨e, List.mem_cons_of_mem _ he.1, he.2⟩)
    -- the error is younger than all that stood
    have young : sI.heap.get? a = none := by
      cases hg : sI.heap.get? a with
      | none => rfl
      | some o =>
        have := nb a o hg (by rw [show (X.tr (X.pn ++ pins) _).stack = X.env :: X.outer from hs]; exact nfr)
        rw [fl3.2.1] at this; cases this
    have n0 : ∀ b o, X.s_0.heap.get? b = some o → b ∉ X.ex → b ≠ a := fun b o q hx z => by
      obtain ⟨o', h'⟩ := J.base.there b o q hx
      rw [z, young] at h'; cases h'
    have np0 : ∀ p ∈ X.pn ++ pins, p.1 ≠ a := fun p hp z => by
      have := (J.pin p hp).1
      rw [z, young] at this; cases this
    have S3 := J3.suite he3 hd3 na nL nF
    have LM := PySem.W.exm_one (M := model X.prog X.w) J3.kIn (show PySem.W.Looks (model X.prog X.w) h3 (typeOf (.ref a)) cls from fun A Q E s k q => wpAny_typeOf_ref (k _ _ he3) (by rw [hz3.1]; exact q)) hb1
    refine wpAny_handleBy_cons (codeAny_handlers_test ?_) (by intro q; cases q)
    have test : ∀ {Q : Value → Shared → Prop} {E : Value → Shared → Prop}, Q c { s' with heap := h3 } → wpAny (model X.prog X.w) (X.A.mark (some (.ref a))) (eval (.Name x np) X.env) Q E { s' with heap := h3 } := fun {Q E} q => by
      obtain ⟨hg, hdb, hm | ⟨hm, hv, hnn⟩⟩ := hc
      · exact ld_glob S3 hg hm q hdb
      · exact ld_blt S3 hg hm hv q hnn hdb
    refine test (LM.here ?_)
    cases b with
    | true =>
      refine codeAny_handlers_suite_as (HandSPX.lands_againZ fl3 fun h4 fl4 up4 => ?_)
      have J4 : Inv X pins σ1 HH { s' with heap := h4 } := J.landed nb fl4.1 ((up.trans up3).trans up4) os ag
      obtain ⟨oe4, vs4, he4, hz4, hd4⟩ := fl4.there
      refine store_ok (X := X.suite a ((a, oe4) :: (X.pn ++ pins))) (v := .ref a) (J4.suite he4 hd4 na nL nF) hN hi (.inl hln) rfl (fun s5 S5 => ?_) (.inr hln)
      refine wpAny_mono ((hsu a oe4 cls d (X.pn ++ pins) hz4 ⟨_, hd4⟩).run [] s5 _ HH _ S5 (hyes rfl a na)) (fun f s6 hsp => ?_) (fun _ _ z => False.elim z)
      have fin : ∀ {σ6 : L2.St} {H6 : Hp} {Q : Shared → Prop}, Inv (X.suite a ((a, oe4) :: (X.pn ++ pins))) [] σ6 H6 s6 → (∀ s7, Inv X pins (σ6.set i none) (upd H6 a (exk a cls d)) s7 → Q s7) →
          wpAny (model X.prog X.w) X.A (do bindName X.env n .none; unbindBehindTheSuite X.env n pos') (fun _ s7 => Q s7) X.xe s6 := fun {σ6 H6 Q} S6 hq => by
        have I6 : Inv X ((a, oe4) :: pins) σ6 H6 s6 := ⟨ok, S6.os, S6.bare, S6.base, S6.loc, S6.cell, S6.free, S6.freeC, fun p hp => S6.pin p (by
          rw [List.append_nil]
          rcases List.mem_append.mp hp with h | h
          · exact List.mem_cons_of_mem _ (List.mem_append_left _ h)
          · rcases List.mem_cons.mp h with h | h
            · rw [h]; exact List.mem_cons_self
            · exact List.mem_cons_of_mem _ (List.mem_append_right _ h)), S6.hok, S6.len⟩
        exact gone_ok I6 hN hi hln fun s7 J7 => hq s7 (adopt J7 hd4 hz4 n0 np0)
      cases f with
      | ret u => obtain ⟨v6, σ6, H6, S6, r6, q6⟩ := hsp; exact fin S6 fun s7 J7 => ⟨_, _, _, J7, r6, q6⟩
      | next => obtain ⟨σ6, H6, S6, q6⟩ := hsp; exact fin S6 fun s7 J7 => ⟨_, _, J7, q6⟩
      | brk => obtain ⟨σ6, H6, S6, q6⟩ := hsp; exact fin S6 fun s7 J7 => ⟨_, _, J7, q6⟩
      | cont => obtain ⟨σ6, H6, S6, q6⟩ := hsp; exact fin S6 fun s7 J7 => ⟨_, _, J7, q6⟩
    | false =>
      show wpAny _ X.A (handleBy (.ref a) X.env []) _ _ _
      obtain ⟨k1, k2, k3, oe, vs, T, oT, ts', he, hz, hd, h1, hr⟩ := id fl3
      refine wpAny_handleBy_nil ?_
      unfold PySem.passOn
      refine wpAny_bind (wpAny_field he hd h1 ?_)
      rw [if_neg (show ¬ ((Value.ref T == Value.none) = true) by simp)]
      have go : wpAny (model X.prog X.w) X.A (setFlight (.ref a) X.env.frame) (fun _ s4 => wpAny (model X.prog X.w) X.A (throw (.ref a) : Sem Flow) (SP X pins D) X.xe s4) X.xe { s' with heap := h3 } := by
        rw [hf]
        exact HandSPX.setFlight_upZ fl3 fun h4 hh4 up4 => wpAny_throw (tk _ _ ⟨a, B, sI, pins, σ1, HH, cls, d, rfl, J, nb, (up.trans up3).trans up4, .inr (.inr (by rw [hs]; exact hh4)), na, os, ag, hno rfl⟩)
      first
        | exact wpAny_bind go
        | exact wpAny_bind (wpAny_pure (wpAny_bind go))
  · cases f with
    | ret u => obtain ⟨v, σ1, HH, J, r, q⟩ := hsp; exact ⟨v, σ1, HH, J.ofTry ok, r, q⟩
    | next => obtain ⟨σ1, HH, J, q⟩ := hsp; exact wpAny_execs_nil ⟨σ1, HH, J.ofTry ok, q⟩
    | brk => obtain ⟨σ1, HH, J, q⟩ := hsp; exact ⟨σ1, HH, J.ofTry ok, q⟩
    | cont => obtain ⟨σ1, HH, J, q⟩ := hsp; exact ⟨σ1, HH, J.ofTry ok, q⟩
end
end Ssb

/-! A caught error that is kept: its attribute, isinstance of it. -/
namespace Ssb
open PySem PySem.Spec L2 PyProof.Rows
/-- what the class says, so that isinstance asks its instances rightly -/
structure ExK (K : PySem.W.Frag) (C : Addr) : Prop where
  xf : XfC K C
  cl : (PySem.W.clsIn K C).isSome = true
  ha : PySem.W.findIn K (.ref C) "__class__" = some (some (.builtin "object.__class__"))
  hn : PySem.W.specialIn K (.builtin "object.__class__") "__get__" = some (some (.builtin "getset_descriptor.__get__"))
  ht : PySem.W.takesIn K (.builtin "object.__class__") = some true
  hm : PySem.W.mroIn K C (.type "object") = some true
theorem exk_cl {K : PySem.W.Frag} {C : Addr} (h : PySem.W.hasDictIn K C = true) : (PySem.W.clsIn K C).isSome = true := by
  obtain ⟨cd, hc, _⟩ := PySem.W.any_some h
  rw [hc]; rfl
section
variable {X : Cx} {pins : List (Addr × Obj)} {σ : L2.St} {H : Hp} {s : Shared}
/-- the kept error as an instance of its class -/
theorem kept_inst {a C d : Addr} {fs : List (Str × V)} (I : Inv X pins σ H s) (e : H a = some (exk a (.ref C) (some d))) (ed : H d = some (.xd fs)) : ∃ (oe od : Obj) (mA : Str → Option Value), PySem.W.InstAt s.heap a oe C (some od) ∧ (∀ f, PySem.W.lookIn f od = some (mA f)) ∧ ∀ f, RelO (fs.lookup f) (mA f) := by
  obtain ⟨oe, vs, he, hz, hf⟩ := exk_at I.hok e
  obtain ⟨mA, hns, hr⟩ := (show ObjOk X.prog X.w H s.heap d (.xd fs) from I.hok d _ ed)
  obtain ⟨od, ho, hl⟩ := lookIn_ns hns
  exact ⟨oe, od, mA, ⟨he, hz.1, (by unfold PySem.W.notCls; rw [hf] <;> rfl), (by rw [hz.2]; exact ho)⟩, hl, hr⟩
/-- e.f, e a kept error -/
def tFldE (C : Addr) (f : Str) (te : TE) : TE := fun σ H Q => te σ H fun x H1 => ∃ (a d : Addr) (fs : List (Str × V)) (v : V), x = .ref a ∧ H1 a = some (exk a (.ref C) (some d)) ∧ H1 d = some (.xd fs) ∧ fs.lookup f = some v ∧ Q v H1
theorem pe_fldE {C : Addr} {e : Expr} {te : TE} {pos : Pos} {n : Str} (T : XfC X.K C) (hno : PySem.W.findIn X.K (.ref C) n = some none) (he : PE X e te) (hb : attributeBase e n X.env (eval e X.env) = eval e X.env := by rfl) : PE X (.Attribute e n pos) (tFldE C n te) := by
  refine ⟨fun pins s σ H Q I h => attr_of hb (thn (he.run pins s σ H _ I h) fun u s1 ⟨x, H1, I1, rx, a, d, fs, v, ex, ea, ed, l, q⟩ => ?_)⟩
  subst ex
  cases (show u = Value.ref a from rx)
  obtain ⟨oe, od, mA, J, hl, hr⟩ := kept_inst I1 ea ed
  obtain ⟨u, hu, ru⟩ := RelO.some_of (v := v) (o := mA n) (by rw [← l]; exact hr n)
  exact HandSPX.exc_get I1.kIn J T.ga T.gg T.exC (PySem.W.findObj_own T.hdC hno rfl (by rw [hl, hu])) (handed_of ru) ⟨v, H1, I1.tok _, ru, q⟩
/-- isinstance(e, c), e a kept error -/
def rIsiE (K : PySem.W.Frag) : List V → Hp → VK → Prop := fun xs H Q => ∃ (a C d : Addr) (fs : List (Str × V)) (c : V) (u : Value) (b : Bool), xs = [.ref a, c] ∧ ClsV c u ∧ ExK K C ∧ H a = some (exk a (.ref C) (some d)) ∧ H d = some (.xd fs) ∧ PySem.W.kitOne K (.ref C) u = some b ∧ Q (.bl b) H
theorem call_isiE : CallR X (.builtin "isinstance") (rIsiE X.K) := by
  intro pins s σ H xs us Q I r h
  obtain ⟨a, C, d, fs, c, u, b, rfl, k, T, ea, ed, e, q⟩ := h
  obtain ⟨u1, u2, rfl, r1, r2⟩ := vals2 r
  cases k.eq r2
  cases (show u1 = Value.ref a from r1)
  obtain ⟨oe, od, mA, J, hl, hr⟩ := kept_inst I ea ed
  exact PySem.W.kia_one (PySem.W.kitx_exc (od := some od) T.cl T.xf.ga T.xf.gg T.xf.exC T.ha T.hn T.ht T.hm) I.kIn J e (fun z => nomatch z) fun tk => ⟨.bl b, H, I.tok tk, rfl, q⟩
end
end Ssb

/-! Defs and methods that may raise, called where what is raised is asked for at the caller's slots. -/
namespace Ssb
open PySem PySem.Spec L2 PyProof.Rows
structure FnX (P : Program) (w : World) (K : PySem.W.Frag) (mg : Str → Option Value) (base : Heap) (nm : Str) (k : Nat) (ps : List Str) (sp : Sp) (f : Addr) (fd : FuncData) : Prop where
  ok : FnOk P w K mg base (L2.CX P w) k f fd ps sp
  at_ : mg nm = some (.ref f)
  kp : PySem.W.keepIn K (.ref f) = true
  bd : Binds K fd ps []
structure MtX (P : Program) (w : World) (K : PySem.W.Frag) (mg : Str → Option Value) (base : Heap) (C : Addr) (nm : Str) (k : Nat) (ps : List Str) (sp : Sp) (f : Addr) (fd : FuncData) : Prop where
  ok : FnOk P w K mg base (L2.CX P w) k f fd ps sp
  mt : Meth K C nm f
  bd : Binds K fd ps []
section
variable {X : Cx} {W : WX} {nm : Str} {k j : Nat} {ps : List Str} {sp : Sp} {f : Addr} {fd : FuncData} {p pos apos : Pos} {e o : Expr} {es : List Expr} {ta : TE} {t : TA} {C : Addr} {pl : Sem Bool}
theorem passes_at (tk : Takes X W) (σ : L2.St) : PassesAt (L2.CX X.prog X.w) X σ (fun cls d H => W cls d σ H) := fun pins H s e s' I c => tk _ _ (XE.of_call I (fun _ _ _ h => h) c)
/-- f(e, ..) -/
theorem pclX (G : FnX X.prog X.w X.K X.mg X.base nm k ps sp f fd) (tk : Takes X W) (hr : Room j X.A) (ha : PA X (e :: es) t) (hj : k ≤ j := by first | decide | omega) (hg : Gl X nm := by rfl) (hdb : (nm == ("__debug__" : Str)) = false := by decide)
    (he : starEach (e :: es) X.env = (false, eval e X.env) :: starEach es X.env := by rfl) (hpl : (backTo pos (starEach es X.env)).any (·.1) = false := by rfl) : PE X (.Call (.Name nm p) (e :: es) [] pos) (tCallSD sp [] (fun σ cls d H => W cls d σ H) t) :=
  pe_callSD G.ok (hr.mono hj) hg G.at_ G.kp G.bd .nil (passes_at tk) ha hdb he hpl
/-- the reading of o.m(e, ..) -/
def tMethS (C : Addr) (m : Str) (sp : Sp) (W : WX) (ta : TE) (t : TA) : TE := fun σ H Q => ta σ H fun x H1 => ∃ a dx fs, x = .ref a ∧ H1 a = some (.ins C dx fs) ∧ fs.lookup m = none ∧ t σ H1 fun vs H2 => sp (x :: vs) H2 Q fun cls d H' => W cls d σ H'
theorem pmtX (ho : PE X o ta) (c : Cls X.K C) (G : MtX X.prog X.w X.K X.mg X.base C nm k ps sp f fd) (tk : Takes X W) (hr : Room j X.A) (ha : PA X (e :: es) t) (hj : k ≤ j := by first | decide | omega)
    (he : starEach (e :: es) X.env = (false, eval e X.env) :: starEach es X.env := by rfl) (hpl : (backTo pos (starEach es X.env)).any (·.1) = false := by rfl)
    (ht : eval (.Call (.Attribute o nm apos) (e :: es) [] pos) X.env = (do
      let ov ← eval o X.env
      standAt apos.atName
      let (f, first) ← holding [ov] (getMethod ov nm pl)
      callWith pos f first (backTo pos (starEach (e :: es) X.env)) (backToKw pos (keywordEach [] X.env))) := by rfl) : PE X (.Call (.Attribute o nm apos) (e :: es) [] pos) (tMethS C nm sp W ta t) := by
  refine ⟨fun pins s σ H Q I h => PySem.W.methodCall_KW (pl := pl) (thn (ho.run pins s σ H _ I h) fun u s1 ⟨x, H1, I1, rx, a, dx, fs, ex, ea, l, q⟩ => ?_) ht⟩
  subst ex
  cases (show u = Value.ref a from rx)
  refine getmeth_ok I1 ea c G.mt l (PySem.W.callWith_K (first := [.ref a]) (h₀ := X.base) I.ok.mod.kin G.mt.kp (thn (ha.run pos pins s1 σ H1 _ I1 q) fun us s2 ⟨vs, H2, I2, r, q2⟩ => ⟨I2.kIn, ?_⟩) he hpl)
  exact run_fnSD (E := fun σ cls d H => W cls d σ H) (dvs := []) (us := .ref a :: us) (vs := .ref a :: vs) G.ok (hr.mono hj) G.bd .nil (passes_at tk σ) I2 (.cons rfl r) (by rw [List.append_nil]; exact q2)
end
end Ssb

/-! list(reversed(a list)) as one expression. -/
namespace Ssb
open PySem PySem.Spec PyProof.Rows L2 RT
section
variable {pr : Program} {wd : World} {Ar : Around} {Er : Value → Shared → Prop} {st : Shared}
/-- a fresh list taking what the walker over l, from its end, hands out -/
theorem ext_rev {R : Result → Shared → Prop} {it l S : Addr} {vs : Array Value} (hh : Ar.handled = none) (hit : st.heap.IsRevIter it l ((vs.size : Int) - 1)) (hl : st.heap.IsList l vs) (n1 : l ≠ it) (n2 : S ≠ it) (n3 : S ≠ l) (hn : vs.size ≤ sizeLine)
    (res : Value) (c₀ : Nat) (hS : st.heap.get? S = some { cls := .type "list", data := .seq #[] c₀ })
    (k : ∀ (h' : Heap) (tk : Nat) (acc : Array Value) (c' : Nat), (∀ b o, b ≠ S → b ≠ it → st.heap.get? b = some o → h'.get? b = some o) → h'.get? S = some { cls := .type "list", dict := none, data := .seq acc c', slots := #[] } →
      ItemsOf (fun i v => vs[vs.size - 1 - i]? = some v) acc vs.size → R (.ok (.ret res)) { st with heap := h', toks := tk }) :
    wpAny (model pr wd) Ar.in1 (Builtin.List.listExtendWith (.ref S) (.ref it) res) (fun fin z => match fin with | .done f => R (.ok f) z | .again c' => c'.quiet = true ∧ codeAny (model pr wd) Ar c' R z) (fun e z => R (.error e) z) st := by
  have W := (Walks.listRev (prog := pr) (w := wd) (A := Ar.in1) hh it l n1 vs).toS
  have out : S ∉ [it, l] := by simp [n2, n3]
  have ht : st.TypeIs (.ref it) "list_reverseiterator" := hit.typeIs
  have ns : Builtin.List.listSameRef (.ref S) (.ref it) = false := by simp [Builtin.List.listSameRef, n2]
  unfold Builtin.List.listExtendWith
  refine wpAny_bind (wpAny_typeOf ht ?_)
  rw [if_neg (by rw [ns]; decide)]
  refine wpAny_bind (wpAny_pyIter_revIter hit (wpAny_bind (wpAny_holding ?_)))
  unfold Builtin.List.listLengthHint
  refine wpAny_bind (wpAny_specialOf ht nolen_lri ?_)
  show wpAny _ _ (specialOf (.ref it) (Str.ofString "__length_hint__") >>= _) _ _ _
  refine wpAny_bind (wpAny_specialOf ht hint_lri ?_)
  generalize hid : ("list_reverseiterator.__length_hint__" : String) = hintName
  wp_delta
  rw [show splitId hintName = some ("list_reverseiterator", "__length_hint__") from by rw [← hid]; decide +kernel]
  subst hid
  refine wpAny_bind (wpAny_isInstance (b := true) ht (by rw [isSubtype_type]; kernel_rfl) (wpAny_pure ?_))
  rw [if_neg (by decide)]
  have e0 : (vs.size : Int) - 1 = (vs.size : Int) - 1 - ((0 : Nat) : Int) := by omega
  rw [e0] at hit
  refine wpAny_pure ⟨plainId_quiet F.plain_extend_loop _, codeAny_extend_loopS W hn S out res vs.size 0 _ _ _ rfl (Nat.zero_le _) ⟨Nat.zero_le _, hit, hl⟩ hS (ItemsOf.nil _) fun z acc c' mv hz hi => ?_⟩
  rw [Moved.eq_with mv]
  exact k z.heap z.toks acc c' (fun b o b1 b2 e => mv.heap b o (by simp [b1, b2]) e) hz hi
theorem list_init_rev {R : Result → Shared → Prop} {it l S : Addr} {vs : Array Value} (hh : Ar.handled = none) (hit : st.heap.IsRevIter it l ((vs.size : Int) - 1)) (hl : st.heap.IsList l vs) (n1 : l ≠ it) (n2 : S ≠ it) (n3 : S ≠ l) (hn : vs.size ≤ sizeLine)
    (hS : st.heap.get? S = some { cls := .type "list", data := .seq #[] })
    (k : ∀ (h' : Heap) (tk : Nat) (acc : Array Value) (c' : Nat), (∀ b o, b ≠ S → b ≠ it → st.heap.get? b = some o → h'.get? b = some o) → h'.get? S = some { cls := .type "list", dict := none, data := .seq acc c', slots := #[] } →
      ItemsOf (fun i v => vs[vs.size - 1 - i]? = some v) acc vs.size → R (.ok (.ret .none)) { st with heap := h', toks := tk }) :
    wpAny (model pr wd) Ar.in1 (Builtin.«list.__init__» ⟨[.ref S, .ref it], []⟩) (fun fin z => match fin with | .done f => R (.ok f) z | .again c' => c'.quiet = true ∧ codeAny (model pr wd) Ar c' R z) (fun e z => R (.error e) z) st := by
  show wpAny _ _ (Builtin.List.listItems (.ref S) >>= fun old => Builtin.List.listUpdate (.ref S) (fun _ => #[]) >>= fun _ => letGo old.toList.reverse >>= fun _ => Builtin.List.listExtendWith (.ref S) (.ref it) .none) _ _ st
  refine wpAny_bind ?_
  unfold Builtin.List.listItems
  refine wpAny_bind (wpAny_seqItems hS rfl (wpAny_pure (wpAny_bind ?_)))
  show wpAny _ _ (updateSeq S fun _ => #[]) _ _ _
  have kept : ∀ b o, b ≠ S → st.heap.get? b = some o → (st.heap.update S (Obj.mapSeq fun _ => (#[] : Array Value))).get? b = some o := fun b o hb e => (Heap.get?_update_other _ _ (Ne.symm hb)).trans e
  refine wpAny_updateSeq hS rfl (wpAny_bind (wpAny_letGo ?_))
  exact ext_rev hh (hit.at fun o e => kept it o (Ne.symm n2) e) (hl.at fun o e => kept l o (Ne.symm n3) e) n1 n2 n3 hn .none _ (Heap.get?_update_self (Obj.mapSeq fun _ => (#[] : Array Value)) hS rfl) fun h' tk acc c' q => k h' tk acc c' fun b o b1 b2 e => q b o b1 b2 (kept b o b1 e)
theorem call_list_rev {Q : Value → Shared → Prop} {it l : Addr} {vs : Array Value} (hh : Ar.handled = none) (hit : st.heap.IsRevIter it l ((vs.size : Int) - 1)) (hl : st.heap.IsList l vs) (n1 : l ≠ it) (hn : vs.size ≤ sizeLine)
    (k : ∀ (h' : Heap) (tk : Nat) (acc : Array Value) (c' : Nat), (∀ b o, b ≠ it → st.heap.get? b = some o → h'.get? b = some o) → h'.get? st.heap.objs.size = some { cls := .type "list", dict := none, data := .seq acc c', slots := #[] } →
      ItemsOf (fun i v => vs[vs.size - 1 - i]? = some v) acc vs.size → Q (.ref st.heap.objs.size) { st with heap := h', toks := tk }) : wpAny (model pr wd) Ar (call (.type "list") [.ref it]) Q Er st := by
  obtain ⟨oi, hoi, _⟩ := id hit
  obtain ⟨ol, hol, _⟩ := id hl
  refine callType_codes (Q₁ := fun u z => u = .ref st.heap.objs.size ∧ z = { st with heap := st.heap.push { cls := .type "list", data := .seq #[] } }) F.called_list (F.typeCall_list_1 _) F.entry_list_init (code_list_new _ ⟨rfl, rfl⟩) ?_
  rintro u z ⟨rfl, rfl⟩
  have hS : (st.heap.push { cls := .type "list", data := .seq #[] }).get? st.heap.objs.size = some { cls := .type "list", data := .seq #[] } := Heap.get?_push_size _ rfl
  refine ⟨⟨_, hS, rfl⟩, F.args_list_init_2 _ _, list_init_rev (Ar := Ar.in1) (it := it) (l := l) (vs := vs) hh (hit.at fun o e => Heap.get?_push_of_some _ e) (hl.push _) n1 (Nat.ne_of_gt (Heap.lt_size hoi)) (Nat.ne_of_gt (Heap.lt_size hol)) hn hS fun h' tk acc c' q hz hi => ⟨rfl, ?_⟩⟩
  exact k h' tk acc c' (fun b o hb e => q b o (Nat.ne_of_lt (Heap.lt_size e)) hb (Heap.get?_push_of_some _ e)) hz hi
end
/-- list(reversed(e)), e a list -/
def tLstRev (K : PySem.W.Frag) (te : TE) : TE := fun σ H Q => te σ H fun x H1 => ∃ (a : Addr) (xs : List V), x = .ref a ∧ SqL K H1 a xs ∧ ∀ p, H1 p = none → Q (.ref p) (upd H1 p (.lst xs.reverse))
section
variable {X : Cx}
theorem pe_lstRev {e : Expr} {te : TE} {q1 q2 c1 c2 : Pos} (hc : X.calm = true) (g1 : Gl X "list") (m1 : X.mg "list" = none) (g2 : Gl X "reversed") (m2 : X.mg "reversed" = none) (he : PE X e te)
    (h1 : starEach [e] X.env = (false, eval e X.env) :: starEach [] X.env := by rfl)
    (h2 : starEach [.Call (.Name "reversed" q2) [e] [] c2] X.env = (false, eval (.Call (.Name "reversed" q2) [e] [] c2) X.env) :: starEach [] X.env := by rfl) :
    PE X (.Call (.Name "list" q1) [.Call (.Name "reversed" q2) [e] [] c2] [] c1) (tLstRev X.K te) := by
  refine ⟨fun pins s σ H Q I h => ?_⟩
  refine Call_ (ld_blt I g1 m1 boot_list (PyProof.Rows.callWith_type1 (args_cons ?_ h2) h2 rfl))
  refine Call_ (ld_blt I g2 m2 PyProof.Rows.boot_reversed (PyProof.Rows.callWith_type1 (args_cons ?_ h1) h1 rfl))
  refine thn (he.run pins s σ H _ I h) fun u s1 ⟨v, H1, I1, r1, a, xs, ev, hq, q⟩ => args_nil ?_
  subst ev
  obtain rfl : u = Value.ref a := r1
  obtain ⟨its, rv, pl, hz⟩ := I1.list hq
  have il := pl.isList
  obtain ⟨ol, hol, _⟩ := id il
  refine call_reversed_list il (args_nil ?_)
  have I2 : Inv X pins σ H1 { s1 with heap := s1.heap.push (revObj a ((its.toArray.size : Int) - 1)) } := I1.kept (t' := s1.toks) fun b o e => Heap.get?_push_of_some _ e
  obtain ⟨f0, f1, f2, f3, f4, f5⟩ := I1.fpOk (H' := H1) (b := s1.heap.objs.size) (Nat.le_refl _) (I1.hok.fresh (Nat.le_refl _))
  have small : its.toArray.size ≤ sizeLine := by rw [List.size_toArray, ← rv.length]; exact hz
  refine call_list_rev (st := { s1 with heap := s1.heap.push (revObj a ((its.toArray.size : Int) - 1)) }) (it := s1.heap.objs.size) (l := a) (vs := its.toArray) (I1.ok.hd hc) ⟨_, Heap.get?_push_size _ rfl, rfl, rfl⟩ (il.push _) (Nat.ne_of_lt (Heap.lt_size hol)) small fun h' tk acc c' hk hz' hi => ?_
  have all : ∀ b o, s1.heap.get? b = some o → h'.get? b = some o := fun b o e => hk b o (Nat.ne_of_lt (Heap.lt_size e)) (Heap.get?_push_of_some _ e)
  have lo : s1.heap.objs.size ≤ (s1.heap.push (revObj a ((its.toArray.size : Int) - 1))).objs.size := by
    show s1.heap.objs.size ≤ (s1.heap.objs.push _).size
    rw [Array.size_push]; omega
  exact ⟨.ref _, upd H1 _ (.lst xs.reverse), I1.laid (t' := tk) all lo (show ObjOk X.prog X.w _ _ _ (.lst xs.reverse) from ⟨by rw [List.length_reverse]; exact hz, acc.toList, c', vals_rev rv hi, by rw [Array.toArray_toList]; exact hz'⟩), rfl, q _ (I1.hok.fresh lo)⟩
end
end Ssb

/-! f"{i:x}" of an int. -/
namespace Ssb
open PySem PySem.Spec PyProof.Rows Builtin Float
/-- an int in hex signs -/
def hexT (a : Int) : Str := ⟨((if a < 0 then [45] else []) ++ (Nat.toDigits 16 a.natAbs).map Char.toNat).toArray⟩
def fX : FormatSpec := { fill := 32, align := 62, type := some 120 }
theorem fX_ok : parseFormatSpec ("x" : Str).cps.toList "int" 62 = .ok fX := by kernel_rfl
section
variable {prog : Program} {w : World} {A : Around} {E : Value → Shared → Prop} {s : Shared}
theorem hexT_len (a : Int) : (hexT a).length ≤ 1 + (Nat.toDigits 16 a.natAbs).length := by
  show (((if a < 0 then [45] else []) ++ (Nat.toDigits 16 a.natAbs).map Char.toNat).toArray).size ≤ _
  rw [List.size_toArray, List.length_append, List.length_map]
  split <;> simp
theorem hex_field {f : FormatSpec} (hw : f.width = none) (hgr : f.grouping = none) (hsg : f.sign = none) (hfi : f.fill = 32) (hli : f.align = 62) (neg : Bool) (ds : List Nat) : intField' f neg [] ds [] 4 = ⟨((if neg = true then [45] else []) ++ ds).toArray⟩ := by
  have e : (if ds.isEmpty = true then ([] : List Nat) else List.replicate ((0 : Int).toNat - ds.length) 48 ++ ds) = ds := by
    cases ds with
    | nil => rfl
    | cons d ds => simp
  unfold intField'
  simp only [hw, hgr, hsg, hfi, hli]
  rw [if_neg (show ¬ ((32 : Nat) == 48 && (62 : Nat) == 61) = true by decide), e, if_neg (show ¬ ((62 : Nat) == 60) = true by decide), if_neg (show ¬ ((62 : Nat) == 94) = true by decide), if_neg (show ¬ ((62 : Nat) == 61) = true by decide)]
  have hp : ∀ k m : Nat, (-1 - ((k : Int) + (([] : List Nat).length : Int) + (([] : List Nat).length : Int)) - (m : Int)).toNat = 0 := fun k m => by
    rw [Int.toNat_eq_zero]
    simp only [List.length_nil]
    omega
  simp only [hp]
  cases neg <;> simp
theorem formatField_hex {a : Int} {t : Tok} {Q : Value → Shared → Prop} (hd : (Nat.toDigits 16 a.natAbs).length ≤ 100000) (h : Q (.str (hexT a) (s.toks + 1)) { s with toks := s.toks + 1 + 1 }) : wpAny (model prog w) A (formatField (.int a t) "x") Q E s := by
  have hlen : (hexT a).length ≤ sizeLine := by
    have := hexT_len a
    rw [sizeLine_eq]; omega
  have hne : (("x" : Str).length == 0) = false := by kernel_rfl
  have hasc : ((("x" : Str).cps.toList.drop 1).any (· ≥ 128) || (("x" : Str).cps.getD 0 0 ≥ 128 && !([60, 62, 61, 94] : List Nat).contains (("x" : Str).cps.getD 1 0))) = false := by kernel_rfl
  have hp := fX_ok
  show wpAny _ _ (holding [.int a t] (pyFormat (.int a t) ("x" : Str))) Q E s
  generalize hx : ("x" : Str) = spec at hne hasc hp ⊢
  have hsz : spec.length ≤ sizeLine := by rw [← hx]; decide
  refine wpAny_holding ?_
  unfold pyFormat
  refine wpAny_bind (wpAny_mkStr ?_ hsz)
  refine wpAny_bind (m := callSpecial? (.int a t) (Str.ofString "__format__") [.str spec s.toks]) (wpAny_callSpecial?_slot (name := Str.ofString "__format__") (typeIs_int _ a t) slot_int_format ?_)
  refine wpAny_call (codeAny_call_builtin slot_int_format.plain entry_int_format (slot_int_format.check _ _ _ _ _ _ _ _ (typeIs_int _ a t) (args_int_format _ _) ?_))
  unfold Builtin.«int.__format__»
  simp only [selfAndOne, noKeywords, Int.intOfSelf, asInt?, asStr?, List.isEmpty_nil, if_true, pure_bind, bind_pure, bind_assoc, hne, hasc, Bool.false_eq_true, if_false,
    show (Value.str spec s.toks == Value.none) = false from rfl]
  refine wpAny_bind (wpAny_typeNameOf (T := "str") (typeIs_str _ _ _) (by decide) fun _ => ?_)
  first | refine wpAny_bind (wpAny_typeNameOfCut_int ?_) | refine wpAny_bind (wpAny_typeNameOf_int ?_)
  simp only [hp]
  have hty : ∀ d, fX.type.getD d = 120 := fun _ => rfl
  have hpr : fX.precision = none := rfl
  have hz : fX.noNeg0 = false := rfl
  have hal : fX.alt = false := rfl
  have hw : fX.width = none := rfl
  have hgr : fX.grouping = none := rfl
  have hsg : fX.sign = none := rfl
  have hfi : fX.fill = 32 := rfl
  have hli : fX.align = 62 := rfl
  clear hp
  generalize fX = f at hty hpr hz hal hw hgr hsg hfi hli ⊢
  simp only [hty]
  rw [if_pos (by decide)]
  show wpAny _ _ (if _ then _ else _) _ _ _
  rw [if_neg (by simp [hpr])]
  show wpAny _ _ (if _ then _ else _) _ _ _
  rw [if_neg (by simp [hz])]
  show wpAny _ _ (if _ then _ else _) _ _ _
  rw [if_neg (by decide)]
  show wpAny _ _ (if _ then _ else _) _ _ _
  rw [if_neg (by decide)]
  show wpAny _ _ (if _ then _ else _) _ _ _
  rw [if_neg (by simp [hw])]
  show wpAny _ _ (retStr _) _ _ _
  unfold retStr
  have ez : intField' f (decide (a < 0)) [] ((Nat.toDigits 16 a.natAbs).map Char.toNat) [] 4 = hexT a := by
    rw [hex_field hw hgr hsg hfi hli]
    unfold hexT
    by_cases c : a < 0
    · rw [if_pos (decide_eq_true c), if_pos c]
    · rw [if_neg (by rw [decide_eq_false c]; exact Bool.false_ne_true), if_neg c]
  have hl2 : (intField' f (decide (a < 0)) [] ((Nat.toDigits 16 a.natAbs).map fun c => c.toNat) [] 4).length ≤ sizeLine := by
    have := hlen
    rw [← ez] at this
    exact this
  have hq2 : Q (.str (intField' f (decide (a < 0)) [] ((Nat.toDigits 16 a.natAbs).map fun c => c.toNat) [] 4) (s.toks + 1)) { s with toks := s.toks + 1 + 1 } := by
    have := h
    rw [← ez] at this
    exact this
  clear h hlen ez
  refine wpAny_bind (wpAny_mkStr (wpAny_pure ?_) ?hs2)
  case hs2 =>
    simp only [hal, Bool.false_eq_true, if_false, show ((120 : Nat) == 88) = false by decide, show ((16 : Nat) == 10) = false by decide]
    conv => lhs; arg 1; whnf
    simp only [intField', hgr, hsg] at hl2 ⊢
    exact hl2
  dsimp only
  refine wpAny_bind (wpAny_isInstance (typeIs_str _ _ _) isSubtype_str_str (wpAny_pure ?_))
  simp only [hal, Bool.false_eq_true, if_false, show ((120 : Nat) == 88) = false by decide, show ((16 : Nat) == 10) = false by decide]
  conv => arg 1; arg 1; whnf
  simp only [intField', hgr, hsg] at hq2 ⊢
  exact hq2
end
end Ssb

/-! list.index with a start; a slice assigned; a field in hex. -/
namespace PySem
namespace SeqAt
open AutoSeq1 (wpAny_loadPart')
open MeetsSeq MeetsSeq2 MeetsSeq3 SeqRoads2
theorem list_indexFrom (l : Addr) (items : Array Value) (n : Nat) (dd : Option Addr) (sl : Array (Option Value)) (x : Value) (e : Value → Bool) (a : Nat) (ta : Tok) (j : Nat) (hj : j < items.size) (haj : a ≤ j) (hsmall : (j : Int) < 2 ^ 63 - 1)
    (hit : e items[j] = true) (hno : ∀ m (hm : m < items.size), a ≤ m → m < j → e items[m] = false) :
    Meets (Builtin.«list.index» ⟨[.ref l, x, .int a ta], []⟩)
      (fun A R s => s.heap.get? l = some { cls := .type "list", dict := dd, data := .seq items n, slots := sl } ∧ (∀ y, y ∈ items → EqAt A.in1 s y x (e y)) ∧ R (.ok (.ret (.int j s.toks))) { s with toks := s.toks + 1 }) := by
  intro prog w A R s h
  obtain ⟨hp, g, d, tk, os⟩ := s; obtain ⟨hl, he, h⟩ := h
  wp_walk using wpAny_loadPart' hl
  have a1 : ((fun i : Int => if i < 0 then max 0 (i + (items.size : Int)) else i) ((some (a : Int)).getD 0)) = (a : Int) := by
    show (if (a : Int) < 0 then max 0 ((a : Int) + (items.size : Int)) else (a : Int)) = (a : Int)
    rw [if_neg (by omega)]
  have a2 : ((fun i : Int => if i < 0 then max 0 (i + (items.size : Int)) else i) ((none : Option Int).getD (2 ^ 63 - 1))) = 2 ^ 63 - 1 := by simp
  rw [a1, a2]
  exact ⟨plainId_quiet plain_index_loop _, codeAny_builtin entry_index_loop (by
    rw [Around.under_plainId plain_index_loop _]
    exact index_loopAt l items n dd sl x e (2 ^ 63 - 1) j hj hsmall hit _ a rfl haj hno prog w A R _ ⟨hl, he, h⟩)⟩
end SeqAt
end PySem
namespace Ssb
open PySem PySem.Spec PyProof.Rows L2
section
variable {X : Cx}
/-- xs.index(y, a) -/
def rIndexF (K : PySem.W.Frag) : V → List V → Hp → VK → Prop := fun x xs H Q => ∃ (l : Addr) (ys : List V) (y : V) (a j : Nat) (z : V), x = V.ref l ∧ xs = [y, .int a] ∧ SqL K H l ys ∧ flatV y = true ∧ ys.all flatV = true ∧ a ≤ j ∧ ys[j]? = some z ∧ eqV z y = true ∧
  (∀ (m : Nat) (z' : V), a ≤ m → m < j → ys[m]? = some z' → eqV z' y = false) ∧ Q (.int (j : Nat)) H
theorem mt_indexF : MtR X "list.index" (rIndexF X.K) := by
  intro pins s σ H x xs v us Q I rx rxs h
  obtain ⟨l, ys, y, a, j, z, rfl, rfl, hs, fy, fys, haj, hz, hzj, hno, q⟩ := h
  cases rx
  cases rxs with
  | cons ry rt =>
    rename_i uy ut
    cases rt with
    | cons ra rt2 =>
    rename_i ua ut2
    cases rt2
    obtain ⟨ta, rfl⟩ := ra
    obtain ⟨its, rv, ⟨⟨cls, dd, data, sl⟩, n, ho, hc, hdn, hd⟩, hlen⟩ := I.list hs
    simp only at hc hd
    subst hc hd
    obtain ⟨u, hu, ru⟩ := rv.get hz
    obtain ⟨hjl, hje⟩ := List.getElem?_eq_some_iff.mp hu
    have hvl := rv.length
    have hj : j < its.toArray.size := by simpa using hjl
    have hsl := sizeLine_eq
    refine call_meets PySem.F.slot_list_index ⟨_, ho, rfl⟩ PySem.F.entry_list_index (PySem.F.args_list_index_3 _ _ _)
      (SeqAt.list_indexFrom l its.toArray n dd sl uy (eqU y) a ta j hj haj (by omega) ?_ ?_) ⟨ho, fun u' hu' => mem_eqAt ry fy rv fys u' (by simpa using hu'), ?_⟩
    · have e1 : its.toArray[j] = u := by simpa using hje
      rw [e1, eqU_of ru (flat_at fys hz)]
      exact hzj
    · intro m hm ham hmj
      have hml : m < its.length := by simpa using hm
      have hmy : m < ys.length := by omega
      have hy' : ys[m]? = some ys[m] := List.getElem?_eq_getElem hmy
      obtain ⟨u2, hu2, ru2⟩ := rv.get hy'
      obtain ⟨_, hme⟩ := List.getElem?_eq_some_iff.mp hu2
      have e1 : its.toArray[m] = u2 := by simpa using hme
      rw [e1, eqU_of ru2 (flat_at fys hy')]
      exact hno m _ ham hmj hy'
    · exact ⟨.int (j : Nat), H, I.tok _, ⟨_, rfl⟩, q⟩
/-- {x:x} of an int -/
def tHex (te : TE) : TE := fun σ H Q => te σ H fun x H1 => ∃ i : Int, x = .int i ∧ (Nat.toDigits 16 i.natAbs).length ≤ 100000 ∧ Q (.str (hexT i)) H1
theorem pe_hex {e : Expr} {te : TE} {pos p2 : Pos} {p1 : Nat} {p3 : Pos} (he : PE X e te) : PE X (.FormattedValue e (-1) (some (.JoinedStr [.Constant (.str "x") p1 p3] p2)) pos) (tHex te) := by
  refine ⟨fun pins s σ H Q I h => ?_⟩
  refine wpAny_FormattedValue_spec (thn (he.run pins s σ H _ I h) fun v s1 ⟨x, H1, I1, r1, q1⟩ => ?_)
  obtain ⟨i, rfl, hz, q⟩ := q1
  obtain ⟨t, rfl⟩ := r1
  have p0 : PE X (.JoinedStr [.Constant (.str "x") p1 p3] p2) (tC (.str "x")) := pe_joined1 pe_str
  refine thn (p0.run pins s1 σ H1 (fun v H2 => v = .str "x" ∧ H2 = H1) I1 ⟨rfl, rfl⟩) fun v2 s2 ⟨x2, H2, I2, r2, q2⟩ => ?_
  obtain ⟨rfl, rfl⟩ := q2
  obtain ⟨t2, rfl⟩ := r2
  exact ⟨_, _, rfl, formatField_hex hz ⟨.str (hexT i), H2, I2.tok _, ⟨_, rfl⟩, q⟩⟩
theorem signs_at {z : Str} : ∀ {us : List Value} {cs : List Nat} {k : Nat}, us.length = cs.length → (∀ (j : Nat) (v : Value), us[j]? = some v → SignAt z (k + j) v) → (∀ j, cs[j]? = z.cps[k + j]?) → Vals (cs.map fun c => V.str ⟨#[c]⟩) us
  | [], [], _, _, _, _ => .nil
  | [], _ :: _, _, h, _, _ => by simp at h
  | _ :: _, [], _, h, _, _ => by simp at h
  | u :: us, c :: cs, k, hl, h, hc => by
    obtain ⟨d, t, e1, e2⟩ := h 0 u rfl
    have e3 := hc 0
    rw [e1] at e3
    have e4 : c = d := Option.some.inj e3
    subst e4
    rw [List.map_cons]
    refine .cons ⟨t, e2⟩ (signs_at (z := z) (k := k + 1) (by simpa using hl) (fun j v e => ?_) fun j => ?_)
    · have := h (j + 1) v (by simpa using e)
      rw [show k + (j + 1) = k + 1 + j by omega] at this
      exact this
    · have := hc (j + 1)
      rw [show k + (j + 1) = k + 1 + j by omega] at this
      rw [← this]; rfl
/-- list(a text) -/
def rListStr : List V → Hp → VK → Prop := fun xs H Q => ∃ z : Str, xs = [.str z] ∧ z.length ≤ sizeLine ∧ ∀ p, H p = none → Q (.ref p) (upd H p (.lst (z.cps.toList.map fun c => V.str ⟨#[c]⟩)))
theorem call_listS (hcalm : X.calm = true) : CallR X (.type "list") rListStr := by
  intro pins s σ H xs us Q I r q
  obtain ⟨z, ex, hz, q⟩ := q
  subst ex
  obtain ⟨u, eu, rx⟩ := vals1 r
  subst eu
  obtain ⟨t, rfl⟩ := rx
  refine call_list_str (I.ok.hd hcalm) z t (fun h' tk acc c' hk hD hacc => ?_) hz
  have hv : Vals (z.cps.toList.map fun c => V.str ⟨#[c]⟩) acc.toList := by
    refine signs_at (z := z) (k := 0) (by rw [Array.length_toList, Array.length_toList]; exact hacc.1) (fun j v e => ?_) fun j => by rw [Nat.zero_add, Array.getElem?_toList]
    rw [Nat.zero_add]
    exact hacc.2 j v (by rw [← Array.getElem?_toList]; exact e)
  exact ⟨.ref s.heap.objs.size, upd H s.heap.objs.size (.lst (z.cps.toList.map fun c => V.str ⟨#[c]⟩)), I.laid (t' := tk) hk (Nat.le_refl _)
    (show ObjOk X.prog X.w _ _ _ (.lst _) from ⟨by rw [List.length_map]; exact hz, acc.toList, c', hv, by rw [Array.toArray_toList]; exact hD⟩), rfl, q _ (I.hok.fresh (Nat.le_refl _))⟩
end
end Ssb

/-! xs[a:a + 1] = [..]. -/
namespace Ssb
open PySem PySem.Spec PyProof.Rows L2
open AutoSeq1 (wpAny_loadPart')
open MeetsSeq MeetsSeq2 MeetsSeq3 SeqRoads2 Builtin
/-- the ends of xs[a:a + 1] where a is the list's length or less -/
theorem ends_at {a n : Nat} (ha : a ≤ n) : sliceBounds (some (a : Int)) (some ((a : Int) + 1)) none n = ((a : Int), ((min (a + 1) n : Nat) : Int), 1) := by
  unfold sliceBounds
  have h1 : ¬ ((a : Int) < 0) := by omega
  have h2 : ¬ ((a : Int) + 1 < 0) := by omega
  simp only [Option.getD_none, h1, h2, if_false, show (1 : Int) > 0 from by decide, if_true, Prod.mk.injEq, and_true]
  omega
theorem meets_put (l b sl : Addr) (items new : Array Value) (n n2 : Nat) (a : Nat) (ta tb : Tok) (ha : a ≤ items.size) (hne : l ≠ b) (hsz : items.size + new.size ≤ sizeLine) :
    Meets (Builtin.«list.__setitem__» ⟨[.ref l, .ref sl, .ref b], []⟩)
      (fun A R s => s.heap.get? l = some { cls := .type "list", data := .seq items n } ∧ s.heap.get? b = some { cls := .type "list", data := .seq new n2 } ∧ s.heap.IsSliceOf sl (.int a ta) (.int ((a : Int) + 1) tb) .none ∧
        R (.ok (.ret .none)) { s with heap := s.heap.update l (Obj.mapSeq fun xs => xs.extract 0 a ++ new ++ xs.extract (min (a + 1) items.size) xs.size) }) := by
  intro prog w A R s h
  obtain ⟨hl, hb, hs, h⟩ := h
  obtain ⟨os, ho, hc, hd⟩ := id hs
  have ty : s.TypeIs (.ref sl) "slice" := ⟨os, ho, hc⟩
  have one : Builtin.List.listSubscript? (.ref sl) = Builtin.List.listSubscript? (.ref sl) := rfl
  wp_walk using wpAny_loadPart' hl, wpAny_loadPart' hb
  rw [slice_no_index]
  wp_walk
  rw [hd]
  wp_walk using wpAny_loadPart' hl, wpAny_loadPart' hb
  rw [hd]
  wp_walk using wpAny_loadPart' hl, wpAny_loadPart' hb
  rw [PySem.F.slot_int_index.lookup]
  wp_walk using wpAny_loadPart' hl, wpAny_loadPart' hb
  rw [hd]
  wp_walk using wpAny_loadPart' hl, wpAny_loadPart' hb
  rw [PySem.F.slot_int_index.lookup]
  wp_walk using wpAny_loadPart' hl, wpAny_loadPart' hb
  have same : ¬ Builtin.List.listSameRef (.ref l) (.ref b) = true := by simp [Builtin.List.listSameRef, hne]
  rw [if_neg same]
  wp_walk using wpAny_loadPart' hl, wpAny_loadPart' hb
  have tl : ¬ Builtin.List.listTooLong (items.size + new.size) = true := by rw [notLongL hsz]; exact Bool.false_ne_true
  rw [if_neg tl]
  have z1 : (Max.max 0 (Min.min (if (a : Int) < 0 then (a : Int) + (items.size : Int) else (a : Int)) (items.size : Int))) = (a : Int) := by
    rw [if_neg (by omega)]; omega
  have z2 : (Max.max 0 (Min.min (if (a : Int) + 1 < 0 then (a : Int) + 1 + (items.size : Int) else (a : Int) + 1) (items.size : Int))) = ((min (a + 1) items.size : Nat) : Int) := by
    rw [if_neg (by omega)]; omega
  rw [z1, z2, show (Max.max (a : Int) ((min (a + 1) items.size : Nat) : Int)).toNat = min (a + 1) items.size by omega, Int.toNat_natCast]
  wp_walk using wpAny_loadPart' hl, wpAny_loadPart' hb
  have pl : (Obj.mapSeq (fun xs => xs.extract 0 a ++ new ++ xs.extract (min (a + 1) items.size)) { cls := .type "list", data := .seq items n }).data.pastItsLine = none :=
    pastItsLine_seq (by show (items.extract 0 a ++ new ++ items.extract (min (a + 1) items.size)).size ≤ _; simp only [Array.size_append, Array.size_extract]; omega)
  rw [pl]
  wp_walk
  exact h
section
variable {X : Cx}
/-- o[a:a + 1] = [..], a the list's length or less -/
def gSlice1 (to tl th : TE) : TG := fun v σ H Q => to σ H fun o H1 => tl σ H1 fun x H2 => th σ H2 fun y H3 => ∃ (l b : Addr) (xs ys : List V) (a : Nat), o = .ref l ∧ v = .ref b ∧ x = .int (a : Int) ∧ y = .int ((a : Int) + 1) ∧ H3 l = some (.lst xs) ∧ H3 b = some (.lst ys) ∧ l ≠ b ∧ a ≤ xs.length ∧ xs.length + ys.length ≤ sizeLine ∧
  Q σ (upd H3 l (.lst (xs.take a ++ ys ++ xs.drop (a + 1))))
theorem pg_slice1 {o lo hi : Expr} {to tl th : TE} {p2 pos : Pos} (ho : PE X o to) (hl : PE X lo tl) (hh : PE X hi th) : PG X (.Subscript o (.Slice (some lo) (some hi) none p2) pos) (gSlice1 to tl th) := by
  refine ⟨fun pins s σ H v u Q I r h => ?_⟩
  rw [arm_assign_Subscript]
  refine wpAny_bind (wpAny_holding (thn (ho.run pins s σ H _ I h) fun ov s1 ⟨x, H1, I1, r1, q1⟩ => ?_))
  refine wpAny_bind (wpAny_holding (wpAny_Slice ?_))
  rw [evalPart_some, evalPart_some, evalPart_none]
  refine thn (hl.run pins s1 σ H1 _ I1 q1) fun vl s2 ⟨xl, H2, I2, pl, q2⟩ => thn (hh.run pins s2 σ H2 _ I2 q2) fun vu s3 ⟨xh, H3, I3, pu, q3⟩ => wpAny_pure ?_
  obtain ⟨l, b, xs, ys, a, rfl, rfl, rfl, rfl, hx, hb, hne, ha, hz, q⟩ := q3
  cases r1
  cases r
  obtain ⟨ta, rfl⟩ := pl
  obtain ⟨tb, rfl⟩ := pu
  have I4 : Inv X pins σ H3 { s3 with heap := s3.heap.push { cls := .type "slice", data := .fields #[.int (a : Int) ta, .int ((a : Int) + 1) tb, .none] } } := I3.kept (t' := s3.toks) fun b ob q => Heap.get?_push_of_some _ q
  obtain ⟨_, its, n, rv, hl, e⟩ := I4.lstM hx
  obtain ⟨_, its2, n2, rv2, hl2, e2⟩ := I4.lstM hb
  refine wpAny_bind (wpAny_standAt (wpAny_bind (wpAny_holding ?_)))
  have IL := PySem.IsL.isList e
  refine wpAny_holding (wpAny_bind (wpAny_sequenceKey IL.typeIs (by decide) (wpAny_bind (wpAny_callSpecial?_slot (name := "__setitem__") IL.typeIs slot_list_setitem (call_meets slot_list_setitem IL.typeIs entry_list_setitem (args_list_setitem _ _ _)
    (meets_put l b _ its.toArray its2.toArray n n2 a ta tb (by rw [List.size_toArray]; omega) hne (by rw [List.size_toArray, List.size_toArray]; omega)) ⟨e, e2, Heap.IsSliceOf.new .., ?_⟩)))))
  refine wpAny_pure (wpAny_release ⟨σ, _, I4.lset (its' := its.take a ++ its2 ++ its.drop (a + 1)) (t' := _) hx e ?_ (Vals.append (Vals.append (rv.take _) rv2) (rv.drop _)) ?_, q⟩)
  · have := splice_eq its its2 a (min (a + 1) its.length)
    have dm : its.drop (min (a + 1) its.length) = its.drop (a + 1) := by
      rcases Nat.le_total (a + 1) its.length with c | c
      · rw [Nat.min_eq_left c]
      · rw [Nat.min_eq_right c, List.drop_eq_nil_of_le (Nat.le_refl _), List.drop_eq_nil_of_le c]
    rw [dm] at this
    rw [List.size_toArray] at this ⊢
    exact this
  · rw [List.length_append, List.length_append, List.length_take, List.length_drop]
    omega
end
end Ssb

/-! name = {k: v for ..}, the name a local. -/
namespace Ssb
open PySem PySem.Spec PyProof.Rows L2
abbrev Blk (X : Cx) (scope : Scope) (F : Cx → Prop) : Prop := ∀ (s : Shared) (H : Hp) (C : Addr) (cl : List (Str × Addr)) (fp : List Addr), F (X.blk s H scope (compEnvC scope cl C X.env) fp)
section
variable {X : Cx} {i : Nat} {y : Str} {py pos spos : Pos} {kx vx tg iter : Expr} {ifs : List Expr} {scope : Scope} {own : List (Str × Nat)} {wi : TI} {g : TG} {tt : TT} {tk tv : TE}
theorem ps_setDc (hc : X.calm = true) (hN : X.N.Nodup) (hy : X.N[i]? = some y) (hyl : X.env.scope.names.lookup y = some .local) (hsw : swapsWith (.DictComp kx vx [⟨tg, iter, ifs, 0⟩] scope pos) (some (.Name y py)) spos.line X.env = pure true)
    (hi : PI X tg iter wi) (ok : BlkOk X.N X.env.scope scope own) (hg : Blk X scope fun B => PG B tg g) (ht : Blk X scope fun B => PTs B ifs tt) (hk : Blk X scope fun B => PE B kx tk) (he : Blk X scope fun B => PE B vx tv)
    (hs : ∀ x, foldedSetIterable iter X.env x = pure x := by intro _; rfl) : PS X (.Assign [.Name y py] (.DictComp kx vx [⟨tg, iter, ifs, 0⟩] scope pos) spos) (tAsg (tDc wi g tt tk tv (own.map (·.2))) (gName i)) := by
  refine ⟨fun pins s σ H D I h => ?_⟩
  rw [exec_Assign_Name_used _ _ _ _ hsw]
  have h : tDc wi g tt tk tv (own.map (·.2)) σ H (fun x H1 => gName i x σ H1 D.nx) := h
  refine wpAny_bind (wpAny_standAt (wpAny_bind ?_))
  show wpAny _ X.A (do let _ ← comprehension (.DictComp kx vx [⟨tg, iter, ifs, 0⟩] scope pos) scope X.env (firstIterPos [⟨tg, iter, ifs, 0⟩] pos) newDict false (eval iter X.env) (some (assign (.Name y py) X.env))) _ _ s
  refine wpAny_bind (thn (dc_core (Qf := fun _ s' => SP X pins D .next s') hc hN I hi ok hg ht hk he hs h fun L C s' m H' I' q hn f => ?_) fun _ s' hq => wpAny_pure (wpAny_pure hq))
  show wpAny _ _ (assign (.Name y py) X.env (.ref L)) _ _ _
  refine wpAny_assign_Name (store_ok2 (v := V.ref L) I' hN hy (.inl hyl) rfl (fun s2 I2 ⟨a, sb, ha⟩ => ?_) (.inr hyl))
  obtain ⟨z0, z1, z3, z4, z5⟩ : _ ∧ _ ∧ _ ∧ _ ∧ _ := ⟨f.1, f.2.1, f.2.2.2.1, f.2.2.2.2.1, f.2.2.2.2.2⟩
  have ne : C ≠ a := by
    rcases ha with z | z
    · rw [z]; exact z1
    · exact fun e => z4 y a z e.symm
  exact ⟨m, hn.sameBut sb ne, fun h3 sb3 => ⟨_, H', I2.turned (t' := s2.toks) (fun b o hb e => (sb3.2 b hb).trans e) z0 z1 z3 z4 z5, q⟩⟩
theorem sw_trueD {gs : List Comprehension} {l : Nat} {env : Env} (hk : env.scope.kind = .function) (hy : env.scope.names.lookup y = some .local) (hl : (py.line == pos.line) = true) (ha : (scope.names.any fun (n, k) => n == y && (k == .local || k == .cell)) = false) :
    swapsWith (.DictComp kx vx gs scope pos) (some (.Name y py)) l env = pure true := by
  have e1 : env.kindOf y = some .local := hy
  have e2 : env.blockKind = .function := by
    unfold Env.blockKind
    rw [hk]; rfl
  unfold swapsWith
  simp only [e2, e1, ha, Expr.pos, hl]
  rfl
end
end Ssb

/-! x in a tuple of any data; a sign n times. -/
namespace Ssb
open PySem PySem.Spec PyProof.Rows L2
section
variable {X : Cx}
/-- x in (..), x not in (..): deep -/
def rInU (K : PySem.W.Frag) (neg : Bool) : R2 := fun x y H Q => ∃ d ds, Dp K H x d ∧ Dp K H y (.tuple ds) ∧ SeqAt.shaped d = true ∧ SeqAt.shaped (.tuple ds) = true ∧ Q (.bl (if neg then !ds.any (fun z => PyData.eqv z d) else ds.any fun z => PyData.eqv z d)) H
theorem op_inU (hu : X.A.units + 65 < cLine) : OpR X (compareOp .In) (rInU X.K false) := by
  rintro pins s σ H x y v u Q I rx ry ⟨d, ds, hd, he, sd, se, q⟩
  obtain ⟨bs, r2⟩ := Dp.reads I (.tuple ds) y u he ry
  obtain ⟨as, r1⟩ := Dp.reads I d x v hd rx
  exact SeqAt.in_tuple_reads r2 r1 (SeqAt.canLay_of_shaped se) (SeqAt.canLay_of_shaped sd) (room_in_shaped sd hu) ⟨.bl _, H, I, rfl, q⟩
theorem op_notInU (hu : X.A.units + 65 < cLine) : OpR X (compareOp .NotIn) (rInU X.K true) := by
  rintro pins s σ H x y v u Q I rx ry ⟨d, ds, hd, he, sd, se, q⟩
  obtain ⟨bs, r2⟩ := Dp.reads I (.tuple ds) y u he ry
  obtain ⟨as, r1⟩ := Dp.reads I d x v hd rx
  exact SeqAt.notIn_tuple_reads r2 r1 (SeqAt.canLay_of_shaped se) (SeqAt.canLay_of_shaped sd) (room_in_shaped sd hu) ⟨.bl _, H, I, rfl, q⟩
/-- "c" * n -/
def rMulS : R2 := fun x y H Q => ∃ (c : Nat) (n : Int), x = .str ⟨#[c]⟩ ∧ y = .int n ∧ 1 ≤ n ∧ n ≤ 1000 ∧ Q (.str ⟨(List.replicate n.toNat c).toArray⟩) H
theorem rep_sign (c : Nat) : ∀ (n : Nat) (acc : Array Nat), (List.replicate n #[c]).foldl (· ++ ·) acc = acc ++ (List.replicate n c).toArray
  | 0, acc => by simp
  | n + 1, acc => by
    rw [List.replicate_succ, List.foldl_cons, rep_sign c n, List.replicate_succ]
    apply Array.toList_inj.mp
    simp
theorem op_mulS : OpR X (binaryOp .Mult) rMulS := by
  rintro pins s σ H x y v u Q I rx ry ⟨c, n, rfl, rfl, n1, n2, q⟩
  obtain ⟨t, rfl⟩ := rx
  obtain ⟨t2, rfl⟩ := ry
  obtain ⟨k, rfl⟩ := Int.eq_ofNat_of_zero_le (show 0 ≤ n by omega)
  rw [Int.toNat_natCast] at q
  have l1 : (⟨#[c]⟩ : Str).length = 1 := rfl
  refine P.mul_str (by simp; omega) (fun _ _ => ?_) (fun _ _ => ?_) ?_
  · rw [l1]
    have : 1 ≤ ((2 : Int) ^ 63 - 1) / (k : Int) := (Int.le_ediv_iff_mul_le (by omega)).mpr (by omega)
    omega
  · rw [l1, Nat.one_mul, Int.toNat_natCast]
    unfold Builtin.Str.tooLong
    rw [sizeLine_eq]
    exact decide_eq_false (by omega)
  · rw [if_neg (by omega)]
    by_cases h1 : k = 1
    · subst h1
      rw [if_pos (by rfl)]
      exact ⟨.str _, H, I, ⟨t, rfl⟩, q⟩
    · rw [if_neg (by rw [l1]; simp; omega), Int.toNat_natCast, rep_sign, Array.empty_append]
      exact ⟨by show (List.replicate k c).toArray.size ≤ _; rw [List.size_toArray, List.length_replicate, sizeLine_eq]; omega, .str _, H, I.tok _, ⟨_, rfl⟩, q⟩
end
end Ssb

/-! tuples of the module: a constant that is a tuple of tuples of texts and ints -/
namespace Ssb
open PySem PySem.Spec PyProof.Rows L2
def lkTup (K : PySem.W.Frag) (a : Addr) (xs : List V) : Prop := ∃ (o : Obj) (its : Array Value) (n : Nat), K.lookup a = some o ∧ o.cls = .type "tuple" ∧ o.data = .seq its n ∧ its.size ≤ sizeLine ∧ Vals xs its.toList
theorem lkTup.sq {K : PySem.W.Frag} {a : Addr} {xs : List V} (h : lkTup K a xs) (H : Hp) : SqT K H a xs := .inr h
/-- the datum of the module at v -/
def RepK (K : PySem.W.Frag) : Nat → D → V → Prop
  | _ + 1, .int i, v => v = .int i
  | _ + 1, .str s, v => v = .str s
  | n + 1, .tup l, v => ∃ a xs, v = .ref a ∧ lkTup K a xs ∧ Paired (fun d x => RepK K n d x) l xs
  | _, _, _ => False
def TupK (K : PySem.W.Frag) (a : Addr) (l : List D) : Prop := ∃ xs, lkTup K a xs ∧ Paired (fun d x => RepK K 3 d x) l xs
theorem tup_mk {K : PySem.W.Frag} {a a1 a2 a3 : Addr} {s1 s2 s3 : Str} {i1 i2 i3 : Int} {k1 k2 k3 t1 t2 t3 : Tok} {d0 d1 d2 d3 : Option Addr} {n0 n1 n2 n3 : Nat} {l0 l1 l2 l3 : Array (Option Value)}
    (h0 : K.lookup a = some ⟨.type "tuple", d0, .seq #[.ref a1, .ref a2, .ref a3] n0, l0⟩)
    (h1 : K.lookup a1 = some ⟨.type "tuple", d1, .seq #[.str s1 k1, .int i1 t1] n1, l1⟩)
    (h2 : K.lookup a2 = some ⟨.type "tuple", d2, .seq #[.str s2 k2, .int i2 t2] n2, l2⟩)
    (h3 : K.lookup a3 = some ⟨.type "tuple", d3, .seq #[.str s3 k3, .int i3 t3] n3, l3⟩) : TupK K a [.tup [.str s1, .int i1], .tup [.str s2, .int i2], .tup [.str s3, .int i3]] :=
  have two : ∀ {b : Addr} {s : Str} {i : Int} {k t : Tok} {d : Option Addr} {n : Nat} {l : Array (Option Value)}, K.lookup b = some ⟨.type "tuple", d, .seq #[.str s k, .int i t] n, l⟩ → RepK K 3 (.tup [.str s, .int i]) (.ref b) := fun h =>
    ⟨_, [.str _, .int _], rfl, ⟨_, _, _, h, rfl, rfl, by show 2 ≤ sizeLine; decide, .cons ⟨_, rfl⟩ (.cons ⟨_, rfl⟩ .nil)⟩, .cons rfl (.cons rfl .nil)⟩
  ⟨[.ref a1, .ref a2, .ref a3], ⟨_, _, _, h0, rfl, rfl, by show 3 ≤ sizeLine; decide, .cons rfl (.cons rfl (.cons rfl .nil))⟩, .cons (two h1) (.cons (two h2) (.cons (two h3) .nil))⟩
end Ssb

/-! a text against a dict; (x, n) in a tuple of (text, int)s, x of any kind -/
namespace Ssb
open PySem PySem.Spec PyProof.Rows L2 PySem.SeqAt
open AutoSeq1 (wpAny_loadPart')
open MeetsSeq
theorem str_eq_declines_dict (b : Str) (u : Tok) (l : Addr) (c : Value) (es : Array DictEntry) (ep : Nat) (dd : Option Addr) (sl : Array (Option Value)) :
    Meets (Builtin.«str.__eq__» ⟨[.str b u, .ref l], []⟩) (fun _ R s => s.heap.get? l = some { cls := c, dict := dd, data := .dict es ep, slots := sl } ∧ R (.ok (.ret .notImplemented)) s) :=
  .of_wp fun prog w A R s h => by obtain ⟨hp, g, d, tk, os⟩ := s; obtain ⟨hl, h⟩ := h; wp_walk using wpAny_loadPart' hl, wpAny_load hl; exact ⟨_, rfl, h⟩
theorem dict_eq_declines_str (l : Addr) (es : Array DictEntry) (ep : Nat) (dd : Option Addr) (sl : Array (Option Value)) (b : Str) (u : Tok) :
    Meets (Builtin.«dict.__eq__» ⟨[.ref l, .str b u], []⟩) (fun _ R s => s.heap.get? l = some { cls := .type "dict", dict := dd, data := .dict es ep, slots := sl } ∧ R (.ok (.ret .notImplemented)) s) :=
  .of_wp fun prog w A R s h => by
    obtain ⟨hl, h⟩ := h
    unfold Builtin.«dict.__eq__»
    refine wpAny_bind ?_
    unfold Builtin.Dict.dictSlotArgs
    refine wpAny_bind (wpAny_notOrdered_dict ⟨_, hl, rfl⟩ ?_)
    show wpAny _ _ (pure (Value.ref l, Value.str b u)) _ _ s
    refine wpAny_pure ?_
    obtain ⟨hp, g, d, tk, os⟩ := s
    have f1 := F.sub_str_dict
    wp_walk using wpAny_loadPart' hl, wpAny_load hl
    exact ⟨_, rfl, h⟩
section
variable {A : Around} {s : Shared}
theorem RcAt.str_dict {l : Addr} {es : Array DictEntry} {ep : Nat} {dd : Option Addr} {sl : Array (Option Value)} (b : Str) (u : Tok) (ho : s.heap.get? l = some { cls := .type "dict", dict := dd, data := .dict es ep, slots := sl }) (hu : A.units < cLine) : RcAt A s (.str b u) (.ref l) false := fun prog w E Q h =>
  rc_eq_decline_or (k := false) (typeIs_str s b u) ⟨_, ho, rfl⟩ (by decide) F.sub_dict_str F.slot_str_eq F.slot_dict_eq_refl
    (fun _ hq => call_meets F.slot_str_eq (typeIs_str s b u) F.entry_str_eq (F.args_str_eq_2 _ _) (str_eq_declines_dict b u l (.type "dict") es ep dd sl) ⟨ho, hq⟩)
    (fun _ hq => call_meets F.slot_dict_eq_refl ⟨_, ho, rfl⟩ F.entry_dict_eq (F.args_dict_eq_2 _ _) (dict_eq_declines_str l es ep dd sl b u) ⟨ho, hq⟩)
    (fun _ hq => wpAny_of_eq (rfl : isSame (.str b u) (.ref l) = pure false) hq) (.inr hu) h
theorem EqAt.str_dict {l : Addr} {es : Array DictEntry} {ep : Nat} {dd : Option Addr} {sl : Array (Option Value)} (b : Str) (u : Tok) (ho : s.heap.get? l = some { cls := .type "dict", dict := dd, data := .dict es ep, slots := sl }) (hu : A.units < cLine) : EqAt A s (.str b u) (.ref l) false := fun prog w E Q h => by
  unfold eqBool
  refine wpAny_holding ?_
  refine wpAny_ite_split (fun hab => absurd (eq_of_beq hab) nofun) (fun _ => ?_)
  exact wpAny_bind (RcAt.str_dict b u ho hu prog w E _ (wpAny_truthy_bool h))
end
/-- of any kind: flat, or a list, a tuple, a dict -/
inductive Kd (H : Hp) : V → Prop
  | flat {x : V} : flatV x = true → Kd H x
  | lst {a : Addr} {xs : List V} : H a = some (.lst xs) → Kd H (.ref a)
  | tup {a : Addr} {xs : List V} : H a = some (.tup xs) → Kd H (.ref a)
  | dic {a : Addr} {es : List (Key × V)} : H a = some (.dK es) → Kd H (.ref a)
section
variable {X : Cx} {pins : List (Addr × Obj)} {σ : L2.St} {H : Hp} {sh : Shared}
theorem eqAt_str (I : Inv X pins σ H sh) {A : Around} {x : V} {v : Value} {s0 : Str} {t : Tok} (h : Kd H x) (rx : RelV x v) (hu : A.units < cLine) : SeqAt.EqAt A sh (.str s0 t) v (decide (x = .str s0)) := by
  cases h with
  | flat f =>
    have := eqAt_V (A := A) (s := sh) (y := .str s0) (u := .str s0 t) ⟨t, rfl⟩ rx rfl f
    have e : eqV (.str s0) x = decide (x = .str s0) := by
      cases x with
      | str z => show (s0 == z) = _; rw [Bool.eq_iff_iff, beq_iff_eq, decide_eq_true_eq]; exact ⟨fun e => by rw [e], fun e => by cases e; rfl⟩
      | non => rfl
      | bl b => rfl
      | int i => rfl
      | _ => cases f
    rw [← e]; exact this
  | lst ha =>
    cases rx
    obtain ⟨its, _, ⟨o, n, e, c, _, d⟩, _⟩ := I.list (.of ha)
    exact EqAt.str_list s0 t ⟨o, e, c, n, d⟩ hu
  | tup ha =>
    cases rx
    obtain ⟨its, _, p, _⟩ := I.tuple (.of ha)
    exact EqAt.str_tuple s0 t p hu
  | dic ha =>
    cases rx
    obtain ⟨_, ya, va, ra, da⟩ := (show ObjOk X.prog X.w H sh.heap _ (.dK _) from I.hok _ _ ha)
    obtain ⟨⟨cls, dd, data, sl⟩, es, ep, ho, hc, hdat, _⟩ := id da
    have hcls : cls = .type "dict" := hc.1
    simp only at hdat
    subst hcls hdat
    exact EqAt.str_dict s0 t ho hu
end
theorem lk_inj {K : PySem.W.Frag} {a : Addr} {xs ys : List V} (h : lkTup K a xs) (h2 : lkTup K a ys) : xs = ys := by
  obtain ⟨o, its, n, e, _, d, _, r⟩ := h
  obtain ⟨o', its', n', e', _, d', _, r'⟩ := h2
  rw [e] at e'; cases e'; rw [d] at d'; cases d'
  exact r.inj r'
theorem vals_refs : ∀ {cs : List Addr} {us : List Value}, Vals (cs.map V.ref) us → us = cs.map Value.ref
  | [], us, h => by cases h; rfl
  | c :: cs, us, h => by
    cases h with
    | cons a b => cases a; rw [vals_refs b]; rfl
theorem any_refs {e : Value → Bool} {g : Str × Int → Bool} {R : Str × Int → Addr → Prop} : ∀ {fs : List (Str × Int)} {cs : List Addr}, Paired R fs cs → (∀ p c, c ∈ cs → R p c → e (.ref c) = g p) → (cs.map Value.ref).any e = fs.any g
  | _, _, .nil, _ => rfl
  | _, _, .cons h t, k => by
    rw [List.map_cons, List.any_cons, List.any_cons, k _ _ List.mem_cons_self h, any_refs t fun p c hc r => k p c (List.mem_cons_of_mem _ hc) r]
/-- (x, n) in the module's tuple of (text, int)s -/
def rInF (K : PySem.W.Frag) : R2 := fun x y H Q => ∃ (a : Addr) (v0 : V) (n : Int) (c : Addr) (cs : List Addr) (fs : List (Str × Int)), x = .ref a ∧ H a = some (.tup [v0, .int n]) ∧ Kd H v0 ∧ y = .ref c ∧ lkTup K c (cs.map V.ref) ∧
  Paired (fun p a => lkTup K a [.str p.1, .int p.2]) fs cs ∧ Q (.bl (fs.any fun p => decide (v0 = .str p.1) && decide (p.2 = n))) H
theorem op_inF {X : Cx} (hu : X.A.units + 65 < cLine) : OpR X (compareOp .In) (rInF X.K) := by
  rintro pins s σ H x y v u Q I rx ry ⟨a, v0, n, c, cs, fs, rfl, ha, kd, rfl, hc, hfs, q⟩
  cases rx; cases ry
  obtain ⟨its, r1, p1, _⟩ := I.tuple (.of ha)
  obtain ⟨us, r2, p2, _⟩ := I.tuple (hc.sq H)
  have eus := vals_refs r2
  subst eus
  have hits : ∃ w0 t, its = [w0, .int n t] ∧ RelV v0 w0 := by
    cases r1 with
    | cons r0 r =>
      cases r with
      | cons r1 r => cases r; obtain ⟨t, rfl⟩ := r1; exact ⟨_, t, rfl, r0⟩
  obtain ⟨w0, t, rfl, r0⟩ := hits
  have key : ∀ (p : Str × Int) (b : Addr), lkTup X.K b [.str p.1, .int p.2] → SeqAt.EqAt X.A.in1 s (.ref b) (.ref a) (decide (v0 = .str p.1) && decide (p.2 = n)) := fun p b hb => by
    by_cases e : b = a
    · subst e
      have := I.tuple_inj (hb.sq H) (.of ha)
      simp only [List.cons.injEq, V.int.injEq, and_true] at this
      rw [← this.1, this.2, decide_eq_true rfl, decide_eq_true rfl]
      exact SeqAt.EqAt.same _
    · obtain ⟨ws, r3, p3, _⟩ := I.tuple (hb.sq H)
      have hws : ∃ t1 t2, ws = [.str p.1 t1, .int p.2 t2] := by
        cases r3 with
        | cons r0 r =>
          cases r with
          | cons r1 r => cases r; obtain ⟨t1, rfl⟩ := r0; obtain ⟨t2, rfl⟩ := r1; exact ⟨t1, t2, rfl⟩
      obtain ⟨t1, t2, rfl⟩ := hws
      have := SeqAt.RcAt.tuples (A := X.A.in1) (e := fun j => if j = 0 then decide (v0 = .str p.1) else decide (p.2 = n)) p3 p1 (by show X.A.units + 1 < cLine; omega) fun j h1 h2 => by
        have h1 : j < 2 := h1
        match j, h1 with
        | 0, _ => exact eqAt_str I kd r0 (by show X.A.units + 1 + 1 < cLine; omega)
        | 1, _ =>
          have := SeqAt.EqAt.int_int (A := X.A.in1.in1) (s := s) p.2 t2 n t
          rw [show (p.2 == n) = decide (p.2 = n) by rw [Bool.eq_iff_iff, beq_iff_eq, decide_eq_true_eq]] at this
          exact this
      have h2 := SeqAt.EqAt.of_refs e this
      have e2 : ((List.range (min #[Value.str p.1 t1, Value.int p.2 t2].size #[w0, Value.int n t].size)).all (fun j => if j = 0 then decide (v0 = .str p.1) else decide (p.2 = n)) && #[Value.str p.1 t1, Value.int p.2 t2].size == #[w0, Value.int n t].size) = (decide (v0 = .str p.1) && decide (p.2 = n)) := by
        show ((List.range 2).all _ && true) = _
        simp [List.range_succ]
      rw [e2] at h2
      exact h2
  classical
  let e : Value → Bool := fun z => decide (∃ (p : Str × Int) (b : Addr), z = Value.ref b ∧ lkTup X.K b [.str p.1, .int p.2] ∧ (decide (v0 = .str p.1) && decide (p.2 = n)) = true)
  have he : ∀ (p : Str × Int) (b : Addr), lkTup X.K b [.str p.1, .int p.2] → e (.ref b) = (decide (v0 = .str p.1) && decide (p.2 = n)) := fun p b hb => by
    show decide _ = _
    rw [Bool.eq_iff_iff, decide_eq_true_eq]
    refine ⟨fun ⟨p2, b2, eb, h2, h3⟩ => ?_, fun h => ⟨p, b, rfl, hb, h⟩⟩
    cases eb
    have := lk_inj hb h2
    simp only [List.cons.injEq, V.str.injEq, V.int.injEq, and_true] at this
    rw [this.1, this.2]; exact h3
  refine SeqAt.in_tupleAt (e := e) p2 (fun z hz => ?_) ?_
  · have hz : z ∈ cs.map Value.ref := by simpa using hz
    obtain ⟨b, hb, rfl⟩ := List.mem_map.mp hz
    obtain ⟨i, hi⟩ := List.mem_iff_getElem?.mp hb
    obtain ⟨p, _, hp⟩ := pair_back hfs hi
    rw [he p b hp]
    exact key p b hp
  · have := any_refs (e := e) (g := fun p => decide (v0 = .str p.1) && decide (p.2 = n)) hfs fun p b _ hp => he p b hp
    rw [List.any_toArray, this]
    exact ⟨.bl _, H, I, rfl, q⟩
/-- the forms of a constant -/
theorem TupK.forms {K : PySem.W.Frag} {c : Addr} {fs : List (Str × Int)} (h : TupK K c (fs.map fun p => .tup [.str p.1, .int p.2])) : ∃ cs : List Addr, lkTup K c (cs.map V.ref) ∧ Paired (fun p a => lkTup K a [.str p.1, .int p.2]) fs cs := by
  obtain ⟨xs, hx, pr⟩ := h
  have : ∀ {fs : List (Str × Int)} {xs : List V}, Paired (fun d x => RepK K 3 d x) (fs.map fun p => D.tup [.str p.1, .int p.2]) xs → ∃ cs : List Addr, xs = cs.map V.ref ∧ Paired (fun p a => lkTup K a [.str p.1, .int p.2]) fs cs := by
    intro fs
    induction fs with
    | nil => intro xs h; cases h; exact ⟨[], rfl, .nil⟩
    | cons p fs ih =>
      intro xs h
      cases h with
      | cons h t =>
        obtain ⟨cs, rfl, pc⟩ := ih t
        obtain ⟨a, ys, rfl, ha, py⟩ := h
        refine ⟨a :: cs, rfl, .cons ?_ pc⟩
        cases py with
        | cons h1 t1 =>
          cases t1 with
          | cons h2 t2 =>
            cases t2
            have h1 : _ = V.str p.1 := h1
            have h2 : _ = V.int p.2 := h2
            subst h1 h2
            exact ha
  obtain ⟨cs, rfl, pc⟩ := this pr
  exact ⟨cs, hx, pc⟩
end Ssb

namespace Ssb
open PySem PySem.Spec PyProof.Rows L2
/-- x not in (a, b), a and b texts, x of any kind -/
def rNotIn2 : R2 := fun x y H Q => ∃ (b : Addr) (s1 s2 : Str), y = .ref b ∧ H b = some (.tup [.str s1, .str s2]) ∧ Kd H x ∧ Q (.bl (!(decide (x = .str s1) || decide (x = .str s2)))) H
theorem op_notIn2 {X : Cx} (hu : X.A.units + 20 < cLine) : OpR X (compareOp .NotIn) rNotIn2 := by
  intro pins s σ H x y v u Q I rx ry ⟨b, s1, s2, ey, hb, kd, q⟩
  cases ey
  obtain rfl : u = Value.ref b := ry
  obtain ⟨its, r1, p1, _⟩ := I.tuple (.of hb)
  obtain ⟨t1, t2, rfl⟩ : ∃ t1 t2, its = [Value.str s1 t1, Value.str s2 t2] := by
    cases r1 with
    | cons r0 r =>
      cases r with
      | cons r1 r => cases r; obtain ⟨t1, rfl⟩ := r0; obtain ⟨t2, rfl⟩ := r1; exact ⟨t1, t2, rfl⟩
  refine SeqAt.notIn_tupleAt (fun z => match z with
    | .str a _ => decide (x = .str a)
    | _ => false) p1 (fun z hz => ?_) ⟨.bl (!(decide (x = .str s1) || decide (x = .str s2))), H, I, ?_, q⟩
  · have hz : z = Value.str s1 t1 ∨ z = Value.str s2 t2 := by simpa using hz
    rcases hz with rfl | rfl
    · exact eqAt_str I kd rx (by show X.A.units + 1 < cLine; omega)
    · exact eqAt_str I kd rx (by show X.A.units + 1 < cLine; omega)
  · show Value.bool _ = Value.bool _
    congr 1
    simp
end Ssb

/-! {k: v for ..} with keys that are None or tuples. -/
namespace Ssb
open PySem PySem.Spec PyProof.Rows L2
/-- what one turn does: the pair goes into the dict at D, then on with M -/
def NTurn (w : World) (vs : List Nat) (g : TG) (tt : TT) (tk tv : TE) (D : Addr) (σ : L2.St) (x : V) (H : Hp) (M : Hp → Prop) : Prop := g x (wipe σ vs) H fun ρ G => wipe ρ vs = wipe σ vs ∧ tt ρ G fun yes G1 =>
  if yes = true then tk ρ G1 fun y G2 => tv ρ G2 fun z G3 => ∃ xs d, G3 D = some (DkO w D xs) ∧ Keys G3 xs ∧ KeyV G3 d y ∧ xs.length < sizeLine ∧ M (upd G3 D (DkO w D (putX xs d y z))) else M G1
def tDn (w : World) (wi : TI) (g : TG) (tt : TT) (tk tv : TE) (vs : List Nat) : TE := fun σ H Q => wi σ H fun J G => ∀ D, G D = none → ∃ W : Nat → Nat → Hp → Prop, (∃ m, W 0 m (upd G D (DkO w D []))) ∧
  ∀ i m G1, W i m G1 → (J.stop i G1 ∧ Q (.ref D) G1) ∨ (J.go i G1 ∧ ∃ M : Hp → Prop, (∀ G2, M G2 → ∃ j, j < m ∧ W (i + 1) j G2) ∧ ∀ x G2, J.yld i G1 x G2 → NTurn w vs g tt tk tv D σ x G2 M)
section
variable {X : Cx} {pins : List (Addr × Obj)} {σ : L2.St} {H : Hp} {s : Shared}
theorem n_compSet {A : Around} {E : Value → Shared → Prop} {a : Addr} {xs : List XEnt} {d : D} {y v : V} {u r : Value} {Q : Unit → Shared → Prop} (hu : A.units + 10 < cLine) (I : L2.Inv X pins σ H s) (e : H a = some (DkO X.w a xs)) (hk : Keys H xs) (ky : KeyV H d y) (hl : xs.length < sizeLine) (ry : RelV y u) (rv : RelV v r)
    (h : ∀ s', L2.Inv X pins σ (upd H a (DkO X.w a (putX xs d y v))) s' → Q () s') : wpAny (model X.prog X.w) A (dictSet a u r) Q E s := by
  obtain ⟨h1, h2, ys, nd, pr, hn, his⟩ := dn_of I.hok hk (.inl e)
  have hz : ys.length ≤ sizeLine := by rw [← Paired.length pr]; exact h1
  refine n_set (by omega) (key_n I.hok ky ry) nd his hn hz fun h' nd' sb => h _ ?_
  have he : ∃ q, h'.get? a = some q := let ⟨q, _, _, hq, _⟩ := nd'; ⟨q, hq⟩
  refine d_write I (by rw [e]; exact True.intro) sb he (dn_new ?_ h2 nd' (rel_put pr ry rv) ?_)
  · have := putX_len (xs := xs) (d := d) (a := y) (v := v); omega
  · rw [putX_xk]
    refine putN_nd ?_
    rw [xk_keys pr]; exact hn
variable {kx vx tg iter : Expr} {ifs : List Expr} {scope : Scope} {own : List (Str × Nat)} {pos pos' : Pos} {wi : TI} {g : TG} {tt : TT} {tk tv : TE}
theorem dn_core {Q : VK} {use : Option (Value → Sem Unit)} {Qf : Value → Shared → Prop} (hu : X.A.units + 20 < cLine) (hc : X.calm = true) (hN : X.N.Nodup) (I : L2.Inv X pins σ H s) (hi : PI X tg iter wi) (ok : BlkOk X.N X.env.scope scope own)
    (hg : Blk X scope fun B => PG B tg g) (ht : Blk X scope fun B => PTs B ifs tt) (hk : Blk X scope fun B => PE B kx tk) (he : Blk X scope fun B => PE B vx tv) (hs : ∀ x, foldedSetIterable iter X.env x = pure x) (h : tDn X.w wi g tt tk tv (own.map (·.2)) σ H Q)
    (out : ∀ D C s' m H', L2.Inv X pins σ H' s' → Q (.ref D) H' → s'.heap.Ns C m → FpOk X pins H' C → compPost (model X.prog X.w) X.A X.xe use Qf (.ref D) C (.ok .next) s') :
    wpAny (model X.prog X.w) X.A (comprehension (.DictComp kx vx [⟨tg, iter, ifs, 0⟩] scope pos) scope X.env pos' newDict false (eval iter X.env) use) Qf X.xe s := by
  have free : ∀ y ∈ scope.names, y.2 = .free → ∃ c, X.env.cells.lookup y.1 = some c := fun y hy e => (ok.free y hy e).elim (fun k => I.ok.has _ (.inl k)) fun k => I.ok.has _ (.inr k)
  refine wpAny_comprehension_free (use := use) rfl hs (closure_ok free) ok.kind (fun y hy e => by rw [ok.uniq y hy, e]) (thn (hi.run pins s σ H _ I h) fun _ s1 hx => thn hx fun _ s2 ⟨it, fp, tn, J, G, e, I2, T, st2, f2, q⟩ => ?_)
  subst e
  refine wpAny_newObj_type (newEnv_comp ?_)
  generalize hD : s2.heap.objs.size = D
  obtain ⟨W, ⟨m0, w0⟩, turn⟩ := q D (I2.hok.fresh (Nat.le_of_eq hD))
  generalize hs3 : ({ s2 with heap := s2.heap.push { cls := .type "dict", data := .dict #[] } } : Shared) = s3
  have h3 : s3.heap = s2.heap.push { cls := .type "dict", data := .dict #[] } := by rw [← hs3]
  have I3 : L2.Inv X pins σ (upd G D (DkO X.w D [])) s3 := by
    subst hs3 hD
    exact I2.laid (a := s2.heap.objs.size) (o := DkO X.w s2.heap.objs.size []) (t' := s2.toks) (fun _ _ q => Heap.get?_push_of_some _ q) (Nat.le_refl _) (dn_new (Nat.zero_le _) (beq_eq_false_iff_ne.mpr (Ne.symm (Nat.ne_of_lt I2.big))) (ys := []) ⟨_, #[], 0, Heap.get?_push_size _ rfl, ⟨rfl, rfl, rfl⟩, rfl, rfl⟩ .nil List.nodup_nil)
  have f3 : ∀ b ∈ fp, FpOk X pins (upd G D (DkO X.w D [])) b ∧ b < s3.heap.objs.size := fun b hb => by
    obtain ⟨o, eo, _⟩ := T.obj _ _ st2 b hb
    have lt := Heap.lt_size eo
    refine ⟨⟨?_, (f2 b hb).2⟩, by rw [h3, Heap.size_push]; exact Nat.lt_succ_of_lt lt⟩
    rw [upd_ne (by rw [← hD]; exact Nat.ne_of_lt lt)]
    exact (f2 b hb).1
  have I4 := block_start I3 ok hN f3
  have st3 : tn 0 s3.heap := T.keep _ _ _ st2 fun b _ o e => by rw [h3]; exact Heap.get?_push_of_some _ e
  have pg := hg s3 (upd G D (DkO X.w D [])) s3.heap.objs.size (cellsFrom (s3.heap.objs.size + 1) scope.names (cloFrom X.env.cells scope.names [])) fp
  have pt := ht s3 (upd G D (DkO X.w D [])) s3.heap.objs.size (cellsFrom (s3.heap.objs.size + 1) scope.names (cloFrom X.env.cells scope.names [])) fp
  have pk := hk s3 (upd G D (DkO X.w D [])) s3.heap.objs.size (cellsFrom (s3.heap.objs.size + 1) scope.names (cloFrom X.env.cells scope.names [])) fp
  have pe := he s3 (upd G D (DkO X.w D [])) s3.heap.objs.size (cellsFrom (s3.heap.objs.size + 1) scope.names (cloFrom X.env.cells scope.names [])) fp
  show codeAny _ _ (.compStart (.DictComp kx vx [⟨tg, iter, ifs, 0⟩] scope pos) 0 (.ref it) (.ref D) (compEnvC scope (cellsFrom (s3.heap.objs.size + 1) scope.names (cloFrom X.env.cells scope.names [])) s3.heap.objs.size X.env)) (compPost (model X.prog X.w) X.A X.xe use Qf (.ref D) s3.heap.objs.size) { s3 with heap := pushCells (s3.heap.push { cls := .type "dict", data := .dict #[] }) scope.names }
  have nfp : ∀ b ∈ fp, (upd G D (DkO X.w D [])) b = none := fun b hb => (f3 b hb).1.1
  generalize hce : compEnvC scope (cellsFrom (s3.heap.objs.size + 1) scope.names (cloFrom X.env.cells scope.names [])) s3.heap.objs.size X.env = ce at I4 pg pt pk pe ⊢
  have cL : ce.locals = s3.heap.objs.size := by subst hce; rfl
  generalize hG3 : upd G D (DkO X.w D []) = G3 at I3 I4 pg pt pk pe w0 nfp f3
  generalize hs4 : ({ s3 with heap := pushCells (s3.heap.push { cls := .type "dict", data := .dict #[] }) scope.names } : Shared) = s4 at I4 ⊢
  have st4 : tn 0 s4.heap := T.keep _ _ _ st3 fun b _ o e => by rw [← hs4]; exact pushCells_keeps _ _ _ _ (Heap.get?_push_of_some _ e)
  have stat : ∀ {ρ : L2.St} {G' : Hp} {s' : Shared}, L2.Inv (X.blk s3 G3 scope ce fp) [] ρ G' s' → (∀ b ∈ fp, G' b = none) → ∀ b ∈ fp, FpOk (X.blk s3 G3 scope ce fp) [] G' b := fun J' hn b hb =>
    ⟨hn b hb, (J'.ok.exf b hb).1, J'.ok.exfs b hb, .inl hb, fun x c e => (J'.ok.exf b hb).2 x c e, fun p hp => absurd (show p ∈ ([] : List (Addr × Obj)) ++ [] from hp) (by simp)⟩
  have loop : codeAny (model X.prog X.w) X.A (.compLoop (.DictComp kx vx [⟨tg, iter, ifs, 0⟩] scope pos) 0 (.ref it) (.ref D) ce) (compPost (model X.prog X.w) X.A X.xe use Qf (.ref D) s3.heap.objs.size) s4 := by
    refine compLoop_anyD (fun n s' => ∃ i G', L2.Inv (X.blk s3 G3 scope ce fp) [] (wipe σ (own.map (·.2))) G' s' ∧ tn i s'.heap ∧ (∀ b ∈ fp, G' b = none) ∧ W i n G') ?_ m0 ⟨0, G3, I4, st4, nfp, w0⟩
    rintro n s5 ⟨i, G5, I5, st5, n5, w5⟩
    rcases turn i n G5 w5 with ⟨stop, done⟩ | ⟨go, M, hM, step⟩
    · refine thnF (T.done (X.blk s3 G3 scope ce fp) rfl rfl rfl hc i [] s5 _ G5 (fun _ _ => False) I5 (stat I5 n5) st5 stop) fun r s6 ⟨hr, I6⟩ => ?_
      subst hr
      have I7 : L2.Inv X pins σ G5 s6 := I3.call' (ch := fp) I6.os I6.base I6.hok I6.bare fun b hb => ⟨(f3 b hb).1.2.2.2.1, (f3 b hb).1.2.1, (f3 b hb).1.2.2.2.2.1, (f3 b hb).1.2.2.2.2.2⟩
      have fr : G5 ce.locals = none := I6.free
      obtain ⟨m, ns, _⟩ := I6.loc
      have ns : s6.heap.Ns ce.locals m := ns
      rw [cL] at ns fr
      exact out D s3.heap.objs.size s6 m G5 I7 done ns (I3.fpOk (Nat.le_refl _) fr)
    · refine thnF (T.item (X.blk s3 G3 scope ce fp) rfl rfl rfl hc i [] s5 _ G5 (fun _ _ => False) I5 (stat I5 n5) st5 go) fun r s6 ⟨u, hr, h6⟩ => ?_
      subst hr
      refine thnF h6 fun _ s7 ⟨x, G7, I7, r7, y7, st7, n7⟩ => ?_
      refine thnF (pg.run _ s7 _ G7 x u _ (I7.pinned (stat I7 n7) (T.obj _ _ st7)) r7 (step x G7 y7)) fun _ s8 ⟨σ8, G8, I8, hw8, q8⟩ => thnF (pt.run _ s8 σ8 G8 _ I8 q8) fun b s9 ⟨G9, I9, q9⟩ => ?_
      have fin : ∀ {s' : Shared} {G' : Hp}, L2.Inv (X.blk s3 G3 scope ce fp) ([] ++ pinsAt fp s7.heap) σ8 G' s' → M G' → ∃ m, m < n ∧ ∃ i G', L2.Inv (X.blk s3 G3 scope ce fp) [] (wipe σ (own.map (·.2))) G' s' ∧ tn i s'.heap ∧ (∀ b ∈ fp, G' b = none) ∧ W i m G' := fun {s' G'} I' nx => by
        obtain ⟨m', hm, w'⟩ := hM G' nx
        have pin : ∀ b ∈ fp, ∀ o, s7.heap.get? b = some o → s'.heap.get? b = some o ∧ G' b = none := fun b hb o e => ⟨(I'.pin (b, o) (List.mem_append_right _ (List.mem_append_right _ (mem_pinsAt hb e)))).1, (I'.pin (b, o) (List.mem_append_right _ (List.mem_append_right _ (mem_pinsAt hb e)))).2.1⟩
        refine ⟨m', hm, i + 1, G', (I'.unpinned (pins := [])).weak (by rw [← hw8, wipe_length]) (fun j v e => (wipe_some (by rw [← hw8] at e; exact e)).1), T.keep _ _ _ st7 fun b hb o e => (pin b hb o e).1, fun b hb => ?_, w'⟩
        obtain ⟨o, e, _⟩ := T.obj _ _ st7 b hb
        exact (pin b hb o e).2
      cases b with
      | false =>
        simp only [Bool.false_eq_true, if_false] at q9 ⊢
        exact fin I9 q9
      | true =>
        simp only [if_true] at q9 ⊢
        refine thnF (pk.run _ s9 σ8 G9 _ I9 q9) fun z s10 ⟨yk, G10, I10, r10, q10⟩ => thnF (pe.run _ s10 σ8 G10 _ I10 q10) fun z2 s11 ⟨yv, G11, I11, r11, xs, d, hD11, hks, hky, hz, nx⟩ => ?_
        exact n_compSet (X := X.blk s3 G3 scope ce fp) (by show X.A.units + 10 < cLine; omega) I11 hD11 hks hky hz r10 r11 fun s12 I12 => fin I12 nx
  exact codeAny_compStart_dict loop (T.self X.A 0 _ _ _ st4 loop)
/-- name = {k: v for ..} -/
theorem ps_setDn {i : Nat} {y : Str} {py spos : Pos} (hu : X.A.units + 20 < cLine) (hc : X.calm = true) (hN : X.N.Nodup) (hy : X.N[i]? = some y) (hyl : X.env.scope.names.lookup y = some .local) (hsw : swapsWith (.DictComp kx vx [⟨tg, iter, ifs, 0⟩] scope pos) (some (.Name y py)) spos.line X.env = pure true)
    (hi : PI X tg iter wi) (ok : BlkOk X.N X.env.scope scope own) (hg : Blk X scope fun B => PG B tg g) (ht : Blk X scope fun B => PTs B ifs tt) (hk : Blk X scope fun B => PE B kx tk) (he : Blk X scope fun B => PE B vx tv)
    (hs : ∀ x, foldedSetIterable iter X.env x = pure x := by intro _; rfl) : PS X (.Assign [.Name y py] (.DictComp kx vx [⟨tg, iter, ifs, 0⟩] scope pos) spos) (tAsg (tDn X.w wi g tt tk tv (own.map (·.2))) (gName i)) := by
  refine ⟨fun pins s σ H D I h => ?_⟩
  rw [exec_Assign_Name_used _ _ _ _ hsw]
  have h : tDn X.w wi g tt tk tv (own.map (·.2)) σ H (fun x H1 => gName i x σ H1 D.nx) := h
  refine wpAny_bind (wpAny_standAt (wpAny_bind ?_))
  show wpAny _ X.A (do let _ ← comprehension (.DictComp kx vx [⟨tg, iter, ifs, 0⟩] scope pos) scope X.env (firstIterPos [⟨tg, iter, ifs, 0⟩] pos) newDict false (eval iter X.env) (some (assign (.Name y py) X.env))) _ _ s
  refine wpAny_bind (thn (dn_core (Qf := fun _ s' => SP X pins D .next s') hu hc hN I hi ok hg ht hk he hs h fun L C s' m H' I' q hn f => ?_) fun _ s' hq => wpAny_pure (wpAny_pure hq))
  show wpAny _ _ (assign (.Name y py) X.env (.ref L)) _ _ _
  refine wpAny_assign_Name (store_ok2 (v := V.ref L) I' hN hy (.inl hyl) rfl (fun s2 I2 ⟨a, sb, ha⟩ => ?_) (.inr hyl))
  obtain ⟨z0, z1, z3, z4, z5⟩ : _ ∧ _ ∧ _ ∧ _ ∧ _ := ⟨f.1, f.2.1, f.2.2.2.1, f.2.2.2.2.1, f.2.2.2.2.2⟩
  have ne : C ≠ a := by
    rcases ha with z | z
    · rw [z]; exact z1
    · exact fun e => z4 y a z e.symm
  exact ⟨m, hn.sameBut sb ne, fun h3 sb3 => ⟨_, H', I2.turned (t' := s2.toks) (fun b o hb e => (sb3.2 b hb).trans e) z0 z1 z3 z4 z5, q⟩⟩
end
end Ssb

/-! for k in d, keys of d None or tuples, d locked while the loop runs. -/
namespace Ssb
open PySem PySem.Spec PyProof.Rows L2
/-- the keys of such a locked dict, in their order -/
def Itn (w : World) (d : Addr) (o : Obj) (xs : List XEnt) : It :=
  ⟨fun c G => G d = some (.frz o (DkO w d xs)) ∧ c < xs.length, fun c G x G' => G' = G ∧ ∃ e : XEnt, xs[c]? = some e ∧ x = e.2.1, fun c G => G d = some (.frz o (DkO w d xs)) ∧ xs.length ≤ c⟩
section
variable {X : Cx} {pins : List (Addr × Obj)} {σ : L2.St} {H : Hp} {s : Shared} {d : Addr} {o : Obj} {xs : List XEnt}
theorem frz_n (I : L2.Inv X pins σ H s) (h : H d = some (.frz o (DkO X.w d xs))) : (d == sysModules) = false ∧ s.heap.get? d = some o ∧ o.ExactDict ∧ ∃ (es : Array DictEntry) (ep : Nat), o.data = .dict es ep ∧ es.size = xs.length ∧ ∀ (c : Nat) (e : XEnt), xs[c]? = some e → ∃ en : DictEntry, es[c]? = some en ∧ RelV e.2.1 en.key := by
  obtain ⟨hd, ⟨_, hs, ys, ⟨o', es, ep, ho, hx, hdt, hes⟩, pr, _⟩, _⟩ := I.hok d _ h
  rw [hd] at ho
  cases ho
  have len := Paired.length pr
  have size : es.size = ys.length := by rw [← Array.length_toList, hes, List.length_map]
  refine ⟨hs, hd, hx, es, ep, hdt, by omega, fun c e he => ?_⟩
  obtain ⟨y, hy, _, r, _⟩ := paired_get pr he
  refine ⟨nEnt X.w y, ?_, r⟩
  rw [← Array.getElem?_toList, hes, List.getElem?_map, hy]; rfl
end
section
variable {P : Program} {w : World} {K : PySem.W.Frag} {tg : Expr} {d : Addr} {o : Obj} {es : Array DictEntry} {ep : Nat} {xs : List XEnt}
theorem turn_n (it : Addr) (hod : o.data = .dict es ep) : Turn P w K tg (Itn w d o xs) [it] it (fun c h => h.IsKeyIter it d c xs.length ep) where
  mem := by simp
  obj := fun c h st b hb => by
    obtain rfl : b = it := List.mem_singleton.mp hb
    obtain ⟨oi, e, _, dd⟩ := st
    exact ⟨oi, e, fun v z => by rw [dd] at z; cases z⟩
  keep := fun c h h' st k => st.at fun oi e => k it List.mem_cons_self oi e
  item := by
    rintro X rfl rfl rfl hc c pins s σ H E I hf st ⟨hd, hi⟩
    obtain ⟨f0, f1, f2, f3, f4, f5⟩ := hf it List.mem_cons_self
    obtain ⟨hs, hgd, hx, es', ep', hdt, hsz, ent⟩ := frz_n I hd
    obtain ⟨rfl, rfl⟩ := dict_ep hod hdt
    have he := List.getElem?_eq_getElem hi
    obtain ⟨en, hen, r⟩ := ent c _ he
    refine next_key_item st hgd hdt hsz hen fun h' st' sb => ?_
    have I1 : L2.Inv X pins σ H { s with heap := h' } := I.turned (t' := s.toks) (fun b ob hb e => (sb.2 b hb).trans e) f0 f1 f3 f4 f5
    obtain ⟨oi, e, cl, dd⟩ := id st'
    exact ⟨en.key, rfl, go_of (s := { s with heap := h' }) e cl dd (by decide) ⟨_, H, I1, r, ⟨rfl, _, he, rfl⟩, st', fun b hb => (hf b hb).1⟩⟩
  done := by
    rintro X rfl rfl rfl hc c pins s σ H E I hf st ⟨hd, hi⟩
    obtain ⟨f0, f1, f2, f3, f4, f5⟩ := hf it List.mem_cons_self
    obtain ⟨hs, hgd, hx, es', ep', hdt, hsz, ent⟩ := frz_n I hd
    obtain ⟨rfl, rfl⟩ := dict_ep hod hdt
    exact next_key_end (I.ok.hd hc) st hgd hdt hsz hi fun h' eb => ⟨rfl, I.turned (t' := s.toks) (fun b ob hb e => eb b ob hb e) f0 f1 f3 f4 f5⟩
  self := fun A c s Q E st h => by
    refine wpAny_pyIter_slot st.typeIs F.slot_dict_keyiterator_iter (wpAny_call_entry F.slot_dict_keyiterator_iter st.typeIs F.entry_dict_keyiterator_iter ?_ (F.args_dict_keyiterator_iter_1 _))
    show wpAny _ _ (ret (.ref it)) _ _ s
    exact wpAny_pure ⟨_, rfl, "dict_keyiterator", _, st.typeIs, F.slot_dict_keyiterator_next.lookup, h⟩
end
def iNKeys (w : World) (td : TE) : TI := fun σ H R => td σ H fun x G => ∃ d o xs, x = .ref d ∧ G d = some (.frz o (DkO w d xs)) ∧ R (Itn w d o xs) G
theorem pi_nkeys {X : Cx} {tg e : Expr} {td : TE} (he : PE X e td) : PI X tg e (iNKeys X.w td) := by
  refine ⟨fun pins s σ H R I h => thn (he.run pins s σ H _ I h) fun u s1 ⟨x, G, I1, rx, d, o, xs, ex, hd, q⟩ => ?_⟩
  subst ex
  obtain rfl : u = Value.ref d := rx
  obtain ⟨hs, hgd, hx, es, ep, hdt, hsz, _⟩ := frz_n I1 hd
  refine iter_keys hs hgd hx hdt (pi_one (tk := s1.toks) I1 _ (turn_n _ hdt) ⟨_, Heap.get?_push_size _ rfl, rfl, ?_⟩ q)
  rw [hsz] <;> rfl
theorem walk_n {w : World} {d : Addr} {o : Obj} {xs : List XEnt} : Walk (Itn w d o xs) xs.length (fun G => G d = some (.frz o (DkO w d xs))) (fun c G x G' => G' = G ∧ ∃ e : XEnt, xs[c]? = some e ∧ x = e.2.1) :=
  ⟨fun _ _ hi q => ⟨q, hi⟩, fun _ q => ⟨q, Nat.le_refl _⟩, fun _ _ _ _ _ _ y => y⟩
/-- for k in d: .., d locked -/
theorem for_lockN {w : World} {d : Addr} {xs : List XEnt} {D : Ends} {ts : TS} {g : TG} {td : TE} {σ : L2.St} {H : Hp} (hd : H d = some (DkO w d xs)) (hv : ∀ od, Evl.Ev td σ (upd H d (.frz od (DkO w d xs))) (.ref d)) (Pv : Obj → Nat → L2.St → Hp → Prop) (h0 : ∀ od G, Evl.Ex (upd H d (.frz od (DkO w d xs))) G → Pv od 0 σ G)
    (hG : ∀ od c σ' G, c ≤ xs.length → Pv od c σ' G → G d = some (.frz od (DkO w d xs))) (hs : ∀ od c (e : XEnt) σ' G, xs[c]? = some e → Pv od c σ' G → g e.2.1 σ' G fun σ2 G2 => ts (shut D d (DkO w d xs) od (Pv od (c + 1))) σ2 G2) (hn : ∀ od σ' G, Pv od xs.length σ' G → D.nx σ' (upd G d (DkO w d xs))) :
    tLock (tFor (iNKeys w td) g ts) D σ H := by
  refine ⟨d, DkO w d xs, hd, trivial, fun od => hv od _ (Evl.Ex.refl _) _ fun G e => ⟨d, od, xs, rfl, e _ _ upd_same, ?_⟩⟩
  exact for_it walk_n (Pv od) (h0 od G e) (fun c σ' G' hc p => hG od c σ' G' hc p) (fun c x σ' G' G2 hc p y => by
    obtain ⟨rfl, en, hen, rfl⟩ := y
    exact hs od c en σ' _ hen p) fun σ' G' p => ⟨hG od _ σ' G' (Nat.le_refl _) p, hn od σ' G' p⟩
end Ssb

/-! dict(xs), xs a list of pairs whose keys are None or tuples. -/
namespace Ssb
open PySem PySem.Spec PyProof.Rows L2
def putAll (es : List XEnt) : List XEnt := es.foldl (fun acc e => putX acc e.1 e.2.1 e.2.2) []
def foldN (ys : List NEnt) : List NEnt := ys.foldl (fun acc y => putN acc y.1 y.2.1 y.2.2) []
theorem foldN_snoc {ys : List NEnt} {y : NEnt} : foldN (ys ++ [y]) = putN (foldN ys) y.1 y.2.1 y.2.2 := by unfold foldN; rw [List.foldl_append]; rfl
theorem putAll_snoc {es : List XEnt} {e : XEnt} : putAll (es ++ [e]) = putX (putAll es) e.1 e.2.1 e.2.2 := by unfold putAll; rw [List.foldl_append]; rfl
theorem foldN_len : ∀ {n : Nat} {ys : List NEnt}, ys.length = n → (foldN ys).length ≤ n ∧ ((foldN ys).map (·.1)).Nodup
  | 0, ys, h => by
    obtain rfl := List.length_eq_zero_iff.mp h
    exact ⟨Nat.le_refl _, List.nodup_nil⟩
  | n + 1, ys, h => by
    have hne : ys ≠ [] := fun e => by rw [e] at h; cases h
    obtain ⟨l, y, rfl⟩ : ∃ l y, ys = l ++ [y] := ⟨ys.dropLast, ys.getLast hne, (List.dropLast_concat_getLast hne).symm⟩
    rw [List.length_append] at h
    obtain ⟨h1, h2⟩ := foldN_len (n := n) (ys := l) (by have : [y].length = 1 := rfl; omega)
    rw [foldN_snoc]
    exact ⟨Nat.le_trans (putN_len _ _ _ _) (by omega), putN_nd h2⟩
theorem foldN_mem {P : NestedKey → Value → Prop} {ys : List NEnt} (h : ∀ y ∈ ys, P y.1 y.2.1) : ∀ y ∈ foldN ys, P y.1 y.2.1 := by
  have key : ∀ {l acc : List NEnt}, (∀ y ∈ acc, P y.1 y.2.1) → (∀ y ∈ l, P y.1 y.2.1) → ∀ y ∈ l.foldl (fun acc y => putN acc y.1 y.2.1 y.2.2) acc, P y.1 y.2.1 := fun {l} => by
    induction l with
    | nil => exact fun h _ => h
    | cons a l ih =>
      intro acc ha hl
      refine ih (fun y hy => ?_) fun y hy => hl y (List.mem_cons_of_mem _ hy)
      rcases putN_mem hy with ⟨x, hx, e1, e2⟩ | ⟨e1, e2⟩
      · rw [← e1, ← e2]; exact ha x hx
      · rw [e1, e2]; exact hl a List.mem_cons_self
  exact key (fun y hy => nomatch hy) h
theorem rel_all {es : List XEnt} {ys : List NEnt} (h : Paired RelE es ys) : Paired RelE (putAll es) (foldN ys) := by
  have key : ∀ {es : List XEnt} {ys : List NEnt} {acc : List XEnt} {acc2 : List NEnt}, Paired RelE acc acc2 → Paired RelE es ys → Paired RelE (es.foldl (fun acc e => putX acc e.1 e.2.1 e.2.2) acc) (ys.foldl (fun acc y => putN acc y.1 y.2.1 y.2.2) acc2) := fun {es} => by
    induction es with
    | nil => intro ys acc acc2 ha hp; cases hp; exact ha
    | cons e es ih =>
      intro ys acc acc2 ha hp
      cases hp with
      | cons h0 hp =>
        have := rel_put (d := e.1) ha h0.2.1 h0.2.2
        rw [h0.1] at this
        have r := ih this hp
        exact r
  exact key .nil h
section
variable {X : Cx}
/-- the pairs of the list at p -/
def PrAt (H : Hp) (es : List XEnt) (zs : List V) : Prop := Paired (fun (e : XEnt) z => ∃ t, z = .ref t ∧ H t = some (.tup [e.2.1, e.2.2]) ∧ KeyV H e.1 e.2.1) es zs
def rDictN (w : World) : List V → Hp → VK → Prop := fun vs H Q => ∃ (p : Addr) (zs : List V) (es : List XEnt), vs = [.ref p] ∧ H p = some (.lst zs) ∧ PrAt H es zs ∧ es.length ≤ sizeLine ∧ ∀ d, H d = none → Q (.ref d) (upd H d (DkO w d (putAll es)))
theorem pr_vals {P : Program} {w : World} {H : Hp} {h : Heap} (ok : HOk P w H h) : ∀ {es : List XEnt} {zs : List V} {us : List Value}, PrAt H es zs → Vals zs us → ∃ (ys : List NEnt) (ts : List Addr), us = ts.map Value.ref ∧ ts.length = es.length ∧ Paired RelE es ys ∧ (∀ y ∈ ys, NKey h y.1 y.2.1) ∧ ∀ (j : Nat) (y : NEnt), ys[j]? = some y → ∃ t, ts[j]? = some t ∧ PairAt h t y.2.1 y.2.2
  | [], zs, us, pr, rv => by
    cases pr; cases rv
    exact ⟨[], [], rfl, rfl, .nil, (fun y hy => by cases hy), fun j y h => by cases j <;> cases h⟩
  | e :: es, zs, us, pr, rv => by
    cases pr with
    | cons p1 pr =>
    cases rv with
    | cons r1 rv =>
    obtain ⟨ys, ts, e1, e2, e3, e4, e5⟩ := pr_vals ok pr rv
    obtain ⟨t, rfl, ht, hk⟩ := p1
    cases r1
    obtain ⟨_, its, rt, o, ho, hc, n1, hd⟩ := (show ObjOk P w H h t (.tup [e.2.1, e.2.2]) from ok t _ ht)
    obtain ⟨k, v, rfl, rk, rw'⟩ : ∃ k v, its = [k, v] ∧ RelV e.2.1 k ∧ RelV e.2.2 v := by
      cases rt with
      | cons a rt =>
      cases rt with
      | cons b rt => cases rt; exact ⟨_, _, rfl, a, b⟩
    refine ⟨(nkD e.1, k, v) :: ys, t :: ts, by rw [e1]; rfl, by rw [List.length_cons, List.length_cons, e2], .cons ⟨rfl, rk, rw'⟩ e3, fun y hy => ?_, fun j y hj => ?_⟩
    · rcases List.mem_cons.mp hy with rfl | hy
      · exact key_n ok hk rk
      · exact e4 y hy
    · cases j with
      | zero => cases hj; exact ⟨t, rfl, .inl ⟨o, ho, hc, n1, hd⟩⟩
      | succ j => exact e5 j y hj
theorem call_dict_n {X : Cx} (hu : X.A.units + 20 < cLine) (hc : X.calm = true) : CallR X (.type "dict") (rDictN X.w) := by
  rintro pins s σ H vs us Q I r ⟨p, zs, es, rfl, hp, pr, hz, q⟩
  obtain ⟨u, rfl, rx⟩ := vals1 r
  obtain rfl : u = Value.ref p := rx
  obtain ⟨_, its, n, rv, hg⟩ := (show ObjOk X.prog X.w H s.heap p (.lst zs) from I.hok p _ hp)
  obtain ⟨ys, ts, e1, e2, prl, his, hpair⟩ := pr_vals I.hok pr rv
  subst e1
  have ly : ys.length = es.length := (Paired.length prl).symm
  have P := PairArg.list (prog := X.prog) (w := X.w) p (ts.map Value.ref).toArray (fun j => ts.getD j 0) (ys.map fun y => (y.2.1, y.2.2))
  have items : PairItems s.heap (ts.map Value.ref).toArray (fun j => ts.getD j 0) (ys.map fun y => (y.2.1, y.2.2)) := by
    refine ⟨by simp [e2, ly], fun j k v hj => ?_⟩
    rw [List.getElem?_map] at hj
    cases hy : ys[j]? with
    | none => rw [hy] at hj; cases hj
    | some y =>
      rw [hy] at hj
      cases hj
      obtain ⟨t, ht, pa⟩ := hpair j y hy
      have eg : ts.getD j 0 = t := by rw [List.getD_eq_getElem?_getD, ht]; rfl
      refine ⟨?_, by show PairAt s.heap (ts.getD j 0) _ _; rw [eg]; exact pa⟩
      show (ts.map Value.ref).toArray[j]? = some (.ref (ts.getD j 0))
      rw [eg, List.getElem?_toArray, List.getElem?_map, ht]; rfl
  have ok : PlainSeq "list" s.heap p (ts.map Value.ref).toArray ∧ PairItems s.heap (ts.map Value.ref).toArray (fun j => ts.getD j 0) (ys.map fun y => (y.2.1, y.2.2)) := ⟨⟨_, n, hg, rfl, rfl, rfl⟩, items⟩
  refine call_dict_arg P ok fun s1 hs1 hdf ok1 => ?_
  subst hs1
  have old : ∀ b o, s.heap.get? b = some o → b ≠ s.heap.objs.size := fun b o e => Nat.ne_of_lt (Heap.lt_size e)
  have tabK : ∀ h : Heap, (∀ b o, b ≠ s.heap.objs.size → s.heap.get? b = some o → h.get? b = some o) → ∀ l : List NEnt, (∀ y ∈ l, y ∈ ys) → ∀ y ∈ foldN l, NKey h y.1 y.2.1 := fun h hk l hl => foldN_mem fun y hy => ⟨NestedIs.at (fun b ob vs n hb _ => hk b ob (old b ob hb) hb) _ _ (his y (hl y hy)).1, (his y (hl y hy)).2⟩
  refine updateFrom_arg (Tab := fun i h => NDict X.w h s.heap.objs.size (foldN (ys.take i)) ∧ ∀ b o, b ≠ s.heap.objs.size → s.heap.get? b = some o → h.get? b = some o) P .none (I.ok.hd hc) ok1 hdf ⟨⟨_, #[], 0, Heap.get?_push_size _ rfl, ⟨rfl, rfl, rfl⟩, rfl, rfl⟩, fun b o _ e => Heap.get?_push_of_some _ e⟩ (fun i h tb => let ⟨⟨_, _, _, ho, _⟩, _⟩ := tb; Heap.lt_size ho) (fun i h h' wr' hd hw tb hk => ?_) (fun i k v s' Q' E' hi hrel tb _ hQ => ?_) fun h' tk tb hk => ?_
  · obtain ⟨⟨o, es', ep, ho, r⟩, tk⟩ := tb
    refine ⟨⟨o, es', ep, hk _ _ hd ho, r⟩, fun b ob hb e => hk b ob (fun hm => ?_) (tk b ob hb e)⟩
    rcases hw b hm with z | z
    · cases z
    · have := Heap.get?_push_of_some { cls := .type "dict", data := .dict #[] } e
      rw [z] at this; cases this
  · obtain ⟨y, hy, ek, ev⟩ : ∃ y, ys[i]? = some y ∧ y.2.1 = k ∧ y.2.2 = v := by
      have hrel : (ys.map fun y => (y.2.1, y.2.2))[i]? = some (k, v) := hrel
      rw [List.getElem?_map] at hrel
      cases hy : ys[i]? with
      | none => rw [hy] at hrel; cases hrel
      | some y => rw [hy] at hrel; cases hrel; exact ⟨y, rfl, rfl, rfl⟩
    subst ek ev
    have hym := List.mem_of_getElem? hy
    have fl := foldN_len (n := (ys.take i).length) (ys := ys.take i) rfl
    have ll : (ys.take i).length ≤ es.length := by rw [List.length_take]; omega
    refine n_set (k := y.1) (ys := foldN (ys.take i)) (by show X.A.units + 1 + 1 + 8 < cLine; omega) ⟨NestedIs.at (fun b ob vs n hb _ => tb.2 b ob (old b ob hb) hb) _ _ (his y hym).1, (his y hym).2⟩ tb.1 (tabK _ tb.2 _ fun z hz => List.mem_of_mem_take hz) fl.2 (by omega) fun h' nd sb => hQ h' _ ⟨?_, fun b ob hb e => (sb.2 b hb).trans (tb.2 b ob hb e)⟩ sb
    rw [List.take_add_one, hy]
    show NDict X.w h' _ (foldN (ys.take i ++ [y]))
    rw [foldN_snoc]; exact nd
  · have tb1 := tb.1
    rw [List.take_of_length_le (by simp)] at tb1
    have fl := foldN_len (n := ys.length) (ys := ys) rfl
    have ra := rel_all prl
    refine ⟨rfl, .ref s.heap.objs.size, _, I.laid (a := s.heap.objs.size) (o := DkO X.w s.heap.objs.size (putAll es)) (t' := tk) (fun b ob e => hk b ob (old b ob e) (fun h => nomatch h) (Heap.get?_push_of_some _ e)) (Nat.le_refl _) (dn_new (by rw [Paired.length ra]; omega) (beq_eq_false_iff_ne.mpr (Ne.symm (Nat.ne_of_lt I.big))) tb1 ra (by rw [xk_keys ra]; exact fl.2)), rfl, q _ (I.hok.fresh (Nat.le_refl _))⟩
end
end Ssb

/-! len(d), d.clear() for a dict whose keys are None or tuples. -/
namespace Ssb
open PySem PySem.Spec PyProof.Rows L2
section
variable {X : Cx} {pins : List (Addr × Obj)} {σ : L2.St} {H : Hp} {s : Shared} {a : Addr} {xs : List XEnt}
theorem raw_n (I : L2.Inv X pins σ H s) (e : Rd H a (DkO X.w a xs)) : (a == sysModules) = false ∧ xs.length ≤ sizeLine ∧ ∃ es ep, s.heap.DictRaw a es ep ∧ es.size = xs.length := by
  obtain ⟨⟨z, hs, ys, ⟨o, es, ep, ho, hx, hdt, hes⟩, pr, _⟩, _⟩ := (show ObjOk X.prog X.w H s.heap a (DkO X.w a xs) from e.ok I.hok)
  have len := Paired.length pr
  exact ⟨hs, z, es, ep, ⟨o, ho, hx, hdt⟩, by rw [← Array.length_toList, hes, List.length_map]; omega⟩
end
def rLenN (w : World) : List V → Hp → VK → Prop := fun vs H Q => ∃ (a : Addr) (xs : List XEnt), vs = [.ref a] ∧ Rd H a (DkO w a xs) ∧ Q (.int (xs.length : Int)) H
theorem call_lenN {X : Cx} : CallR X (.builtin "len") (rLenN X.w) := by
  rintro pins s σ H vs us Q I r ⟨a, xs, rfl, e, q⟩
  obtain ⟨u, rfl, rx⟩ := vals1 r
  obtain rfl : u = .ref a := rx
  obtain ⟨hs, z, es, ep, hm, hsz⟩ := raw_n I e
  rw [sizeLine_eq] at z
  refine Calls.call_function_entry kind_len plain_len entry_len (args_len1 _) ?_
  unfold Builtin.«len»
  refine wpAny_bind (m := oneArg "len" _) (wpAny_pure (wpAny_bind (m := callSpecial? (.ref a) (Str.ofString "__len__")) (wpAny_callSpecial?_slot (name := Str.ofString "__len__") hm.typeIs F.slot_dict_len (call_len_raw hs hm ?_))))
  refine wpAny_bind (wpAny_holding (wpAny_pure (wpAny_bind (wpAny_letGo ?_))))
  have lo : ¬ ((es.size : Nat) : Int) < 0 := by omega
  have hi : ¬ ((es.size : Nat) : Int) ≥ 2 ^ 63 := by omega
  show wpAny _ _ (if ((es.size : Nat) : Int) < 0 then _ else _) _ _ _
  rw [if_neg lo]
  show wpAny _ _ (if ((es.size : Nat) : Int) ≥ 2 ^ 63 then _ else _) _ _ _
  rw [if_neg hi]
  refine wpAny_bind (wpAny_mkInt (wpAny_pure ⟨_, rfl, .int (xs.length : Int), H, (I.tok _), ⟨_, by rw [hsz]⟩, q⟩))
def rClearN (w : World) : V → List V → Hp → VK → Prop := fun x vs H Q => ∃ (a : Addr) (xs : List XEnt), x = .ref a ∧ vs = [] ∧ H a = some (DkO w a xs) ∧ Q .non (upd H a (DkO w a []))
theorem mtd_clearN {X : Cx} : MtR X "dict.clear" (rClearN X.w) := by
  rintro pins s σ H x vs v us Q I rx rv ⟨a, xs, rfl, rfl, e, q⟩
  obtain rfl : v = Value.ref a := rx
  have hus := rv.zero
  subst hus
  obtain ⟨hs, z, es, ep, hm, hsz⟩ := raw_n I (.inl e)
  refine call_meetsIn PySem.F.slot_dict_clear hm.typeIs PySem.F.entry_dict_clear (PySem.F.args_dict_clear_1 _) (meets_dict_clear_raw a) ⟨es, ep, hm, by omega, fun h' hr sb => ?_⟩
  obtain ⟨o, ho, hx, hdt⟩ := hr
  exact ⟨.non, _, d_write (t' := s.toks) I (by rw [e]; exact True.intro) sb ⟨o, ho⟩ (dn_new (Nat.zero_le _) hs (ys := []) ⟨o, #[], ep + 1, ho, hx, hdt, rfl⟩ .nil List.nodup_nil), rfl, q⟩
def tClearN (w : World) (to : TE) : TE := fun σ H Q => to σ H fun x H1 => ∃ a xs, x = .ref a ∧ H1 a = some (DkO w a xs) ∧ Q .non (upd H1 a (DkO w a []))
theorem pe_clearN {X : Cx} {o : Expr} {to : TE} {apos cpos : Pos} (ho : PE X o to) (hbase : attributeBase o "clear" X.env (eval o X.env) = eval o X.env := by rfl) (hline : (apos.endLine == cpos.line) = true := by rfl) : PE X (.Call (.Attribute o "clear" apos) [] [] cpos) (tClearN X.w to) := by
  refine ⟨fun pins s σ H Q I h => ?_⟩
  refine wpAny_Call_method0_late hbase hline (thn (ho.run pins s σ H _ I h) fun v s1 ⟨x, H1, I1, r1, a, xs, ex, hd, q1⟩ => ?_)
  cases ex
  obtain rfl : v = Value.ref a := r1
  obtain ⟨hs, z, es, ep, hm, hsz⟩ := raw_n I1 (.inl hd)
  refine ⟨"dict", "dict.clear", PySem.F.plainAttrs_dict, PySem.F.slot_dict_clear, PySem.F.type_dict_clear, hm.typeIs, fun b e2 => ?_, Calls.callWith_builtin rfl (PySem.evalArgs_none (mtd_clearN pins s1 σ H1 (.ref a) [] _ [] Q I1 rfl .nil ⟨a, xs, rfl, rfl, hd, q1⟩))⟩
  cases e2
  obtain ⟨ob, h1, h2, _⟩ := hm
  exact ⟨ob, h1, h2.2.1⟩
end Ssb

/-! key not in d; isinstance(x, T) where x may be such a dict. -/
namespace Ssb
open PySem PySem.Spec PyProof.Rows L2
def rNNin (w : World) : R2 := fun y x H Q => ∃ a o, x = .ref a ∧ NGet w H a y o ∧ Q (.bl (!o.isSome)) H
theorem op_nnin {X : Cx} (hu : X.A.units + 20 < cLine) : OpR X (compareOp .NotIn) (rNNin X.w) := by
  rintro pins s σ H y x u xv Q I ry rx ⟨a, o, rfl, g, q⟩
  obtain rfl : xv = Value.ref a := rx
  show wpAny _ _ (do return Value.bool (!(← contains (.ref a) u))) _ _ s
  exact wpAny_bind (n_contains (by omega) I g ry fun s' I' => wpAny_pure ⟨.bl (!o.isSome), H, I', rfl, q⟩)
/-- isinstance(x, T), x any value known so far, or a dict whose keys are None or tuples -/
def rIsiN (K : PySem.W.Frag) (w : World) : List V → Hp → VK → Prop := fun vs H Q => rIsi K vs H Q ∨ ∃ (a : Addr) (xs : List XEnt) (n : String) (b : Bool), vs = [.ref a, .ty n] ∧ Rd H a (DkO w a xs) ∧ kitB "dict" n = some b ∧ Q (.bl b) H
theorem call_isiN {X : Cx} : CallR X (.builtin "isinstance") (rIsiN X.K X.w) := by
  rintro pins s σ H vs us Q I r (h | ⟨a, xs, n, b, rfl, e, hk, q⟩)
  · exact call_isi pins s σ H vs us Q I r h
  · obtain ⟨u1, u2, rfl, r1, r2⟩ := vals2 r
    obtain rfl : u1 = .ref a := r1
    obtain rfl : u2 = .type n := r2
    obtain ⟨hs, z, es, ep, ⟨o, ho, hx, _⟩, _⟩ := raw_n I e
    exact PySem.W.kia_one PySem.W.kitx_dict I.kIn ⟨o, ho, hx.1⟩ (kit_ty hk) (fun z => nomatch z) fun tk => ⟨.bl b, H, I.tok tk, rfl, q⟩
theorem ev_isiN {K : PySem.W.Frag} {w : World} {te : TE} {σ : L2.St} {H : Hp} {a : Addr} {xs : List XEnt} {n : String} {b : Bool} (h : Evl.Ev te σ H (.ref a)) (hd : Rd H a (DkO w a xs)) (hk : kitB "dict" n = some b) : Evl.Ev (tCB (rIsiN K w) (tCons te (tCons (tC (.ty n)) tNil))) σ H (.bl b) := fun H1 e Q q =>
  h H1 e _ fun H2 e2 => .inr ⟨a, xs, n, b, rfl, hd.imp (fun z => (e.trans e2) _ _ z) (fun ⟨o, z⟩ => ⟨o, (e.trans e2) _ _ z⟩), hk, q H2 e2⟩
end Ssb

/-! d.get(k) of a dict whose keys are None and tuples: None where k is not in it. -/
namespace Ssb
open PySem PySem.Spec PyProof.Rows L2
section
variable {X : Cx} {pins : List (Addr × Obj)} {σ : L2.St} {H : Hp} {s : Shared} {a : Addr} {y v : V} {u r : Value} {o : Option V} {A : Around} {E : Value → Shared → Prop}
theorem n_get1 {Q : Value → Shared → Prop} (hu : A.units + 10 < cLine) (I : L2.Inv X pins σ H s) (g : NGet X.w H a y o) (ry : RelV y u) (h : ∀ z s', L2.Inv X pins σ H s' → RelV (o.getD .non) z → Q z s') :
    wpAny (model X.prog X.w) A (call (.builtin "dict.get") [.ref a, u]) Q E s := by
  obtain ⟨ty1, _, hd1⟩ := ng_at I g
  refine call_meetsIn PySem.F.slot_dict_get ty1 PySem.F.entry_dict_get (PySem.F.args_dict_get_2 _ _) (S := fun B R t => B = A ∧ t = s ∧ ∀ z t2, L2.Inv X pins σ H t2 → RelV (o.getD .non) z → R (.ok (.ret z)) t2) (.of_wp fun B R t hS => ?_) ⟨rfl, rfl, fun z t2 I2 r2 => h z t2 I2 r2⟩
  obtain ⟨rfl, rfl, hq⟩ := hS
  show wpAny _ _ (dictGet a u >>= _) _ _ _
  refine wpAny_bind (ng_get (by show B.units + 1 + 8 < cLine; omega) I g ry fun p t2 I2 rp => ?_)
  cases o with
  | some v =>
    cases p with
    | some z => exact wpAny_pure ⟨z, rfl, hq z t2 I2 rp⟩
    | none => exact rp.elim
  | none =>
    cases p with
    | some z => exact rp.elim
    | none => exact wpAny_bind (wpAny_missed_other hd1 (wpAny_pure ⟨.none, rfl, hq .none t2 I2 rfl⟩))
end
def tNGet1 (w : World) (to : TE) (t : TA) : TE := fun σ H Q => to σ H fun x H1 => (∃ a, x = .ref a ∧ ∃ xs, Rd H1 a (DkO w a xs) ∧ Keys H1 xs) ∧ t σ H1 fun xs H2 => ∃ a y o, x = .ref a ∧ xs = [y] ∧ NGet w H2 a y o ∧ Q (o.getD .non) H2
section
variable {X : Cx} {o e : Expr} {es : List Expr} {to : TE} {t : TA} {apos cpos : Pos}
theorem pe_nget1 (hu : X.A.units + 20 < cLine) (ho : PE X o to) (ha : PA X (e :: es) t)
    (hbase : attributeBase o "get" X.env (eval o X.env) = eval o X.env := by rfl)
    (hfew : ((backTo cpos (starEach (e :: es) X.env)).all (fun z => !z.1) && (backToKw cpos (keywordEach [] X.env)).all (fun z => z.1.isSome)
      && decide ((e :: es).length + ([] : List Keyword).length + (if ([] : List Keyword).isEmpty then 0 else 1) < 30)) = true := by rfl)
    (hline : (apos.endLine == cpos.line) = true := by rfl) (hs : starEach (e :: es) X.env = (false, eval e X.env) :: starEach es X.env := by rfl) (hplain : (backTo cpos (starEach es X.env)).any (·.1) = false := by rfl) :
    PE X (.Call (.Attribute o "get" apos) (e :: es) [] cpos) (tNGet1 X.w to t) := by
  refine ⟨fun pins s σ H Q I h => ?_⟩
  refine wpAny_Call_method_late hbase hfew hline rfl (thn (ho.run pins s σ H _ I h) fun v s1 ⟨x, H1, I1, r1, ⟨a, ex, xs, hd, hk⟩, q1⟩ => ?_)
  cases ex
  obtain rfl : v = Value.ref a := r1
  obtain ⟨_, hm, ys, nd, _⟩ := dn_of I1.hok hk hd
  refine ⟨"dict", "dict.get", PySem.F.plainAttrs_dict, PySem.F.slot_dict_get, PySem.F.type_dict_get, nd.typeIs, fun b e2 => ?_, ?_⟩
  · cases e2
    obtain ⟨ob, _, _, g1, g2, _⟩ := nd
    exact ⟨ob, g1, g2.2.1⟩
  have hA := ha.run cpos pins s1 σ H1 _ I1 q1
  rw [hs] at hA ⊢
  refine Calls.callWith_builtin ?_ (Calls.evalArgs_plain ?_)
  · show (false || (backTo cpos (starEach es X.env)).any (·.1)) = false
    rw [hplain] <;> rfl
  · refine thn hA fun us s2 ⟨vs, H2, I2, r2, ⟨b, y, o2, eb, ey, g, q2⟩⟩ => ?_
    cases eb
    cases ey
    cases r2 with
    | cons ry r2 =>
    cases r2
    exact n_get1 (by omega) I2 g ry fun z s' I' rz => ⟨_, H2, I', rz, q2⟩
end
end Ssb

/-! try: .. except C0: .. except C as e: .. (C0 does not fit; e is not kept behind the suite). -/
namespace Ssb
open PySem PySem.Spec L2 PyProof.Rows
section
variable {X : Cx} {x0 x n : Str} {c0 c : Value} {i : Nat} {body suite suite0 : List Stmt} {b0 b₀ : Stmt} {np0 np pos pos0 pos' : Pos} {tb : WX → TS} {ts : Addr → Value → Option Addr → TS} {Wout : WX}
/-- the first clause is asked and does not fit -/
def wSkp (K : PySem.W.Frag) (c0 : Value) (W : WX) : WX := fun cls d σ H => PySem.W.exmOne K cls c0 = some false ∧ W cls d σ H
theorem ps_try_as2 (hs : X.stack = X.env :: X.outer) (hf : X.env.frame = some X.env.locals) (hN : X.N.Nodup) (hi : X.N[i]? = some n) (hln : X.env.kindOf n = some .local) (hc0 : Names X x0 c0) (hc : Names X x c) (tk : Takes X Wout)
    (hb : ∀ (W : WX) (pn : List (Addr × Obj)) (xe : Value → Shared → Prop), Takes (X.tr pn xe) W → PassesOwn (model X.prog X.w) X.A X.env xe → PSs (X.tr pn xe) body (tb W))
    (hsu : ∀ (a : Addr) (oe : Obj) (cls : Value) (d : Option Addr) (pn : List (Addr × Obj)), Zc cls d oe → (∃ vs, oe.data = .fields vs) → PSs (X.suite a ((a, oe) :: pn)) (b₀ :: suite) (ts a cls d)) :
    PS X (.Try body [.ExceptHandler (some (.Name x0 np0)) none (b0 :: suite0) pos0, .ExceptHandler (some (.Name x np)) (some n) (b₀ :: suite) pos'] [] [] pos) (fun D σ H => tb (wSkp X.K c0 (wAs X.K c i ts Wout D)) D σ H) := by
  refine ⟨fun pins s σ H D I h => ?_⟩
  have ok := I.ok
  have fr0 : X.A.frames = some (X.env :: X.outer) := by rw [ok.frames, hs]
  refine wpAny_Try_except (wpAny_mono ((hb (wSkp X.K c0 (wAs X.K c i ts Wout D)) (X.pn ++ pins) (fun e s₁ => wpAny (model X.prog X.w) X.A (noteFrame e X.env) (fun _ s₂ => wpAny (model X.prog X.w) X.A (setFlight e none) (fun _ s₃ => wpAny (model X.prog X.w) X.A (handleBy e X.env [.ExceptHandler (some (.Name x0 np0)) none (b0 :: suite0) pos0, .ExceptHandler (some (.Name x np)) (some n) (b₀ :: suite) pos']) (SP X pins D) X.xe s₃) X.xe s₂) X.xe s₁) (fun u s' xx => ?_) PassesOwn.looking).run [] s σ H D (I.toTry _) h) (fun f s1 hsp => ?_) (fun e s1 he => he))
  · obtain ⟨a, B, sI, pins', σ1, HH, cls, d, rfl, J0, nb, up, sky, na, os, ag, hb0, b, hb1, hyes, hno⟩ := xx
    have J : Inv X pins σ1 HH sI := J0.ofTry ok
    rw [show (X.tr (X.pn ++ pins) _).stack = X.env :: X.outer from hs] at sky
    refine Sky.land Zc.steady fr0 hf sky fun h3 fl3 up3 => ?_
    have J3 : Inv X pins σ1 HH { s' with heap := h3 } := J.landed nb fl3.1 (up.trans up3) os ag
    obtain ⟨oe3, vs3, he3, hz3, hd3⟩ := fl3.there
    have nfr : a ∉ frs (X.env :: X.outer) := fun hm => by
      obtain ⟨_, o', e', hnf⟩ := fl3.2.2.1.mem hm
      rw [he3] at e'; cases e'; exact hnf _ hd3
    have nL : a ≠ X.env.locals := fun z => nfr (List.mem_filterMap.mpr ⟨X.env, List.mem_cons_self, (by rw [hf, z])⟩)
    have nF : a ∉ X.fs := fun hm => (List.mem_filterMap.mp hm).elim fun e he => nfr (List.mem_filterMap.mpr ⟨e, List.mem_cons_of_mem _ he.1, he.2⟩)
    have young : sI.heap.get? a = none := by
      cases hg : sI.heap.get? a with
      | none => rfl
      | some o =>
        have := nb a o hg (by rw [show (X.tr (X.pn ++ pins) _).stack = X.env :: X.outer from hs]; exact nfr)
        rw [fl3.2.1] at this; cases this
    have n0 : ∀ b o, X.s_0.heap.get? b = some o → b ∉ X.ex → b ≠ a := fun b o q hx z => by
      obtain ⟨o', h'⟩ := J.base.there b o q hx
      rw [z, young] at h'; cases h'
    have np0 : ∀ p ∈ X.pn ++ pins, p.1 ≠ a := fun p hp z => by
      have := (J.pin p hp).1
      rw [z, young] at this; cases this
    have S3 := J3.suite he3 hd3 na nL nF
    have looks : PySem.W.Looks (model X.prog X.w) h3 (typeOf (.ref a)) cls := fun A Q E s k q => wpAny_typeOf_ref (k _ _ he3) (by rw [hz3.1]; exact q)
    have LM := PySem.W.exm_one (M := model X.prog X.w) J3.kIn looks hb1
    have LM0 := PySem.W.exm_one (M := model X.prog X.w) J3.kIn looks hb0
    have ask : ∀ {y : Str} {cy : Value} {npy : Pos}, Names X y cy → ∀ {Q : Value → Shared → Prop} {E : Value → Shared → Prop}, Q cy { s' with heap := h3 } → wpAny (model X.prog X.w) (X.A.mark (some (.ref a))) (eval (.Name y npy) X.env) Q E { s' with heap := h3 } := fun {y cy npy} hy {Q E} q => by
      obtain ⟨hg, hdb, hm | ⟨hm, hv, hnn⟩⟩ := hy
      · exact ld_glob S3 hg hm q hdb
      · exact ld_blt S3 hg hm hv q hnn hdb
    refine wpAny_handleBy_cons (codeAny_handlers_test (ask hc0 (LM0.here ?_))) (by intro q; cases q)
    show wpAny _ X.A (handleBy (.ref a) X.env [.ExceptHandler (some (.Name x np)) (some n) (b₀ :: suite) pos']) _ _ _
    refine wpAny_handleBy_cons (codeAny_handlers_test (ask hc (LM.here ?_))) (by intro q; cases q)
    cases b with
    | true =>
      refine codeAny_handlers_suite_as (HandSPX.lands_againZ fl3 fun h4 fl4 up4 => ?_)
      have J4 : Inv X pins σ1 HH { s' with heap := h4 } := J.landed nb fl4.1 ((up.trans up3).trans up4) os ag
      obtain ⟨oe4, vs4, he4, hz4, hd4⟩ := fl4.there
      refine store_ok (X := X.suite a ((a, oe4) :: (X.pn ++ pins))) (v := .ref a) (J4.suite he4 hd4 na nL nF) hN hi (.inl hln) rfl (fun s5 S5 => ?_) (.inr hln)
      refine wpAny_mono ((hsu a oe4 cls d (X.pn ++ pins) hz4 ⟨_, hd4⟩).run [] s5 _ HH _ S5 (hyes rfl a na)) (fun f s6 hsp => ?_) (fun _ _ z => False.elim z)
      have fin : ∀ {σ6 : L2.St} {H6 : Hp} {Q : Shared → Prop}, Inv (X.suite a ((a, oe4) :: (X.pn ++ pins))) [] σ6 H6 s6 → (∀ s7, Inv X pins (σ6.set i none) H6 s7 → Q s7) →
          wpAny (model X.prog X.w) X.A (do bindName X.env n .none; unbindBehindTheSuite X.env n pos') (fun _ s7 => Q s7) X.xe s6 := fun {σ6 H6 Q} S6 hq => gone_ok (S6.unsuite ok) hN hi hln hq
      cases f with
      | ret u => obtain ⟨v6, σ6, H6, S6, r6, q6⟩ := hsp; exact fin S6 fun s7 J7 => ⟨_, _, _, J7, r6, q6⟩
      | next => obtain ⟨σ6, H6, S6, q6⟩ := hsp; exact fin S6 fun s7 J7 => ⟨_, _, J7, q6⟩
      | brk => obtain ⟨σ6, H6, S6, q6⟩ := hsp; exact fin S6 fun s7 J7 => ⟨_, _, J7, q6⟩
      | cont => obtain ⟨σ6, H6, S6, q6⟩ := hsp; exact fin S6 fun s7 J7 => ⟨_, _, J7, q6⟩
    | false =>
      show wpAny _ X.A (handleBy (.ref a) X.env []) _ _ _
      obtain ⟨k1, k2, k3, oe, vs, T, oT, ts', he, hz, hd, h1, hr⟩ := id fl3
      refine wpAny_handleBy_nil ?_
      unfold PySem.passOn
      refine wpAny_bind (wpAny_field he hd h1 ?_)
      rw [if_neg (show ¬ ((Value.ref T == Value.none) = true) by simp)]
      have go : wpAny (model X.prog X.w) X.A (setFlight (.ref a) X.env.frame) (fun _ s4 => wpAny (model X.prog X.w) X.A (throw (.ref a) : Sem Flow) (SP X pins D) X.xe s4) X.xe { s' with heap := h3 } := by
        rw [hf]
        exact HandSPX.setFlight_upZ fl3 fun h4 hh4 up4 => wpAny_throw (tk _ _ ⟨a, B, sI, pins, σ1, HH, cls, d, rfl, J, nb, (up.trans up3).trans up4, .inr (.inr (by rw [hs]; exact hh4)), na, os, ag, hno rfl⟩)
      first
        | exact wpAny_bind go
        | exact wpAny_bind (wpAny_pure (wpAny_bind go))
  · cases f with
    | ret u => obtain ⟨v, σ1, HH, J, r, q⟩ := hsp; exact ⟨v, σ1, HH, J.ofTry ok, r, q⟩
    | next => obtain ⟨σ1, HH, J, q⟩ := hsp; exact wpAny_execs_nil ⟨σ1, HH, J.ofTry ok, q⟩
    | brk => obtain ⟨σ1, HH, J, q⟩ := hsp; exact ⟨σ1, HH, J.ofTry ok, q⟩
    | cont => obtain ⟨σ1, HH, J, q⟩ := hsp; exact ⟨σ1, HH, J.ofTry ok, q⟩
end
end Ssb

/-! try: .. except C1 as e: .. except C2 as e: .. except C0: .. (one of the first two fits). -/
namespace Ssb
open PySem PySem.Spec L2 PyProof.Rows
section
variable {X : Cx} {x0 x1 x n : Str} {c1 c : Value} {i : Nat} {body suite suite1 suite0 : List Stmt} {b0 b₀ b₁ : Stmt} {nq0 np1 np pos pos0 pos1 pos' : Pos} {tb : WX → TS} {ts ts1 : Addr → Value → Option Addr → TS} {Wout : WX}
/-- the first of two clauses that fits -/
def wTwo (K : PySem.W.Frag) (c1 c : Value) (i : Nat) (ts1 ts : Addr → Value → Option Addr → TS) (D : Ends) : WX := fun cls d σ H => ∃ b, PySem.W.exmOne K cls c1 = some b ∧
  (b = true → ∀ a, H a = none → ts1 a cls d { nx := fun σ' H' => D.nx (σ'.set i none) H', rt := D.rt, bk := fun σ' H' => D.bk (σ'.set i none) H', ct := fun σ' H' => D.ct (σ'.set i none) H' } (σ.set i (some (.ref a))) H) ∧
  (b = false → PySem.W.exmOne K cls c = some true ∧ ∀ a, H a = none → ts a cls d { nx := fun σ' H' => D.nx (σ'.set i none) H', rt := D.rt, bk := fun σ' H' => D.bk (σ'.set i none) H', ct := fun σ' H' => D.ct (σ'.set i none) H' } (σ.set i (some (.ref a))) H)
theorem ps_try_as3 (hs : X.stack = X.env :: X.outer) (hf : X.env.frame = some X.env.locals) (hN : X.N.Nodup) (hi : X.N[i]? = some n) (hln : X.env.kindOf n = some .local) (hc1 : Names X x1 c1) (hc : Names X x c)
    (hb : ∀ (W : WX) (pn : List (Addr × Obj)) (xe : Value → Shared → Prop), Takes (X.tr pn xe) W → PassesOwn (model X.prog X.w) X.A X.env xe → PSs (X.tr pn xe) body (tb W))
    (hsu1 : ∀ (a : Addr) (oe : Obj) (cls : Value) (d : Option Addr) (pn : List (Addr × Obj)), Zc cls d oe → (∃ vs, oe.data = .fields vs) → PSs (X.suite a ((a, oe) :: pn)) (b₁ :: suite1) (ts1 a cls d))
    (hsu : ∀ (a : Addr) (oe : Obj) (cls : Value) (d : Option Addr) (pn : List (Addr × Obj)), Zc cls d oe → (∃ vs, oe.data = .fields vs) → PSs (X.suite a ((a, oe) :: pn)) (b₀ :: suite) (ts a cls d)) :
    PS X (.Try body [.ExceptHandler (some (.Name x1 np1)) (some n) (b₁ :: suite1) pos1, .ExceptHandler (some (.Name x np)) (some n) (b₀ :: suite) pos', .ExceptHandler (some (.Name x0 nq0)) none (b0 :: suite0) pos0] [] [] pos) (fun D σ H => tb (wTwo X.K c1 c i ts1 ts D) D σ H) := by
  refine ⟨fun pins s σ H D I h => ?_⟩
  have ok := I.ok
  have fr0 : X.A.frames = some (X.env :: X.outer) := by rw [ok.frames, hs]
  refine wpAny_Try_except (wpAny_mono ((hb (wTwo X.K c1 c i ts1 ts D) (X.pn ++ pins) (fun e s₁ => wpAny (model X.prog X.w) X.A (noteFrame e X.env) (fun _ s₂ => wpAny (model X.prog X.w) X.A (setFlight e none) (fun _ s₃ => wpAny (model X.prog X.w) X.A (handleBy e X.env [.ExceptHandler (some (.Name x1 np1)) (some n) (b₁ :: suite1) pos1, .ExceptHandler (some (.Name x np)) (some n) (b₀ :: suite) pos', .ExceptHandler (some (.Name x0 nq0)) none (b0 :: suite0) pos0]) (SP X pins D) X.xe s₃) X.xe s₂) X.xe s₁) (fun u s' xx => ?_) PassesOwn.looking).run [] s σ H D (I.toTry _) h) (fun f s1 hsp => ?_) (fun e s1 he => he))
  · obtain ⟨a, B, sI, pins', σ1, HH, cls, d, rfl, J0, nb, up, sky, na, os, ag, b, hb1, hyes, hno⟩ := xx
    have J : Inv X pins σ1 HH sI := J0.ofTry ok
    rw [show (X.tr (X.pn ++ pins) _).stack = X.env :: X.outer from hs] at sky
    refine Sky.land Zc.steady fr0 hf sky fun h3 fl3 up3 => ?_
    have J3 : Inv X pins σ1 HH { s' with heap := h3 } := J.landed nb fl3.1 (up.trans up3) os ag
    obtain ⟨oe3, vs3, he3, hz3, hd3⟩ := fl3.there
    have nfr : a ∉ frs (X.env :: X.outer) := fun hm => by
      obtain ⟨_, o', e', hnf⟩ := fl3.2.2.1.mem hm
      rw [he3] at e'; cases e'; exact hnf _ hd3
    have nL : a ≠ X.env.locals := fun z => nfr (List.mem_filterMap.mpr ⟨X.env, List.mem_cons_self, (by rw [hf, z])⟩)
    have nF : a ∉ X.fs := fun hm => (List.mem_filterMap.mp hm).elim fun e he => nfr (List.mem_filterMap.mpr ⟨e, List.mem_cons_of_mem _ he.1, he.2⟩)
    have young : sI.heap.get? a = none := by
      cases hg : sI.heap.get? a with
      | none => rfl
      | some o =>
        have := nb a o hg (by rw [show (X.tr (X.pn ++ pins) _).stack = X.env :: X.outer from hs]; exact nfr)
        rw [fl3.2.1] at this; cases this
    have n0 : ∀ b o, X.s_0.heap.get? b = some o → b ∉ X.ex → b ≠ a := fun b o q hx z => by
      obtain ⟨o', h'⟩ := J.base.there b o q hx
      rw [z, young] at h'; cases h'
    have np0 : ∀ p ∈ X.pn ++ pins, p.1 ≠ a := fun p hp z => by
      have := (J.pin p hp).1
      rw [z, young] at this; cases this
    have S3 := J3.suite he3 hd3 na nL nF
    have looks : PySem.W.Looks (model X.prog X.w) h3 (typeOf (.ref a)) cls := fun A Q E s k q => wpAny_typeOf_ref (k _ _ he3) (by rw [hz3.1]; exact q)
    have LM := PySem.W.exm_one (M := model X.prog X.w) J3.kIn looks hb1
    have ask : ∀ {y : Str} {cy : Value} {npy : Pos}, Names X y cy → ∀ {Q : Value → Shared → Prop} {E : Value → Shared → Prop}, Q cy { s' with heap := h3 } → wpAny (model X.prog X.w) (X.A.mark (some (.ref a))) (eval (.Name y npy) X.env) Q E { s' with heap := h3 } := fun {y cy npy} hy {Q E} q => by
      obtain ⟨hg, hdb, hm | ⟨hm, hv, hnn⟩⟩ := hy
      · exact ld_glob S3 hg hm q hdb
      · exact ld_blt S3 hg hm hv q hnn hdb
    refine wpAny_handleBy_cons (codeAny_handlers_test (ask hc1 (LM.here ?_))) (by intro q; cases q)
    cases b with
    | true =>
      refine codeAny_handlers_suite_as (HandSPX.lands_againZ fl3 fun h4 fl4 up4 => ?_)
      have J4 : Inv X pins σ1 HH { s' with heap := h4 } := J.landed nb fl4.1 ((up.trans up3).trans up4) os ag
      obtain ⟨oe4, vs4, he4, hz4, hd4⟩ := fl4.there
      refine store_ok (X := X.suite a ((a, oe4) :: (X.pn ++ pins))) (v := .ref a) (J4.suite he4 hd4 na nL nF) hN hi (.inl hln) rfl (fun s5 S5 => ?_) (.inr hln)
      refine wpAny_mono ((hsu1 a oe4 cls d (X.pn ++ pins) hz4 ⟨_, hd4⟩).run [] s5 _ HH _ S5 (hyes rfl a na)) (fun f s6 hsp => ?_) (fun _ _ z => False.elim z)
      have fin : ∀ {σ6 : L2.St} {H6 : Hp} {Q : Shared → Prop}, Inv (X.suite a ((a, oe4) :: (X.pn ++ pins))) [] σ6 H6 s6 → (∀ s7, Inv X pins (σ6.set i none) H6 s7 → Q s7) →
          wpAny (model X.prog X.w) X.A (do bindName X.env n .none; unbindBehindTheSuite X.env n pos1) (fun _ s7 => Q s7) X.xe s6 := fun {σ6 H6 Q} S6 hq => gone_ok (S6.unsuite ok) hN hi hln hq
      cases f with
      | ret u => obtain ⟨v6, σ6, H6, S6, r6, q6⟩ := hsp; exact fin S6 fun s7 J7 => ⟨_, _, _, J7, r6, q6⟩
      | next => obtain ⟨σ6, H6, S6, q6⟩ := hsp; exact fin S6 fun s7 J7 => ⟨_, _, J7, q6⟩
      | brk => obtain ⟨σ6, H6, S6, q6⟩ := hsp; exact fin S6 fun s7 J7 => ⟨_, _, J7, q6⟩
      | cont => obtain ⟨σ6, H6, S6, q6⟩ := hsp; exact fin S6 fun s7 J7 => ⟨_, _, J7, q6⟩
    | false =>
      obtain ⟨hb2, hyes⟩ := hno rfl
      have LM2 := PySem.W.exm_one (M := model X.prog X.w) J3.kIn looks hb2
      show wpAny _ X.A (handleBy (.ref a) X.env [.ExceptHandler (some (.Name x np)) (some n) (b₀ :: suite) pos', .ExceptHandler (some (.Name x0 nq0)) none (b0 :: suite0) pos0]) _ _ _
      refine wpAny_handleBy_cons (codeAny_handlers_test (ask hc (LM2.here ?_))) (by intro q; cases q)
      refine codeAny_handlers_suite_as (HandSPX.lands_againZ fl3 fun h4 fl4 up4 => ?_)
      have J4 : Inv X pins σ1 HH { s' with heap := h4 } := J.landed nb fl4.1 ((up.trans up3).trans up4) os ag
      obtain ⟨oe4, vs4, he4, hz4, hd4⟩ := fl4.there
      refine store_ok (X := X.suite a ((a, oe4) :: (X.pn ++ pins))) (v := .ref a) (J4.suite he4 hd4 na nL nF) hN hi (.inl hln) rfl (fun s5 S5 => ?_) (.inr hln)
      refine wpAny_mono ((hsu a oe4 cls d (X.pn ++ pins) hz4 ⟨_, hd4⟩).run [] s5 _ HH _ S5 (hyes a na)) (fun f s6 hsp => ?_) (fun _ _ z => False.elim z)
      have fin : ∀ {σ6 : L2.St} {H6 : Hp} {Q : Shared → Prop}, Inv (X.suite a ((a, oe4) :: (X.pn ++ pins))) [] σ6 H6 s6 → (∀ s7, Inv X pins (σ6.set i none) H6 s7 → Q s7) →
          wpAny (model X.prog X.w) X.A (do bindName X.env n .none; unbindBehindTheSuite X.env n pos') (fun _ s7 => Q s7) X.xe s6 := fun {σ6 H6 Q} S6 hq => gone_ok (S6.unsuite ok) hN hi hln hq
      cases f with
      | ret u => obtain ⟨v6, σ6, H6, S6, r6, q6⟩ := hsp; exact fin S6 fun s7 J7 => ⟨_, _, _, J7, r6, q6⟩
      | next => obtain ⟨σ6, H6, S6, q6⟩ := hsp; exact fin S6 fun s7 J7 => ⟨_, _, J7, q6⟩
      | brk => obtain ⟨σ6, H6, S6, q6⟩ := hsp; exact fin S6 fun s7 J7 => ⟨_, _, J7, q6⟩
      | cont => obtain ⟨σ6, H6, S6, q6⟩ := hsp; exact fin S6 fun s7 J7 => ⟨_, _, J7, q6⟩
  · cases f with
    | ret u => obtain ⟨v, σ1, HH, J, r, q⟩ := hsp; exact ⟨v, σ1, HH, J.ofTry ok, r, q⟩
    | next => obtain ⟨σ1, HH, J, q⟩ := hsp; exact wpAny_execs_nil ⟨σ1, HH, J.ofTry ok, q⟩
    | brk => obtain ⟨σ1, HH, J, q⟩ := hsp; exact ⟨σ1, HH, J.ofTry ok, q⟩
    | cont => obtain ⟨σ1, HH, J, q⟩ := hsp; exact ⟨σ1, HH, J.ofTry ok, q⟩
end
end Ssb

/-! == and != of deep data that are alike: lists, tuples and dicts in one another. -/
namespace Ssb
open PySem PySem.Spec PyProof.Rows L2 PySem.SeqAt PySem.AutoSeq1
/-- names of a dict are different, all the way down -/
def kN : Nat → D → Prop
  | n + 1, .lst l => ∀ x ∈ l, kN n x
  | n + 1, .tup l => ∀ x ∈ l, kN n x
  | n + 1, .dic l => (l.map (·.1)).Nodup ∧ ∀ p ∈ l, kN n p.2
  | _, _ => True
theorem keys_pr {F : D → V → Prop} : ∀ {l : List (Str × D)} {es : List (Key × V)}, Paired (fun (q : Str × D) (e : Key × V) => e.1 = Sum.inr q.1 ∧ F q.2 e.2) l es → es.map (·.1) = (l.map (·.1)).map Sum.inr
  | _, _, .nil => rfl
  | _, _, .cons h t => by rw [List.map_cons, List.map_cons, List.map_cons, keys_pr t, h.1]
theorem val_mem {es : List (Key × V)} {k : Key} {v : V} (nd : (es.map (·.1)).Nodup) (h : (k, v) ∈ es) : valV es k = some v := by
  induction es with
  | nil => cases h
  | cons e es ih =>
    rw [List.map_cons, List.nodup_cons] at nd
    rw [vV_cons]
    rcases List.mem_cons.mp h with h | h
    · rw [← h, if_pos rfl]
    · rw [if_neg fun z => nd.1 (List.mem_map.mpr ⟨_, h, z.symm⟩)]
      exact ih nd.2 h
theorem all_tt {n : Nat} : ((List.range n).all fun _ => true) = true := List.all_eq_true.mpr fun _ _ => rfl
theorem vals_i {xs : List V} {us : List Value} (r : Vals xs us) {j : Nat} (h : j < us.length) : ∃ x, xs[j]? = some x ∧ RelV x us[j] := by
  induction r generalizing j with
  | nil => exact absurd h (Nat.not_lt_zero j)
  | cons a b ih =>
    cases j with
    | zero => exact ⟨_, rfl, a⟩
    | succ j => exact ih (Nat.lt_of_succ_lt_succ h)
section
variable {X : Cx} {pins : List (Addr × Obj)} {σ : L2.St} {H : Hp} {s : Shared}
theorem eqT_leaf {n : Nat} {x : V} {v u : Value} (f : flatV x = true) (e : eqV x x = true) (rx : RelV x v) (ry : RelV x u) : PySem.W.EqTree X.prog X.w s n v u true := by
  rw [← e]; exact .leaf fun A hu => eqAt_V rx ry f f
theorem kv_in {κ : Type} {ks : List (κ × V)} {va : List (κ × Value)} (ra : KV ks va) : ∀ {k : κ} {v : Value}, (k, v) ∈ va → ∃ x, (k, x) ∈ ks ∧ RelV x v := by
  unfold KV at ra
  induction ra with
  | nil => intro k v h; exact nomatch h
  | @cons p q ps qs h t ih =>
    intro k v hm
    rcases List.mem_cons.mp hm with hm | hm
    · refine ⟨p.2, ?_, ?_⟩
      · have : p.1 = k := by rw [h.1, ← hm]
        rw [← this]; exact List.mem_cons_self
      · rw [← hm] at h; exact h.2
    · obtain ⟨x, h1, h2⟩ := ih hm
      exact ⟨x, List.mem_cons_of_mem _ h1, h2⟩
theorem items_T {F : D → V → V → Prop} {n : Nat} {l : List D} {xs ys : List V} {us ws : List Value} {F1 F2 : D → V → Prop} (p1 : Paired F1 l xs) (p2 : Paired F2 l ys) (r1 : Vals xs us) (r2 : Vals ys ws)
    (ih : ∀ d ∈ l, ∀ x y v u, F1 d x → F2 d y → RelV x v → RelV y u → PySem.W.EqTree X.prog X.w s n v u true) : us.toArray.size = ws.toArray.size ∧ ∀ j (h1 : j < us.toArray.size) (h2 : j < ws.toArray.size), PySem.W.EqTree X.prog X.w s n us.toArray[j] ws.toArray[j] true := by
  refine ⟨by rw [List.size_toArray, List.size_toArray, ← r1.length, ← r2.length, ← pair_len p1, ← pair_len p2], fun j h1 h2 => ?_⟩
  obtain ⟨x, hx, rx⟩ := vals_i r1 (j := j) (by simpa using h1)
  obtain ⟨y, hy, ry⟩ := vals_i r2 (j := j) (by simpa using h2)
  obtain ⟨d1, hd1, q1⟩ := pair_back p1 hx
  obtain ⟨d2, hd2, q2⟩ := pair_back p2 hy
  rw [hd1] at hd2; cases hd2
  have := ih _ (List.mem_of_getElem? hd1) _ _ _ _ q1 q2 rx ry
  simpa using this
theorem dic_T {n : Nat} {l : List (Str × D)} {ks ls : List (Key × V)} {va vb : List (Key × Value)} {F1 F2 : D → V → Prop} (pr : Paired (fun (q : Str × D) (e : Key × V) => e.1 = Sum.inr q.1 ∧ F1 q.2 e.2) l ks) (pr' : Paired (fun (q : Str × D) (e : Key × V) => e.1 = Sum.inr q.1 ∧ F2 q.2 e.2) l ls)
    (ra : KV ks va) (rb : KV ls vb) (nd : (l.map (·.1)).Nodup) (ih : ∀ p ∈ l, ∀ x y v u, F1 p.2 x → F2 p.2 y → RelV x v → RelV y u → PySem.W.EqTree X.prog X.w s n v u true) :
    (va.length == vb.length && va.all fun p => (valueAt vb p.1).isSome && (fun _ => true) p.1) = true ∧ ∀ k v y, (k, v) ∈ va → valueAt vb k = some y → PySem.W.EqTree X.prog X.w s n v y true := by
  have k2 := keys_pr pr'
  have nd : ((l.map (·.1)).map (Sum.inr : Str → Key)).Nodup := List.Pairwise.map _ (fun a b h z => h (Sum.inr.inj z)) nd
  have there : ∀ {k : Key} {v : Value}, (k, v) ∈ va → ∃ (i : Nat) (q : Str × D) (x y : V), l[i]? = some q ∧ k = Sum.inr q.1 ∧ RelV x v ∧ F1 q.2 x ∧ valV ls k = some y ∧ F2 q.2 y := by
    intro k v hm
    obtain ⟨x, hx, rx⟩ := kv_in ra hm
    obtain ⟨i, hi⟩ := List.getElem?_of_mem hx
    obtain ⟨q, hq, e1, q1⟩ := pair_back pr hi
    obtain ⟨⟨k', y⟩, hy, e2, q2⟩ := pair_at pr' hq
    have e1 : k = Sum.inr q.1 := e1
    have e2 : k' = Sum.inr q.1 := e2
    refine ⟨i, q, x, y, hq, e1, rx, q1, ?_, q2⟩
    rw [e1, ← e2]
    exact val_mem (by rw [k2]; exact nd) (List.mem_of_getElem? hy)
  refine ⟨?_, fun k v y hm hv => ?_⟩
  · have : va.length = vb.length := by rw [← ra.length, ← rb.length, ← pair_len pr, ← pair_len pr']
    rw [this, beq_self_eq_true, Bool.true_and]
    refine List.all_eq_true.mpr fun p hp => ?_
    obtain ⟨i, q, x, y, _, _, _, _, hy, _⟩ := there (k := p.1) (v := p.2) hp
    have := rb.val p.1
    rw [hy] at this
    cases hv : valueAt vb p.1 with
    | none => rw [hv] at this; exact this.elim
    | some u => rfl
  · obtain ⟨i, q, x, y', hq, _, rx, q1, hy, q2⟩ := there hm
    have := rb.val k
    rw [hv, hy] at this
    exact ih _ (List.mem_of_getElem? hq) _ _ _ _ q1 q2 rx this
theorem eqT_rep (I : Inv X pins σ H s) : ∀ {n m1 m2 : Nat} {S1 S2 : Addr → Prop} {d : D} {x y : V} {v u : Value}, Rep H m1 S1 d x → Rep H m2 S2 d y → m1 ≤ n → kN n d → RelV x v → RelV y u → PySem.W.EqTree X.prog X.w s n v u true := by
  intro n
  induction n with
  | zero =>
    intro m1 m2 S1 S2 d x y v u h1 h2 hn
    have : m1 = 0 := by omega
    subst this; exact h1.elim
  | succ n ih =>
    intro m1 m2 S1 S2 d x y v u h1 h2 hn hk rx ry
    cases m1 with
    | zero => exact h1.elim
    | succ m1 =>
    cases m2 with
    | zero => exact h2.elim
    | succ m2 =>
    cases d with
    | non => rw [show x = .non from h1] at rx; rw [show y = .non from h2] at ry; exact eqT_leaf (X := X) (x := .non) rfl rfl rx ry
    | bl b => rw [show x = .bl b from h1] at rx; rw [show y = .bl b from h2] at ry; exact eqT_leaf (X := X) (x := .bl b) rfl (by simp [eqV]) rx ry
    | int i => rw [show x = .int i from h1] at rx; rw [show y = .int i from h2] at ry; exact eqT_leaf (X := X) (x := .int i) rfl (by simp [eqV]) rx ry
    | str t => rw [show x = .str t from h1] at rx; rw [show y = .str t from h2] at ry; exact eqT_leaf (X := X) (x := .str t) rfl (by simp [eqV]) rx ry
    | lst l =>
      obtain ⟨a, xs, rfl, _, ha, _, pr⟩ := h1
      obtain ⟨c, ys, rfl, _, hc, _, pr'⟩ := h2
      cases rx; cases ry
      by_cases e : a = c
      · subst e; exact .same
      obtain ⟨us, r1, p1, _⟩ := I.list (Evl.sq_of ha)
      obtain ⟨ws, r2, p2, _⟩ := I.list (Evl.sq_of hc)
      obtain ⟨sz, it⟩ := items_T (F := fun _ _ _ => True) pr pr' r1 r2 fun d hd x y v u q1 q2 rx ry => ih q1 q2 (by omega) (hk d hd) rx ry
      rw [← all_tt (n := us.toArray.size)]
      exact .lists e p1.isList p2.isList sz it
    | tup l =>
      obtain ⟨a, xs, rfl, ha, _, pr⟩ := h1
      obtain ⟨c, ys, rfl, hc, _, pr'⟩ := h2
      cases rx; cases ry
      by_cases e : a = c
      · subst e; exact .same
      obtain ⟨us, r1, p1, _⟩ := I.tuple (Evl.st_of ha)
      obtain ⟨ws, r2, p2, _⟩ := I.tuple (Evl.st_of hc)
      obtain ⟨sz, it⟩ := items_T (F := fun _ _ _ => True) pr pr' r1 r2 fun d hd x y v u q1 q2 rx ry => ih q1 q2 (by omega) (hk d hd) rx ry
      have et : ((List.range (min us.toArray.size ws.toArray.size)).all (fun _ => true) && us.toArray.size == ws.toArray.size) = true := by rw [all_tt, sz]; simp
      rw [← et]
      exact .tuples e p1 p2 it
    | dic l =>
      obtain ⟨a, ks, rfl, _, ha, _, pr⟩ := h1
      obtain ⟨c, ls, rfl, _, hc, _, pr'⟩ := h2
      cases rx; cases ry
      by_cases e : a = c
      · subst e; exact .same
      obtain ⟨_, ya, va, ra, da⟩ := (show ObjOk X.prog X.w H s.heap a (.dK ks) from I.hok a _ ha)
      obtain ⟨_, yb, vb, rb, db⟩ := (show ObjOk X.prog X.w H s.heap c (.dK ls) from I.hok c _ hc)
      obtain ⟨et, it⟩ := dic_T pr pr' ra rb hk.1 fun p hp x y v u q1 q2 rx ry => ih q1 q2 (by omega) (hk.2 p hp) rx ry
      rw [← et]
      exact .dicts (knd := mixKind X.prog X.w) (e := fun _ => true) e ya yb da db it
end
/-- two tuples that are alike, by != -/
theorem ne_like {prog : Program} {w : World} (l b : Addr) (us ws : Array Value) (n m : Nat) (d d2 : Option Addr) (t t2 : Array (Option Value)) (sz : us.size = ws.size) :
    MeetsIn prog w (Builtin.«tuple.__ne__» ⟨[.ref l, .ref b], []⟩) (fun A R s => s.heap.get? l = some ⟨.type "tuple", d, .seq us n, t⟩ ∧ s.heap.get? b = some ⟨.type "tuple", d2, .seq ws m, t2⟩ ∧ (∀ p ∈ us.toList.zip ws.toList, EqIn prog w A.in1 s p.1 p.2 true) ∧ R (.ok (.ret (.bool false))) s) :=
  .of_wp fun A R s h => by
    obtain ⟨H, c1, c2, c3, c4⟩ := s
    obtain ⟨hl, hb, hq, hr⟩ := h
    have f2 := AutoSeq1.sub_tuple_tuple
    wp_walk using wpAny_loadPart' hl, wpAny_loadPart' hb, wpAny_forIn_list _ (fun rest b s' => b.1 = none ∧ s' = ⟨H, c1, c2, c3, c4⟩ ∧ ∀ p ∈ rest, EqIn prog w A.in1 ⟨H, c1, c2, c3, c4⟩ p.1 p.2 true) _
    case turn =>
      rintro ⟨y, x⟩ rest b s' ⟨_, rfl, hp⟩
      refine wpAny_bind (hp _ List.mem_cons_self _ _ ?_)
      wp_walk
      exact ⟨rfl, rfl, fun p h => hp p (List.mem_cons_of_mem _ h)⟩
    case fin =>
      rintro ⟨b1, b2⟩ s' ⟨hb', rfl, _⟩
      cases (show b1 = none from hb')
      wp_walk
      exact ⟨_, rfl, by simpa [Builtin.Tuple.tupleCompareSizes, bne, sz] using hr⟩
    case h => exact ⟨rfl, rfl, hq⟩
section
variable {X : Cx}
/-- a != b, two tuples of the same data -/
def rNeT : R2 := fun x y H Q => ∃ (m1 m2 : Nat) (S1 S2 : Addr → Prop) (l : List D), m1 ≤ 50 ∧ Rep H m1 S1 (.tup l) x ∧ Rep H m2 S2 (.tup l) y ∧ kN m1 (.tup l) ∧ Q (.bl false) H
theorem op_neT (hu : X.A.units + 64 < cLine) : OpR X (compareOp .NotEq) rNeT := by
  intro pins s σ H x y v u Q I rx ry h
  obtain ⟨m1, m2, S1, S2, l, hm, h1, h2, hk, q⟩ := h
  cases m1 with
  | zero => exact h1.elim
  | succ m1 =>
  cases m2 with
  | zero => exact h2.elim
  | succ m2 =>
  obtain ⟨a, xs, rfl, ha, _, pr⟩ := h1
  obtain ⟨c, ys, rfl, hc, _, pr'⟩ := h2
  cases rx; cases ry
  obtain ⟨us, r1, p1, _⟩ := I.tuple (Evl.st_of ha)
  obtain ⟨ws, r2, p2, _⟩ := I.tuple (Evl.st_of hc)
  obtain ⟨sz, it⟩ := items_T (F := fun _ _ _ => True) pr pr' r1 r2 fun d hd x y v u q1 q2 rx ry => eqT_rep I q1 q2 (Nat.le_refl _) (hk d hd) rx ry
  obtain ⟨⟨cls, dd, data, sl⟩, ho, hcl, n, hd⟩ := id p1
  obtain ⟨⟨cls2, dd2, data2, sl2⟩, ho2, hcl2, n2, hd2⟩ := id p2
  simp only at hcl hd hcl2 hd2
  subst hcl hd hcl2 hd2
  refine wpAny_richCompare_same_room (T := "tuple") (op := .NotEq) ⟨_, ho, rfl⟩ ⟨_, ho2, rfl⟩ PySem.F.slot_tuple_ne (call_meetsIn PySem.F.slot_tuple_ne ⟨_, ho, rfl⟩ PySem.F.entry_tuple_ne (PySem.F.args_tuple_ne_2 _ _) (ne_like a c us.toArray ws.toArray n n2 dd dd2 sl sl2 sz) ⟨ho, ho2, fun p hp => ?_, (fun z => nomatch z), ?_⟩) (by omega)
  · obtain ⟨j, hj⟩ := List.getElem?_of_mem hp
    rw [List.getElem?_zip_eq_some] at hj
    obtain ⟨h1, h2⟩ := hj
    obtain ⟨l1, e1⟩ := List.getElem?_eq_some_iff.mp h1
    obtain ⟨l2, e2⟩ := List.getElem?_eq_some_iff.mp h2
    have := (it j (by simpa using l1) (by simpa using l2)).at X.A.in1 (by show X.A.units + 1 + _ < cLine; omega)
    rw [← e1, ← e2]
    simpa using this
  · exact ⟨.bl false, H, I, rfl, q⟩
end
section
variable {X : Cx}
/-- a == b, the same data twice: two dicts or two tuples -/
def rEqT : R2 := fun x y H Q => ∃ (m1 m2 : Nat) (S1 S2 : Addr → Prop) (d : D), m1 ≤ 50 ∧ ((∃ l, d = .tup l) ∨ ∃ l, d = .dic l) ∧ Rep H m1 S1 d x ∧ Rep H m2 S2 d y ∧ kN m1 d ∧ Q (.bl true) H
theorem op_eqT (hu : X.A.units + 64 < cLine) : OpR X (compareOp .Eq) rEqT := by
  intro pins s σ H x y v u Q I rx ry h
  obtain ⟨m1, m2, S1, S2, d, hm, hd, h1, h2, hk, q⟩ := h
  cases m1 with
  | zero => exact h1.elim
  | succ m1 =>
  cases m2 with
  | zero => exact h2.elim
  | succ m2 =>
  rcases hd with ⟨l, rfl⟩ | ⟨l, rfl⟩
  · obtain ⟨a, xs, rfl, ha, _, pr⟩ := h1
    obtain ⟨c, ys, rfl, hc, _, pr'⟩ := h2
    cases rx; cases ry
    obtain ⟨us, r1, p1, _⟩ := I.tuple (Evl.st_of ha)
    obtain ⟨ws, r2, p2, _⟩ := I.tuple (Evl.st_of hc)
    obtain ⟨sz, it⟩ := items_T (F := fun _ _ _ => True) pr pr' r1 r2 fun d hd x y v u q1 q2 rx ry => eqT_rep I q1 q2 (Nat.le_refl _) (hk d hd) rx ry
    have et : ((List.range (min us.toArray.size ws.toArray.size)).all (fun _ => true) && us.toArray.size == ws.toArray.size) = true := by rw [all_tt, sz]; simp
    refine PySem.W.eq_tuplesT (n := m1) p1 p2 it (by omega) ?_
    rw [et]
    exact ⟨.bl true, H, I, rfl, q⟩
  · obtain ⟨a, ks, rfl, _, ha, _, pr⟩ := h1
    obtain ⟨c, ls, rfl, _, hc, _, pr'⟩ := h2
    cases rx; cases ry
    obtain ⟨_, ya, va, ra, da⟩ := (show ObjOk X.prog X.w H s.heap a (.dK ks) from I.hok a _ ha)
    obtain ⟨_, yb, vb, rb, db⟩ := (show ObjOk X.prog X.w H s.heap c (.dK ls) from I.hok c _ hc)
    obtain ⟨et, it⟩ := dic_T pr pr' ra rb hk.1 fun p hp x y v u q1 q2 rx ry => eqT_rep I q1 q2 (Nat.le_refl _) (hk.2 p hp) rx ry
    refine PySem.W.eq_dictsT (knd := mixKind X.prog X.w) (n := m1) (e := fun _ => true) ya yb da db it (by omega) ?_
    rw [et]
    exact ⟨.bl true, H, I, rfl, q⟩
end
end Ssb

/-! == of nested tuples and dicts, either answer; == and != of instances by an own __eq__, either answer. -/
namespace Ssb
open PySem PySem.Spec PyProof.Rows L2
open Evl (Ex Ev EvT EvL EvA EvU)
/-- x == y answers b -/
inductive EqB (K : PySem.W.Frag) (H : Hp) : Nat → V → V → Bool → Prop
  | leaf {n : Nat} {x y : V} : flatV x = true → flatV y = true → EqB K H n x y (eqV x y)
  | same {n : Nat} {a : Addr} : EqB K H n (.ref a) (.ref a) true
  | tups {n : Nat} {a c : Addr} {xs ys : List V} {e : Nat → Bool} : a ≠ c → SqT K H a xs → SqT K H c ys → (∀ (j : Nat) (x y : V), xs[j]? = some x → ys[j]? = some y → EqB K H n x y (e j)) →
      EqB K H (n + 1) (.ref a) (.ref c) ((List.range (min xs.length ys.length)).all e && xs.length == ys.length)
  | dics {n : Nat} {a c : Addr} {ks ls : List (Key × V)} {e : Key → Bool} : a ≠ c → H a = some (.dK ks) → H c = some (.dK ls) → (∀ (k : Key) (x y : V), (k, x) ∈ ks → valV ls k = some y → EqB K H n x y (e k)) →
      EqB K H (n + 1) (.ref a) (.ref c) (ks.length == ls.length && ks.all fun p => (valV ls p.1).isSome && e p.1)
theorem kv_some {κ : Type} [DecidableEq κ] {ls : List (κ × V)} {vb : List (κ × Value)} (rb : KV ls vb) (k : κ) : (valV ls k).isSome = (valueAt vb k).isSome := by
  have := rb.val k
  cases c : valV ls k with
  | none =>
    rw [c] at this
    cases d : valueAt vb k with
    | none => rfl
    | some u => rw [d] at this; exact this.elim
  | some v =>
    rw [c] at this
    cases d : valueAt vb k with
    | none => rw [d] at this; exact this.elim
    | some u => rfl
theorem kv_all {κ : Type} [DecidableEq κ] {ls : List (κ × V)} {vb : List (κ × Value)} (rb : KV ls vb) (e : κ → Bool) {ks : List (κ × V)} {va : List (κ × Value)} (ra : KV ks va) : (ks.all fun p => (valV ls p.1).isSome && e p.1) = va.all fun p => (valueAt vb p.1).isSome && e p.1 := by
  unfold KV at ra
  induction ra with
  | nil => rfl
  | @cons p q ps qs h t ih => rw [List.all_cons, List.all_cons, ih, h.1, kv_some rb]
theorem kv_mem {κ : Type} {ks : List (κ × V)} {va : List (κ × Value)} (ra : KV ks va) : ∀ {k : κ} {v : Value}, (k, v) ∈ va → ∃ x, (k, x) ∈ ks ∧ RelV x v := by
  unfold KV at ra
  induction ra with
  | nil => intro k v h; exact nomatch h
  | @cons p q ps qs h t ih =>
    intro k v hm
    rcases List.mem_cons.mp hm with hm | hm
    · refine ⟨p.2, ?_, ?_⟩
      · have : p.1 = k := by rw [h.1, ← hm]
        rw [← this]; exact List.mem_cons_self
      · rw [← hm] at h; exact h.2
    · obtain ⟨x, h1, h2⟩ := ih hm
      exact ⟨x, List.mem_cons_of_mem _ h1, h2⟩
section
variable {X : Cx} {pins : List (Addr × Obj)} {σ : L2.St} {H : Hp} {s : Shared}
theorem vals_at {xs : List V} {us : List Value} (r : Vals xs us) {j : Nat} (h : j < us.length) : ∃ x, xs[j]? = some x ∧ RelV x us[j] := by
  induction r generalizing j with
  | nil => exact absurd h (Nat.not_lt_zero j)
  | cons a b ih =>
    cases j with
    | zero => exact ⟨_, rfl, a⟩
    | succ j => exact ih (Nat.lt_of_succ_lt_succ h)
theorem eqB_tree (I : Inv X pins σ H s) {n : Nat} {x y : V} {b : Bool} (h : EqB X.K H n x y b) : ∀ {v u : Value}, RelV x v → RelV y u → PySem.W.EqTree X.prog X.w s n v u b := by
  induction h with
  | leaf fx fy => exact fun rx ry => .leaf fun A hu => eqAt_V rx ry fx fy
  | same => exact fun rx ry => by cases rx; cases ry; exact .same
  | @tups n a c xs ys e ne ha hc _ ih =>
    intro v u rx ry
    cases rx; cases ry
    obtain ⟨us, r1, p1, _⟩ := I.tuple ha
    obtain ⟨ws, r2, p2, _⟩ := I.tuple hc
    have e1 : xs.length = us.toArray.size := by rw [List.size_toArray]; exact r1.length
    have e2 : ys.length = ws.toArray.size := by rw [List.size_toArray]; exact r2.length
    rw [e1, e2]
    refine .tuples ne p1 p2 fun j h1 h2 => ?_
    obtain ⟨x, hx, rx⟩ := vals_at r1 (j := j) (by simpa using h1)
    obtain ⟨y, hy, ry⟩ := vals_at r2 (j := j) (by simpa using h2)
    have := ih j x y hx hy rx ry
    simpa using this
  | @dics n a c ks ls e ne ha hc _ ih =>
    intro v u rx ry
    cases rx; cases ry
    obtain ⟨_, ya, va, ra, da⟩ := (show ObjOk X.prog X.w H s.heap a (.dK ks) from I.hok a _ ha)
    obtain ⟨_, yb, vb, rb, db⟩ := (show ObjOk X.prog X.w H s.heap c (.dK ls) from I.hok c _ hc)
    rw [kv_all rb e ra, ra.length, rb.length]
    refine .dicts (knd := mixKind X.prog X.w) ne ya yb da db fun k v y hm hv => ?_
    obtain ⟨x, hx, rx⟩ := kv_mem ra hm
    have := rb.val k
    rw [hv] at this
    cases hy : valV ls k with
    | none => rw [hy] at this; exact this.elim
    | some y' => rw [hy] at this; exact ih k x y' hx hy rx this
end
section
variable {X : Cx}
/-- a == b of two dicts, at the top -/
def rEqQ (K : PySem.W.Frag) : R2 := fun x y H Q => ∃ n a c ks ls, ∃ e : Key → Bool, n ≤ 50 ∧ x = .ref a ∧ y = .ref c ∧ H a = some (.dK ks) ∧ H c = some (.dK ls) ∧ (∀ (k : Key) (x y : V), (k, x) ∈ ks → valV ls k = some y → EqB K H n x y (e k)) ∧
  Q (.bl (ks.length == ls.length && ks.all fun p => (valV ls p.1).isSome && e p.1)) H
theorem op_eqQ (hu : X.A.units + 64 < cLine) : OpR X (compareOp .Eq) (rEqQ X.K) := by
  intro pins s σ H x y v u Q I rx ry h
  obtain ⟨n, a, c, ks, ls, e, hn, rfl, rfl, ha, hc, he, q⟩ := h
  cases rx; cases ry
  obtain ⟨_, ya, va, ra, da⟩ := (show ObjOk X.prog X.w H s.heap a (.dK ks) from I.hok a _ ha)
  obtain ⟨_, yb, vb, rb, db⟩ := (show ObjOk X.prog X.w H s.heap c (.dK ls) from I.hok c _ hc)
  refine PySem.W.eq_dictsT (knd := mixKind X.prog X.w) (n := n) (e := e) ya yb da db (fun k v y hm hv => ?_) (by omega) ?_
  · obtain ⟨x, hx, rx⟩ := kv_mem ra hm
    have := rb.val k
    rw [hv] at this
    cases hy : valV ls k with
    | none => rw [hy] at this; exact this.elim
    | some y' => rw [hy] at this; exact eqB_tree I (he k x y' hx hy) rx this
  · rw [← kv_all rb e ra, ← ra.length, ← rb.length]
    exact ⟨.bl _, H, I, rfl, q⟩
end
end Ssb

/-! == and != of an instance by an own __eq__ (no own __ne__), either answer, with a value of any type on the right. -/
namespace PySem.W
open Builtin PyProof.Rows
section
variable {prog : Program} {w : World} {M : Model} {A : Around} {E : Value → Shared → Prop} {s : Shared} {K : Frag} {x C f : Addr} {ox : Obj} {od : Option Obj}
/-- a built-in bound to it -/
theorem sq_bound {name : Str} {id : String} {args : List Value} {Q : Option Value → Shared → Prop} (X : K.In s.heap) (I : InstAt s.heap x ox C od) (hs : findIn K (.ref C) name = some (some (.builtin id)))
    (hb : ∀ self, bindSpecial (.builtin id) self = pure (.builtin id, [self])) (h : wpAny M A (call (.builtin id) (.ref x :: args)) (fun v => Q (some v)) E s) : wpAny M A (callSpecialIfBound? (.ref x) name args) Q E s := by
  simp only [callSpecialIfBound?, bindSpecialIfBound?]
  refine wpAny_holding (wpAny_bind (wpAny_bind (wpAny_bind (I.type.here ((looks_findIn X hs).here ?_)))))
  refine wpAny_bind (wpAny_askSetting (wpAny_ite ?_))
  have fin : wpAny M A (call (.builtin id) ([.ref x] ++ args) >>= fun v => pure (some v)) Q E s := wpAny_bind (wpAny_mono h (fun v s' h' => wpAny_pure h') fun _ _ h' => h')
  split
  · exact wpAny_bind ((Looks.of_pure (hb _)).here (wpAny_pure (by exact fin)))
  · exact wpAny_tryCatch (wpAny_bind ((Looks.of_pure (hb _)).here (wpAny_pure (by exact fin))))
/-- object.__ne__ by an own __eq__ that answers True or False -/
theorem sq_one {b : Value} {Q : Value → Shared → Prop} (hu : A.in1.units < cLine) (X : K.In s.heap) (I : InstAt s.heap x ox C od) (hm : mroIn K C (.type "object") = some true) (hn : findIn K (.ref C) "__ne__" = some (some (.builtin "object.__ne__")))
    (hs : findIn K (.ref C) "__eq__" = some (some (.ref f))) (hf : isFn K (.ref f) = true)
    (h : wpAny (model prog w) A.in1 (call (.ref f) [.ref x, b]) (fun v s' => ∃ r, v = .bool r ∧ Q (.bool (!r)) s') E s) : wpAny (model prog w) A (tryCompare (.ref x) "__ne__" b) (fun r s' => ∃ v, r = some v ∧ Q v s') E s := by
  unfold tryCompare
  refine wpAny_bind (sq_bound X I hn (by intro self; exact PySem.F.slot_tuple_iterator_ne.bind self) (wpAny_call (codeAny_call_builtin PySem.F.slot_tuple_iterator_ne.plain PySem.F.cmpEntry_ne (check_slot (i := "object.__ne__") (owner := "object") (n := "__ne__") PySem.F.cmpKind_ne PySem.F.cmpSplit_ne (I.type.andThen (looks_mroIn X hm)) (PySem.F.cmpArgs_ne _ _) ?_))))
  unfold Builtin.«object.__ne__»
  refine wpAny_bind (m := slotArgs "__ne__" 1 _) (wpAny_pure ?_)
  refine wpAny_bind (m := cRoomFor _ _) (wpAny_cRoomFor hu ?_)
  refine wpAny_bind (m := callSpecialIfBound? (.ref x) (Str.ofString "__eq__") [b]) (ifBound_K X I hs hf (wpAny_mono h (fun r s' hq => ?_) fun _ _ y => y))
  obtain ⟨r', rfl, q⟩ := hq
  refine wpAny_bind (m := truthy (.bool _)) (wpAny_truthy_bool ?_)
  first | exact ⟨_, rfl, wpAny_pure q⟩ | exact wpAny_pure ⟨_, rfl, q⟩ | exact wpAny_pure (wpAny_pure ⟨_, rfl, q⟩)
end
section
variable {prog : Program} {w : World} {A : Around} {E : Value → Shared → Prop} {s : Shared} {K : Frag} {x C L f : Addr} {h₀ : Heap} {m : Str → Option Value} {ox : Obj} {od : Option Obj} {b tb : Value}
theorem sq_ne {Q : Value → Shared → Prop} (hu : A.units < cLine) (hu1 : A.in1.units < cLine) (F : Fr h₀ L s.heap m) (X₀ : K.In h₀) (I : InstAt s.heap x ox C od) (hb : Looks (model prog w) s.heap (typeOf b) tb) (hn : notFirst K C tb = true)
    (hm : mroIn K C (.type "object") = some true) (hne : findIn K (.ref C) "__ne__" = some (some (.builtin "object.__ne__"))) (hs : findIn K (.ref C) "__eq__" = some (some (.ref f))) (hf : isFn K (.ref f) = true)
    (h : wpAny (model prog w) A.in1 (call (.ref f) [.ref x, b]) (fun v s' => ∃ r, v = .bool r ∧ Q (.bool (!r)) s') E s) : wpAny (model prog w) A (richCompare .NotEq (.ref x) b) Q E s := by
  have X := X₀.keeps F.keep
  have one := sq_one (Q := Q) hu1 X I hm hne hs hf h
  unfold richCompare
  simp only [oneThing_ref]
  refine wpAny_holding (wpAny_bind (wpAny_cRoomFor hu ?_))
  refine wpAny_bind (I.type.here (wpAny_bind (hb.here ?_)))
  split
  · rename_i q
    have e : subIn K tb (.ref C) = some false := by
      rcases Bool.or_eq_true_iff.mp hn with e | e
      · rw [beq_iff_eq.mp e] at q; simp at q
      · exact beq_iff_eq.mp e
    refine wpAny_bind ((looks_subIn X e).here ?_)
    simp only [Bool.false_eq_true, if_false]
    refine wpAny_bind (wpAny_mono one (fun r s' z => ?_) fun _ _ e => e)
    obtain ⟨v, rfl, hq⟩ := z
    exact wpAny_pure hq
  · refine wpAny_bind (wpAny_pure ?_)
    simp only [Bool.false_eq_true, if_false]
    refine wpAny_bind (wpAny_mono one (fun r s' z => ?_) fun _ _ e => e)
    obtain ⟨v, rfl, hq⟩ := z
    exact wpAny_pure hq
end
end PySem.W
namespace Ssb
open PySem PySem.Spec PyProof.Rows L2
section
variable {X : Cx}
/-- an own __eq__ answers: what sp says of the two -/
def spB2 (R : V → V → Hp → Bool → Prop) : Sp := fun vs H Q _ => ∃ (a : Addr) (y : V) (b : Bool), vs = [.ref a, y] ∧ R (.ref a) y H b ∧ ∀ H', Evl.Ex H H' → Q (.bl b) H'
structure EqFacts (K : PySem.W.Frag) (C f : Addr) : Prop where
  fn : PySem.W.isFn K (.ref f) = true
  eq : PySem.W.findIn K (.ref C) "__eq__" = some (some (.ref f))
structure NeFacts (K : PySem.W.Frag) (C : Addr) : Prop where
  ne : PySem.W.findIn K (.ref C) "__ne__" = some (some (.builtin "object.__ne__"))
  ob : PySem.W.mroIn K C (.type "object") = some true
/-- x == y where x is an instance of C with an own __eq__; y of a type that is no subclass of C -/
def rOwnB (K : PySem.W.Frag) (C : Addr) (R : V → V → Hp → Bool → Prop) (g : Bool → Bool) : R2 := fun x y H Q => ∃ a dx fs t b, x = .ref a ∧ H a = some (.ins C dx fs) ∧ TyX K H y t ∧ PySem.W.notFirst K C t = true ∧ R x y H b ∧ ∀ H', Evl.Ex H H' → Q (.bl (g b)) H'
theorem op_ownEq {CX : CXT} {C f : Addr} {fd : FuncData} {ps : List Str} {n : Nat} {R : V → V → Hp → Bool → Prop} (hr : Room n X.A) (F : FnOk X.prog X.w X.K X.mg X.base CX n f fd ps (spB2 R))
    (hs : EqFacts X.K C f) (hb : Binds X.K fd ps []) (hx : Passes CX X (fun _ _ _ => False)) : OpR X (compareOp .Eq) (rOwnB X.K C R id) := by
  intro pins s σ H x y u v Q I rx ry d
  obtain ⟨a, dx, fs, t, b, rfl, ha, ty, hn, hR, q⟩ := d
  cases rx
  obtain ⟨mA, J, _⟩ := ins_get I.hok ha
  obtain ⟨od, J, _⟩ := J.look
  obtain ⟨m, hF⟩ := I.fr
  obtain ⟨P, Z, hP, _⟩ := kit_of I ry ty
  show wpAny (model X.prog X.w) X.A (richCompare .Eq (.ref a) v) (EP X pins σ Q) X.xe s
  refine PySem.W.cmp_K (op := .Eq) (tb := t) hr.units0 hF I.ok.mod.kin J (Z.ty _ _ I.kIn hP) hn hs.eq hs.fn ?_
  have hsp : spB2 R [.ref a, y] H (fun v H' => v = .bl b ∧ Evl.Ex H H') (fun _ _ _ => False) := ⟨a, y, b, rfl, hR, fun H' e => ⟨rfl, e⟩⟩
  have e0 : Env0 X.prog X.w X.K X.mg X.base X.A X.stack s H := I.env0
  have hl := F.len _ _ _ _ hsp
  have r2 : Vals [V.ref a, y] [Value.ref a, v] := .cons rfl (.cons ry .nil)
  refine wpAny_call (codeAny_mono (F.run X.A X.stack s H ⟨[.ref a, v], []⟩ [.ref a, v] [.ref a, y] _ (fun _ _ _ => False) hr e0 (by
    have := hb s [.ref a, v] I.kIn (by simpa using hl)
    simpa using this) r2 hsp) fun r s' hq => ?_)
  cases r with
  | error e => exact hx pins σ H s e s' I hq
  | ok fl =>
    cases fl with
    | ret w =>
      obtain ⟨z, H', I', rz, ez, ex⟩ := I.after hq
      subst ez
      cases rz
      exact ⟨.bl b, H', I', rfl, q H' ex⟩
    | next => exact False.elim hq
    | brk => exact False.elim hq
    | cont => exact False.elim hq
theorem op_ownNe {CX : CXT} {C f : Addr} {fd : FuncData} {ps : List Str} {n : Nat} {R : V → V → Hp → Bool → Prop} (hr : Room (n + 1) X.A) (F : FnOk X.prog X.w X.K X.mg X.base CX n f fd ps (spB2 R))
    (hs : EqFacts X.K C f) (hn2 : NeFacts X.K C) (hb : Binds X.K fd ps []) (hx : Passes CX X (fun _ _ _ => False)) : OpR X (compareOp .NotEq) (rOwnB X.K C R not) := by
  intro pins s σ H x y u v Q I rx ry d
  obtain ⟨a, dx, fs, t, b, rfl, ha, ty, hn, hR, q⟩ := d
  cases rx
  obtain ⟨mA, J, _⟩ := ins_get I.hok ha
  obtain ⟨od, J, _⟩ := J.look
  obtain ⟨m, hF⟩ := I.fr
  obtain ⟨P, Z, hP, _⟩ := kit_of I ry ty
  show wpAny (model X.prog X.w) X.A (richCompare .NotEq (.ref a) v) (EP X pins σ Q) X.xe s
  refine PySem.W.sq_ne (tb := t) hr.units0 hr.in1.units0 hF I.ok.mod.kin J (Z.ty _ _ I.kIn hP) hn hn2.ob hn2.ne hs.eq hs.fn ?_
  have hsp : spB2 R [.ref a, y] H (fun v H' => v = .bl b ∧ Evl.Ex H H') (fun _ _ _ => False) := ⟨a, y, b, rfl, hR, fun H' e => ⟨rfl, e⟩⟩
  have e0 : Env0 X.prog X.w X.K X.mg X.base X.A.in1 X.stack s H := by
    have e := I.env0
    exact ⟨e.frames, e.mod, e.bs, e.bsz, e.funs, e.frf, e.hok, e.bare⟩
  have hl := F.len _ _ _ _ hsp
  have r2 : Vals [V.ref a, y] [Value.ref a, v] := .cons rfl (.cons ry .nil)
  refine wpAny_call (codeAny_mono (F.run X.A.in1 X.stack s H ⟨[.ref a, v], []⟩ [.ref a, v] [.ref a, y] _ (fun _ _ _ => False) hr.in1 e0 (by
    have := hb s [.ref a, v] I.kIn (by simpa using hl)
    simpa using this) r2 hsp) fun r s' hq => ?_)
  cases r with
  | error e => exact hx pins σ H s e s' I hq
  | ok fl =>
    cases fl with
    | ret w =>
      obtain ⟨z, H', I', rz, ez, ex⟩ := I.after hq
      subst ez
      cases rz
      exact ⟨b, rfl, .bl (!b), H', I', rfl, q H' ex⟩
    | next => exact False.elim hq
    | brk => exact False.elim hq
    | cont => exact False.elim hq
end
end Ssb

/-! Data of any form on the heap: None, bools, ints, texts, lists, tuples, dicts with int and text keys. -/
namespace Ssb
open PySem PySem.Spec PyProof.Rows L2
open Evl (Ex Ev EvT EvL EvA EvU)
inductive G where
  | non | bl (b : Bool) | int (i : Int) | str (s : Str) | lst (l : List G) | tup (l : List G) | dic (l : List (Key × G))
abbrev KG := Key × G
def kLen : Key → Nat
  | .inr s => s.length
  | .inl _ => 0
/-- keys of a dict: different, none longer than m -/
def okK (m : Nat) (l : List KG) : Prop := (l.map fun p : KG => p.1).Nodup ∧ ∀ p ∈ l, kLen p.1 ≤ m
/-- g stands at v: no deeper than n, nothing longer than m, its lists and dicts at places of S -/
def Rp (H : Hp) (m : Nat) : Nat → (Addr → Prop) → G → V → Prop
  | 0, _, _, _ => False
  | _ + 1, _, .non, v => v = .non
  | _ + 1, _, .bl b, v => v = .bl b
  | _ + 1, _, .int i, v => v = .int i
  | _ + 1, _, .str s, v => v = .str s ∧ s.length ≤ m
  | n + 1, S, .lst l, v => ∃ a xs, v = .ref a ∧ S a ∧ H a = some (.lst xs) ∧ l.length ≤ m ∧ Paired (fun d x => Rp H m n S d x) l xs
  | n + 1, S, .tup l, v => ∃ a xs, v = .ref a ∧ H a = some (.tup xs) ∧ l.length ≤ m ∧ Paired (fun d x => Rp H m n S d x) l xs
  | n + 1, S, .dic l, v => ∃ a es, v = .ref a ∧ S a ∧ H a = some (.dK es) ∧ l.length ≤ m ∧ okK m l ∧ Paired (fun (q : KG) (e : Key × V) => e.1 = q.1 ∧ Rp H m n (fun b => S b ∧ b ≠ a) q.2 e.2) l es
section
variable {H H' : Hp} {m m' : Nat}
theorem rp_to : ∀ {n : Nat} {S : Addr → Prop} {d : G} {v : V}, (∀ b o, H b = some o → (S b ∨ ∃ xs, o = .tup xs) → H' b = some o) → Rp H m n S d v → Rp H' m n S d v
  | 0, _, _, _, _, h => h.elim
  | n + 1, S, d, v, k, h => by
    cases d with
    | non => exact h
    | bl b => exact h
    | int i => exact h
    | str s => exact h
    | lst l =>
      obtain ⟨a, xs, e, s, ha, hl, p⟩ := h
      exact ⟨a, xs, e, s, k a _ ha (.inl s), hl, pair_imp p fun d x r => rp_to k r⟩
    | tup l =>
      obtain ⟨a, xs, e, ha, hl, p⟩ := h
      exact ⟨a, xs, e, k a _ ha (.inr ⟨xs, rfl⟩), hl, pair_imp p fun d x r => rp_to k r⟩
    | dic l =>
      obtain ⟨a, es, e, s, ha, hl, nd, p⟩ := h
      exact ⟨a, es, e, s, k a _ ha (.inl s), hl, nd, pair_imp p fun q x r => ⟨r.1, rp_to (fun b o hb z => k b o hb (z.imp (·.1) id)) r.2⟩⟩
theorem rp_ex {n : Nat} {S : Addr → Prop} {d : G} {v : V} (e : Ex H H') (h : Rp H m n S d v) : Rp H' m n S d v := rp_to (fun b o hb _ => e b o hb) h
theorem rp_S : ∀ {n : Nat} {S S' : Addr → Prop} {d : G} {v : V}, (∀ b, S b → S' b) → Rp H m n S d v → Rp H m n S' d v
  | 0, _, _, _, _, _, h => h.elim
  | n + 1, S, S', d, v, k, h => by
    cases d with
    | non => exact h
    | bl b => exact h
    | int i => exact h
    | str s => exact h
    | lst l =>
      obtain ⟨a, xs, e, s, ha, hl, p⟩ := h
      exact ⟨a, xs, e, k a s, ha, hl, pair_imp p fun d x r => rp_S k r⟩
    | tup l =>
      obtain ⟨a, xs, e, ha, hl, p⟩ := h
      exact ⟨a, xs, e, ha, hl, pair_imp p fun d x r => rp_S k r⟩
    | dic l =>
      obtain ⟨a, es, e, s, ha, hl, nd, p⟩ := h
      exact ⟨a, es, e, k a s, ha, hl, nd, pair_imp p fun q x r => ⟨r.1, rp_S (fun b z => ⟨k b z.1, z.2⟩) r.2⟩⟩
/-- deeper and longer -/
theorem rp_up : ∀ {n n' : Nat} {S : Addr → Prop} {d : G} {v : V}, n ≤ n' → m ≤ m' → Rp H m n S d v → Rp H m' n' S d v
  | 0, _, _, _, _, _, _, h => h.elim
  | n + 1, n', S, d, v, hn, hm, h => by
    obtain ⟨n', rfl⟩ : ∃ k, n' = k + 1 := ⟨n' - 1, by omega⟩
    have hn : n ≤ n' := by omega
    cases d with
    | non => exact h
    | bl b => exact h
    | int i => exact h
    | str s => exact ⟨h.1, Nat.le_trans h.2 hm⟩
    | lst l =>
      obtain ⟨a, xs, e, s, ha, hl, p⟩ := h
      exact ⟨a, xs, e, s, ha, Nat.le_trans hl hm, pair_imp p fun d x r => rp_up hn hm r⟩
    | tup l =>
      obtain ⟨a, xs, e, ha, hl, p⟩ := h
      exact ⟨a, xs, e, ha, Nat.le_trans hl hm, pair_imp p fun d x r => rp_up hn hm r⟩
    | dic l =>
      obtain ⟨a, es, e, s, ha, hl, nd, p⟩ := h
      exact ⟨a, es, e, s, ha, Nat.le_trans hl hm, ⟨nd.1, fun p hp => Nat.le_trans (nd.2 p hp) hm⟩, pair_imp p fun q x r => ⟨r.1, rp_up hn hm r.2⟩⟩
theorem rp_dom : ∀ {n : Nat} {S : Addr → Prop} {d : G} {v : V}, Rp H m n S d v → Rp H m n (fun b => S b ∧ H b ≠ none) d v
  | 0, _, _, _, h => h.elim
  | n + 1, S, d, v, h => by
    have some_ : ∀ {a : Addr} {o : HO}, H a = some o → H a ≠ none := fun {a o} h e => by rw [e] at h; cases h
    cases d with
    | non => exact h
    | bl b => exact h
    | int i => exact h
    | str s => exact h
    | lst l =>
      obtain ⟨a, xs, e, s, ha, hl, p⟩ := h
      exact ⟨a, xs, e, ⟨s, some_ ha⟩, ha, hl, pair_imp p fun d x r => rp_dom r⟩
    | tup l =>
      obtain ⟨a, xs, e, ha, hl, p⟩ := h
      exact ⟨a, xs, e, ha, hl, pair_imp p fun d x r => rp_dom r⟩
    | dic l =>
      obtain ⟨a, es, e, s, ha, hl, nd, p⟩ := h
      exact ⟨a, es, e, ⟨s, some_ ha⟩, ha, hl, nd, pair_imp p fun q x r => ⟨r.1, rp_S (fun b z => ⟨⟨z.1.1, z.2⟩, z.1.2⟩) (rp_dom r.2)⟩⟩
theorem rp_lock {n : Nat} {S : Addr → Prop} {d : G} {v : V} {a : Addr} {es : List (Key × V)} {u : HO} (ha : H a = some (.dK es)) (hS : ∀ b, S b → b ≠ a) (h : Rp H m n S d v) : Rp (upd H a u) m n S d v :=
  rp_to (fun b o hb z => by
    have ne : b ≠ a := by
      rcases z with z | ⟨xs, rfl⟩
      · exact hS b z
      · intro e; rw [e, ha] at hb; cases hb
    rw [upd_ne ne]; exact hb) h
theorem rp_upd {n : Nat} {S : Addr → Prop} {d : G} {v : V} {a : Addr} {o u : HO} (ha : H a = some o) (no : ∀ xs, o ≠ .tup xs) (hS : ∀ b, S b → b ≠ a) (h : Rp H m n S d v) : Rp (upd H a u) m n S d v :=
  rp_to (fun b o' hb z => by
    have ne : b ≠ a := by
      rcases z with z | ⟨xs, rfl⟩
      · exact hS b z
      · intro e; rw [e, ha] at hb; cases hb; exact no xs rfl
    rw [upd_ne ne]; exact hb) h
theorem rp_in {H1 H2 : Hp} {n : Nat} {S : Addr → Prop} {x : G} {v : V} {d : Addr} {es : List (Key × V)} {u : HO} (hd : H1 d = some (.dK es)) (e2 : Ex (upd H1 d u) H2) (h : Rp H1 m n (fun b => S b ∧ b ≠ d) x v) : Rp H2 m n (fun b => S b ∧ b ≠ d) x v :=
  rp_ex e2 (rp_lock hd (fun _ z => z.2) h)
theorem rp_pos {n : Nat} {S : Addr → Prop} {d : G} {v : V} (h : Rp H m n S d v) : ∃ k, n = k + 1 := by
  cases n with
  | zero => exact h.elim
  | succ n => exact ⟨n, rfl⟩
end
def kG : Key → G
  | .inr s => .str s
  | .inl i => .int i
theorem rp_key {H : Hp} {m n : Nat} {S : Addr → Prop} {k : Key} (h : kLen k ≤ m) : Rp H m (n + 1) S (kG k) (kV k) := by
  cases k with
  | inl i => exact (rfl : kV (Sum.inl i) = V.int i)
  | inr s => exact ⟨rfl, h⟩
/-! ### kinds -/
def gT : G → String
  | .non => "NoneType" | .bl _ => "bool" | .int _ => "int" | .str _ => "str" | .lst _ => "list" | .tup _ => "tuple" | .dic _ => "dict"
theorem rp_ty {K : PySem.W.Frag} {H : Hp} {m n : Nat} {S : Addr → Prop} {d : G} {v : V} (h : Rp H m n S d v) : TyOf K H v (.type (gT d)) := by
  obtain ⟨n, rfl⟩ := rp_pos h
  cases d with
  | non => have e : v = .non := h; subst e; exact .non
  | bl b => have e : v = .bl b := h; subst e; exact .bl b
  | int i => have e : v = .int i := h; subst e; exact .int i
  | str s => have e : v = .str s := h.1; subst e; exact .str s
  | lst l => obtain ⟨a, xs, rfl, _, ha, _⟩ := h; exact .lst ha
  | tup l => obtain ⟨a, xs, rfl, ha, _⟩ := h; exact .tup ha
  | dic l => obtain ⟨a, es, rfl, _, ha, _⟩ := h; exact .dK ha
/-- isinstance of a datum: what it says -/
def isK (g : G) (T : String) : Bool := (kitB (gT g) T).getD false
theorem kits : ∀ a ∈ ["NoneType", "bool", "int", "str", "list", "tuple", "dict"], ∀ b ∈ ["bool", "int", "str", "list", "tuple", "dict"], (kitB a b).isSome = true := by decide +kernel
theorem kit_some (g : G) {T : String} (h : T ∈ ["bool", "int", "str", "list", "tuple", "dict"]) : kitB (gT g) T = some (isK g T) := by
  have := kits (gT g) (by cases g <;> simp [gT]) T h
  unfold isK
  cases e : kitB (gT g) T with
  | none => rw [e] at this; cases this
  | some b => rfl
theorem ev_isG {K : PySem.W.Frag} {σ : L2.St} {H : Hp} {te : TE} {m n : Nat} {S : Addr → Prop} {d : G} {v : V} {T : String} (h : Ev te σ H v) (hr : Rp H m n S d v) (hT : T ∈ ["bool", "int", "str", "list", "tuple", "dict"] := by decide) : Ev (tCB (rIsi K) (tCons te (tCons (tC (.ty T)) tNil))) σ H (.bl (isK d T)) :=
  ev_isi h (fun H1 e1 => .base (rp_ty (rp_ex e1 hr))) (kit_ty (kit_some d hT))
/-! ### what a dict tells -/
def lkG (l : List KG) (k : Key) : Option G := (l.find? fun p => decide (p.1 = k)).map (·.2)
theorem lkG_cons (p : KG) (l : List KG) (k : Key) : lkG (p :: l) k = if p.1 = k then some p.2 else lkG l k := by
  unfold lkG
  rw [List.find?_cons]
  by_cases h : p.1 = k
  · rw [decide_eq_true h, if_pos h]; rfl
  · rw [decide_eq_false h, if_neg h]
theorem pair_lkG {F : G → V → Prop} : ∀ {l : List KG} {es : List (Key × V)}, Paired (fun (q : KG) (e : Key × V) => e.1 = q.1 ∧ F q.2 e.2) l es → ∀ k, (∃ d v, lkG l k = some d ∧ valV es k = some v ∧ F d v) ∨ (lkG l k = none ∧ valV es k = none)
  | _, _, .nil, k => .inr ⟨rfl, rfl⟩
  | q :: l, e :: es, .cons h t, k => by
    rw [lkG_cons, vV_cons, h.1]
    by_cases c : q.1 = k
    · rw [if_pos c, if_pos c]; exact .inl ⟨_, _, rfl, rfl, h.2⟩
    · rw [if_neg c, if_neg c]; exact pair_lkG t k
theorem lkG_mem : ∀ {l : List KG} {k : Key} {d : G}, lkG l k = some d → (k, d) ∈ l
  | p :: l, k, d, h => by
    rw [lkG_cons] at h
    by_cases c : p.1 = k
    · rw [if_pos c] at h; cases h; rw [← c]; exact List.mem_cons_self
    · rw [if_neg c] at h; exact List.mem_cons_of_mem _ (lkG_mem h)
theorem lkG_of : ∀ {l : List KG} {k : Key} {d : G}, (l.map fun p : KG => p.1).Nodup → (k, d) ∈ l → lkG l k = some d
  | p :: l, k, d, nd, h => by
    rw [List.map_cons, List.nodup_cons] at nd
    rw [lkG_cons]
    rcases List.mem_cons.mp h with h | h
    · subst h; rw [if_pos rfl]
    · rw [if_neg, lkG_of nd.2 h]
      intro e
      exact nd.1 (e ▸ List.mem_map.mpr ⟨_, h, rfl⟩)
theorem pair_keysG {F : KG → Key × V → Prop} {l : List KG} {es : List (Key × V)} (h : Paired (fun p e => e.1 = p.1 ∧ F p e) l es) : (es.map fun e : Key × V => e.1) = l.map fun p : KG => p.1 := by
  induction h with
  | nil => rfl
  | cons h t ih => rw [List.map_cons, List.map_cons, ih, h.1]
theorem valV_atK : ∀ {es : List (Key × V)} {i : Nat} {k : Key} {v : V}, (es.map fun e : Key × V => e.1).Nodup → es[i]? = some (k, v) → valV es k = some v
  | [], i, k, v, _, h => by simp at h
  | e :: es, 0, k, v, _, h => by
    simp at h; subst h
    rw [vV_cons, if_pos rfl]
  | e :: es, i + 1, k, v, nd, h => by
    have h2 : es[i]? = some (k, v) := by simpa using h
    rw [List.map_cons, List.nodup_cons] at nd
    rw [vV_cons, if_neg, valV_atK nd.2 h2]
    intro z
    refine nd.1 ?_
    rw [z]
    exact List.mem_map.mpr ⟨(k, v), List.mem_of_getElem? h2, rfl⟩
theorem vK_no : ∀ {es : List (Key × V)} {k : Key}, k ∉ (es.map fun e : Key × V => e.1) → valV es k = none
  | [], _, _ => rfl
  | e :: es, k, h => by
    rw [vV_cons, if_neg (fun z => h (by rw [← z]; exact List.mem_cons_self))]
    exact vK_no fun z => h (List.mem_cons_of_mem _ z)
/-! ### from data with text keys -/
mutual
def emb : D → G
  | .non => .non | .bl b => .bl b | .int i => .int i | .str s => .str s | .lst l => .lst (embL l) | .tup l => .tup (embL l) | .dic l => .dic (embD l)
def embL : List D → List G
  | [] => [] | d :: l => emb d :: embL l
def embD : List (Str × D) → List KG
  | [] => [] | p :: l => (Sum.inr p.1, emb p.2) :: embD l
end
theorem embL_eq : ∀ l : List D, embL l = l.map emb
  | [] => by rw [embL]; rfl
  | d :: l => by rw [embL, embL_eq l]; rfl
theorem embD_eq : ∀ l : List (Str × D), embD l = l.map fun p => ((Sum.inr p.1, emb p.2) : KG)
  | [] => by rw [embD]; rfl
  | d :: l => by rw [embD, embD_eq l]; rfl
/-- nothing longer than m, no name twice -/
def szD (m : Nat) : Nat → D → Prop
  | n + 1, .str s => s.length ≤ m
  | n + 1, .lst l => l.length ≤ m ∧ ∀ x ∈ l, szD m n x
  | n + 1, .tup l => l.length ≤ m ∧ ∀ x ∈ l, szD m n x
  | n + 1, .dic l => l.length ≤ m ∧ (l.map (·.1)).Nodup ∧ ∀ p ∈ l, p.1.length ≤ m ∧ szD m n p.2
  | _, _ => True
theorem pair_map2 {α β γ δ : Type} {F : α → β → Prop} {F' : γ → δ → Prop} {f : α → γ} {g : β → δ} : ∀ {l : List α} {k : List β}, Paired F l k → (∀ a ∈ l, ∀ b, F a b → F' (f a) (g b)) → Paired F' (l.map f) (k.map g)
  | _, _, .nil, _ => .nil
  | _, _, .cons h t, k => .cons (k _ List.mem_cons_self _ h) (pair_map2 t fun a ha b hb => k a (List.mem_cons_of_mem _ ha) b hb)
theorem rp_emb {H : Hp} {m : Nat} : ∀ {n : Nat} {S : Addr → Prop} {d : D} {v : V}, Rep H n S d v → szD m n d → Rp H m n S (emb d) v
  | 0, _, _, _, h, _ => h.elim
  | n + 1, S, d, v, h, z => by
    cases d with
    | non => rw [emb]; exact h
    | bl b => rw [emb]; exact h
    | int i => rw [emb]; exact h
    | str s => rw [emb]; exact ⟨h, z⟩
    | lst l =>
      obtain ⟨a, xs, e, s, ha, hl, p⟩ := h
      rw [emb, embL_eq]
      refine ⟨a, xs, e, s, ha, by rw [List.length_map]; exact z.1, ?_⟩
      have := pair_map2 (F' := fun d x => Rp H m n S d x) (f := emb) (g := _root_.id) p fun d hd x r => rp_emb r (z.2 d hd)
      rw [List.map_id] at this; exact this
    | tup l =>
      obtain ⟨a, xs, e, ha, hl, p⟩ := h
      rw [emb, embL_eq]
      refine ⟨a, xs, e, ha, by rw [List.length_map]; exact z.1, ?_⟩
      have := pair_map2 (F' := fun d x => Rp H m n S d x) (f := emb) (g := _root_.id) p fun d hd x r => rp_emb r (z.2 d hd)
      rw [List.map_id] at this; exact this
    | dic l =>
      obtain ⟨a, es, e, s, ha, hl, p⟩ := h
      rw [emb, embD_eq]
      refine ⟨a, es, e, s, ha, by rw [List.length_map]; exact z.1, ?_, ?_⟩
      · refine ⟨?_, fun p hp => ?_⟩
        · have : ((l.map fun p => ((Sum.inr p.1, emb p.2) : KG)).map fun p : KG => p.1) = (l.map (·.1)).map Sum.inr := by rw [List.map_map, List.map_map]; rfl
          rw [this]
          exact List.Pairwise.map _ (fun a b h z => h (Sum.inr.inj z)) z.2.1
        · obtain ⟨q, hq, rfl⟩ := List.mem_map.mp hp
          exact (z.2.2 q hq).1
      · have := pair_map2 (F' := fun (q : KG) (e : Key × V) => e.1 = q.1 ∧ Rp H m n (fun b => S b ∧ b ≠ a) q.2 e.2) (f := fun p : Str × D => ((Sum.inr p.1, emb p.2) : KG)) (g := fun e : Key × V => e) p fun q hq x r => (show x.1 = Sum.inr q.1 ∧ Rp H m n (fun b => S b ∧ b ≠ a) (emb q.2) x.2 from ⟨r.1, rp_emb r.2 (z.2.2 q hq).2⟩)
        rw [List.map_id'] at this; exact this
end Ssb

/-! C(..) that may raise, at the caller's slots; try with two clauses, the first of which never fits, the second kept. -/
namespace Ssb
open PySem PySem.Spec L2 PyProof.Rows
def tMakeS (C : Addr) (sp : Sp) (W : WX) (t : TA) : TE := fun σ H Q => t σ H fun vs H1 => ∀ x dx, H1 x = none → H1 dx = none → dx ≠ x →
  sp (.ref x :: vs) (upd (upd H1 dx (.own x)) x (.ins C dx [])) (fun v H2 => v = .non ∧ Q (.ref x) H2) fun cls d H' => W cls d σ H'
section
variable {X : Cx} {W : WX} {nm : Str} {k j : Nat} {ps : List Str} {sp : Sp} {f C : Addr} {fd : FuncData} {p pos : Pos} {e : Expr} {es : List Expr} {t : TA}
theorem pmkX (G : MtX X.prog X.w X.K X.mg X.base C "__init__" k ps sp f fd) (tk : Takes X W) (h1 : PySem.W.makesIn X.K C = true) (h2 : PySem.W.keepIn X.K (.ref C) = true) (h3 : X.mg nm = some (.ref C)) (hr : Room j X.A) (ha : PA X (e :: es) t) (hj : k + 1 ≤ j := by first | decide | omega) (hg : Gl X nm := by rfl) (hdb : (nm == ("__debug__" : Str)) = false := by decide)
    (he : starEach (e :: es) X.env = (false, eval e X.env) :: starEach es X.env := by rfl) (hpl : (backTo pos (starEach es X.env)).any (·.1) = false := by rfl) : PE X (.Call (.Name nm p) (e :: es) [] pos) (tMakeS C sp W t) := by
  refine ⟨fun pins s σ H Q I h => wpAny_Call_Name_kw (ld_glob I hg h3 (PySem.W.callWith_K (h₀ := X.base) I.ok.mod.kin h2 (thn (ha.run pos pins s σ H _ I h) fun us s1 ⟨vs, H1, I1, r, q⟩ => ⟨I1.kIn, ?_⟩) he hpl) hdb)⟩
  have young := q (s1.heap.objs.size + 1) s1.heap.objs.size (I1.hok.fresh (Nat.le_succ _)) (I1.hok.fresh (Nat.le_refl _)) (Nat.ne_of_lt (Nat.lt_succ_self _))
  have J := Inv.made (C := C) I1
  have rel : Vals (V.ref (s1.heap.objs.size + 1) :: vs) (Value.ref (s1.heap.objs.size + 1) :: us) := .cons rfl r
  have len : (Value.ref (s1.heap.objs.size + 1) :: us ++ []).length = ps.length := by rw [List.append_nil, ← rel.length, G.ok.len _ _ _ _ young]
  have bnd := G.bd _ (Value.ref (s1.heap.objs.size + 1) :: us) J.kIn len
  rw [List.append_nil] at bnd
  show wpAny _ _ (call (.ref C) us) _ _ _
  refine wpAny_call (make_map (f := f) I1.kIn h1 G.mt.at_ (beq_iff_eq.mp G.mt.fn) (codeAny_mono (G.ok.run _ X.stack _ _ ⟨Value.ref (s1.heap.objs.size + 1) :: us, []⟩ _ _ _ _ ((hr.mono hj).make C us []) (J.env0.make C us []) bnd rel young) fun res s2 after => ?_))
  cases res with
  | error er => exact passes_at tk σ pins _ _ er s2 J after
  | ok fl =>
    cases fl with
    | ret u =>
      obtain ⟨v, H', I3, rv, ev, q3⟩ := J.after after
      subst ev
      exact ⟨rv, ⟨V.ref (s1.heap.objs.size + 1), H', I3, rfl, q3⟩⟩
    | next => exact False.elim after
    | brk => exact False.elim after
    | cont => exact False.elim after
end
section
variable {X : Cx} {x0 x n : Str} {c0 c : Value} {i : Nat} {body suite suite0 : List Stmt} {b0 b₀ : Stmt} {np0 np pos pos0 pos' : Pos} {tb : WX → TS} {ts : Addr → Value → Option Addr → TS} {Wout : WX}
/-- the first clause is asked and does not fit -/
def wSkip (K : PySem.W.Frag) (c0 : Value) (W : WX) : WX := fun cls d σ H => PySem.W.exmOne K cls c0 = some false ∧ W cls d σ H
theorem ps_try_keep2 (hs : X.stack = X.env :: X.outer) (hf : X.env.frame = some X.env.locals) (hN : X.N.Nodup) (hi : X.N[i]? = some n) (hln : X.env.kindOf n = some .local) (hc0 : Names X x0 c0) (hc : Names X x c) (tk : Takes X Wout)
    (hb : ∀ (W : WX) (pn : List (Addr × Obj)) (xe : Value → Shared → Prop), Takes (X.tr pn xe) W → PassesOwn (model X.prog X.w) X.A X.env xe → PSs (X.tr pn xe) body (tb W))
    (hsu : ∀ (a : Addr) (oe : Obj) (cls : Value) (d : Option Addr) (pn : List (Addr × Obj)), Zc cls d oe → (∃ vs, oe.data = .fields vs) → PSs (X.suite a ((a, oe) :: pn)) (b₀ :: suite) (ts a cls d)) :
    PS X (.Try body [.ExceptHandler (some (.Name x0 np0)) none (b0 :: suite0) pos0, .ExceptHandler (some (.Name x np)) (some n) (b₀ :: suite) pos'] [] [] pos) (fun D σ H => tb (wSkip X.K c0 (wKeep X.K c i ts Wout D)) D σ H) := by
  refine ⟨fun pins s σ H D I h => ?_⟩
  have ok := I.ok
  have fr0 : X.A.frames = some (X.env :: X.outer) := by rw [ok.frames, hs]
  refine wpAny_Try_except (wpAny_mono ((hb (wSkip X.K c0 (wKeep X.K c i ts Wout D)) (X.pn ++ pins) (fun e s₁ => wpAny (model X.prog X.w) X.A (noteFrame e X.env) (fun _ s₂ => wpAny (model X.prog X.w) X.A (setFlight e none) (fun _ s₃ => wpAny (model X.prog X.w) X.A (handleBy e X.env [.ExceptHandler (some (.Name x0 np0)) none (b0 :: suite0) pos0, .ExceptHandler (some (.Name x np)) (some n) (b₀ :: suite) pos']) (SP X pins D) X.xe s₃) X.xe s₂) X.xe s₁) (fun u s' xx => ?_) PassesOwn.looking).run [] s σ H D (I.toTry _) h) (fun f s1 hsp => ?_) (fun e s1 he => he))
  · obtain ⟨a, B, sI, pins', σ1, HH, cls, d, rfl, J0, nb, up, sky, na, os, ag, hb0, b, hb1, hyes, hno⟩ := xx
    have J : Inv X pins σ1 HH sI := J0.ofTry ok
    rw [show (X.tr (X.pn ++ pins) _).stack = X.env :: X.outer from hs] at sky
    refine Sky.land Zc.steady fr0 hf sky fun h3 fl3 up3 => ?_
    have J3 : Inv X pins σ1 HH { s' with heap := h3 } := J.landed nb fl3.1 (up.trans up3) os ag
    obtain ⟨oe3, vs3, he3, hz3, hd3⟩ := fl3.there
    have nfr : a ∉ frs (X.env :: X.outer) := fun hm => by
      obtain ⟨_, o', e', hnf⟩ := fl3.2.2.1.mem hm
      rw [he3] at e'; cases e'; exact hnf _ hd3
    have nL : a ≠ X.env.locals := fun z => nfr (List.mem_filterMap.mpr ⟨X.env, List.mem_cons_self, (by rw [hf, z])⟩)
    have nF : a ∉ X.fs := fun hm => (List.mem_filterMap.mp hm).elim fun e he => nfr (List.mem_filterMap.mpr ⟨e, List.mem_cons_of_mem _ he.1, he.2⟩)
    have young : sI.heap.get? a = none := by
      cases hg : sI.heap.get? a with
      | none => rfl
      | some o =>
        have := nb a o hg (by rw [show (X.tr (X.pn ++ pins) _).stack = X.env :: X.outer from hs]; exact nfr)
        rw [fl3.2.1] at this; cases this
    have n0 : ∀ b o, X.s_0.heap.get? b = some o → b ∉ X.ex → b ≠ a := fun b o q hx z => by
      obtain ⟨o', h'⟩ := J.base.there b o q hx
      rw [z, young] at h'; cases h'
    have np0 : ∀ p ∈ X.pn ++ pins, p.1 ≠ a := fun p hp z => by
      have := (J.pin p hp).1
      rw [z, young] at this; cases this
    have S3 := J3.suite he3 hd3 na nL nF
    have looks : PySem.W.Looks (model X.prog X.w) h3 (typeOf (.ref a)) cls := fun A Q E s k q => wpAny_typeOf_ref (k _ _ he3) (by rw [hz3.1]; exact q)
    have LM := PySem.W.exm_one (M := model X.prog X.w) J3.kIn looks hb1
    have LM0 := PySem.W.exm_one (M := model X.prog X.w) J3.kIn looks hb0
    have ask : ∀ {y : Str} {cy : Value} {npy : Pos}, Names X y cy → ∀ {Q : Value → Shared → Prop} {E : Value → Shared → Prop}, Q cy { s' with heap := h3 } → wpAny (model X.prog X.w) (X.A.mark (some (.ref a))) (eval (.Name y npy) X.env) Q E { s' with heap := h3 } := fun {y cy npy} hy {Q E} q => by
      obtain ⟨hg, hdb, hm | ⟨hm, hv, hnn⟩⟩ := hy
      · exact ld_glob S3 hg hm q hdb
      · exact ld_blt S3 hg hm hv q hnn hdb
    refine wpAny_handleBy_cons (codeAny_handlers_test (ask hc0 (LM0.here ?_))) (by intro q; cases q)
    show wpAny _ X.A (handleBy (.ref a) X.env [.ExceptHandler (some (.Name x np)) (some n) (b₀ :: suite) pos']) _ _ _
    refine wpAny_handleBy_cons (codeAny_handlers_test (ask hc (LM.here ?_))) (by intro q; cases q)
    cases b with
    | true =>
      refine codeAny_handlers_suite_as (HandSPX.lands_againZ fl3 fun h4 fl4 up4 => ?_)
      have J4 : Inv X pins σ1 HH { s' with heap := h4 } := J.landed nb fl4.1 ((up.trans up3).trans up4) os ag
      obtain ⟨oe4, vs4, he4, hz4, hd4⟩ := fl4.there
      refine store_ok (X := X.suite a ((a, oe4) :: (X.pn ++ pins))) (v := .ref a) (J4.suite he4 hd4 na nL nF) hN hi (.inl hln) rfl (fun s5 S5 => ?_) (.inr hln)
      refine wpAny_mono ((hsu a oe4 cls d (X.pn ++ pins) hz4 ⟨_, hd4⟩).run [] s5 _ HH _ S5 (hyes rfl a na)) (fun f s6 hsp => ?_) (fun _ _ z => False.elim z)
      have fin : ∀ {σ6 : L2.St} {H6 : Hp} {Q : Shared → Prop}, Inv (X.suite a ((a, oe4) :: (X.pn ++ pins))) [] σ6 H6 s6 → (∀ s7, Inv X pins (σ6.set i none) (upd H6 a (exk a cls d)) s7 → Q s7) →
          wpAny (model X.prog X.w) X.A (do bindName X.env n .none; unbindBehindTheSuite X.env n pos') (fun _ s7 => Q s7) X.xe s6 := fun {σ6 H6 Q} S6 hq => by
        have I6 : Inv X ((a, oe4) :: pins) σ6 H6 s6 := ⟨ok, S6.os, S6.bare, S6.base, S6.loc, S6.cell, S6.free, S6.freeC, fun p hp => S6.pin p (by
          rw [List.append_nil]
          rcases List.mem_append.mp hp with h | h
          · exact List.mem_cons_of_mem _ (List.mem_append_left _ h)
          · rcases List.mem_cons.mp h with h | h
            · rw [h]; exact List.mem_cons_self
            · exact List.mem_cons_of_mem _ (List.mem_append_right _ h)), S6.hok, S6.len⟩
        exact gone_ok I6 hN hi hln fun s7 J7 => hq s7 (adopt J7 hd4 hz4 n0 np0)
      cases f with
      | ret u => obtain ⟨v6, σ6, H6, S6, r6, q6⟩ := hsp; exact fin S6 fun s7 J7 => ⟨_, _, _, J7, r6, q6⟩
      | next => obtain ⟨σ6, H6, S6, q6⟩ := hsp; exact fin S6 fun s7 J7 => ⟨_, _, J7, q6⟩
      | brk => obtain ⟨σ6, H6, S6, q6⟩ := hsp; exact fin S6 fun s7 J7 => ⟨_, _, J7, q6⟩
      | cont => obtain ⟨σ6, H6, S6, q6⟩ := hsp; exact fin S6 fun s7 J7 => ⟨_, _, J7, q6⟩
    | false =>
      show wpAny _ X.A (handleBy (.ref a) X.env []) _ _ _
      obtain ⟨k1, k2, k3, oe, vs, T, oT, ts', he, hz, hd, h1, hr⟩ := id fl3
      refine wpAny_handleBy_nil ?_
      unfold PySem.passOn
      refine wpAny_bind (wpAny_field he hd h1 ?_)
      rw [if_neg (show ¬ ((Value.ref T == Value.none) = true) by simp)]
      have go : wpAny (model X.prog X.w) X.A (setFlight (.ref a) X.env.frame) (fun _ s4 => wpAny (model X.prog X.w) X.A (throw (.ref a) : Sem Flow) (SP X pins D) X.xe s4) X.xe { s' with heap := h3 } := by
        rw [hf]
        exact HandSPX.setFlight_upZ fl3 fun h4 hh4 up4 => wpAny_throw (tk _ _ ⟨a, B, sI, pins, σ1, HH, cls, d, rfl, J, nb, (up.trans up3).trans up4, .inr (.inr (by rw [hs]; exact hh4)), na, os, ag, hno rfl⟩)
      first
        | exact wpAny_bind go
        | exact wpAny_bind (wpAny_pure (wpAny_bind go))
  · cases f with
    | ret u => obtain ⟨v, σ1, HH, J, r, q⟩ := hsp; exact ⟨v, σ1, HH, J.ofTry ok, r, q⟩
    | next => obtain ⟨σ1, HH, J, q⟩ := hsp; exact wpAny_execs_nil ⟨σ1, HH, J.ofTry ok, q⟩
    | brk => obtain ⟨σ1, HH, J, q⟩ := hsp; exact ⟨σ1, HH, J.ofTry ok, q⟩
    | cont => obtain ⟨σ1, HH, J, q⟩ := hsp; exact ⟨σ1, HH, J.ofTry ok, q⟩
end
end Ssb

namespace Pk
open PySem PySem.Spec PyProof.Rows L2 Ssb
/-- the i-th statement of the text -/
def topS (i : Nat) : Stmt := PySem.Challenge.pw_statestay_k26_whole_three_drawings.main.body.getD i (.Pass ⟨0, 0, 0, 0⟩)
abbrev s_Node_init : Stmt := inClass (topS 7) 0
theorem sc_Node_init : FnScope ["self", "kind", "key", "owner", "nodes"] ["self", "kind", "key", "owner", "nodes"] (defScope s_Node_init) := ⟨rfl, rfl, rfl, by decide +kernel, rfl, by decide +kernel, by decide +kernel⟩
abbrev s_Node_below : Stmt := inClass (topS 7) 1
theorem sc_Node_below : FnScope ["self"] ["self"] (defScope s_Node_below) := ⟨rfl, rfl, rfl, by decide +kernel, rfl, by decide +kernel, by decide +kernel⟩
abbrev s_Rule_init : Stmt := inClass (topS 9) 2
theorem sc_Rule_init : FnScope ["self", "place"] ["self", "place"] (defScope s_Rule_init) := ⟨rfl, rfl, rfl, by decide +kernel, rfl, by decide +kernel, by decide +kernel⟩
abbrev s_Rule___call__ : Stmt := inClass (topS 9) 4
theorem sc_Rule___call__ : FnScope ["self", "nodes", "slots", "counts", "index", "node", "alike", "earlier"] ["self", "nodes"] (defScope s_Rule___call__) := ⟨rfl, rfl, rfl, by decide +kernel, rfl, by decide +kernel, by decide +kernel⟩
abbrev s_match : Stmt := topS 10
theorem sc_match : FnScope ["rule", "old", "new", "before", "after"] ["rule", "old", "new"] (defScope s_match) := ⟨rfl, rfl, rfl, by decide +kernel, rfl, by decide +kernel, by decide +kernel⟩
abbrev s_matched : Stmt := topS 11
theorem sc_matched : FnScope ["rule", "old", "new", "pairs", "table", "slot", "after", "before", "node"] ["rule", "old", "new"] (defScope s_matched) := ⟨rfl, rfl, rfl, by decide +kernel, rfl, by decide +kernel, by decide +kernel⟩
abbrev s__law_stream : Stmt := topS 13
theorem sc__law_stream : FnScope ["_law_script", "_law_cells", "_law_cell"] ["_law_script"] (defScope s__law_stream) := ⟨rfl, rfl, rfl, by decide +kernel, rfl, by decide +kernel, by decide +kernel⟩
abbrev s__law_draw : Stmt := topS 14
theorem sc__law_draw : FnScope ["_law_stream_here", "_law_many", "_law_cells", "_law_step", "_law_at", "_law_cell", "_law_number"] ["_law_stream_here", "_law_many"] (defScope s__law_draw) := ⟨rfl, rfl, rfl, by decide +kernel, rfl, by decide +kernel, by decide +kernel⟩
abbrev s__law_tree_key : Stmt := topS 15
theorem sc__law_tree_key : FnScope ["_law_stream_here", "_law_way"] ["_law_stream_here"] (defScope s__law_tree_key) := ⟨rfl, rfl, rfl, by decide +kernel, rfl, by decide +kernel, by decide +kernel⟩
abbrev s__law_tree : Stmt := topS 16
theorem sc__law_tree : FnScope ["_law_stream_here", "_law_most", "_law_deep", "_law_place", "_law_nodes", "_law_k", "_law_kind", "_law_key", "_law_below"] ["_law_stream_here", "_law_most", "_law_deep", "_law_place"] (defScope s__law_tree) := ⟨rfl, rfl, rfl, by decide +kernel, rfl, by decide +kernel, by decide +kernel⟩
abbrev s__law_edited : Stmt := topS 17
theorem sc__law_edited : FnScope ["_law_stream_here", "_law_nodes", "_law_fresh", "_law_result", "_law_kind", "_law_key", "_law_owner", "_law_below", "_law_way", "_law_at"] ["_law_stream_here", "_law_nodes", "_law_fresh"] (defScope s__law_edited) := ⟨rfl, rfl, rfl, by decide +kernel, rfl, by decide +kernel, by decide +kernel⟩
abbrev s__law_built : Stmt := topS 18
theorem sc__law_built : FnScope ["_law_nodes", "_law_made", "_law_kind", "_law_key", "_law_owner", "_law_below"] ["_law_nodes"] (defScope s__law_built) := ⟨rfl, rfl, rfl, by decide +kernel, rfl, by decide +kernel, by decide +kernel⟩
abbrev s__law_table : Stmt := topS 19
theorem sc__law_table : FnScope ["_law_pairs", "_law_table_here", "_law_rights", "_law_left", "_law_right"] ["_law_pairs"] (defScope s__law_table) := ⟨rfl, rfl, rfl, by decide +kernel, rfl, by decide +kernel, by decide +kernel⟩
abbrev s_law : Stmt := topS 20
theorem sc_law : FnScope ["_law_script", "_law_stream_here", "_law_from_first", "_law_fresh", "_law_first", "_law_second", "_law_third", "_law_one", "_law_two", "_law_three", "_law_place", "_law_rule", "_law_there", "_law_on", "_law_across", "_law_owner", "_law_middle"] ["_law_script"] (defScope s_law) := ⟨rfl, rfl, rfl, by decide +kernel, rfl, by decide +kernel, by decide +kernel⟩
/-- what the module says of built-ins, constants and classes -/
structure Txt (K : PySem.W.Frag) (mg : Str → Option Value) (C_Node : Addr) (C_Rule : Addr) (C_InvalidRule : Addr) : Prop where
  enumerate : mg "enumerate" = none
  int : mg "int" = none
  len : mg "len" = none
  list : mg "list" = none
  range : mg "range" = none
  zip : mg "zip" = none
  tuple : mg "tuple" = none
  cl_Node : Cls K C_Node
  mk_Node : PySem.W.makesIn K C_Node = true
  kp_Node : PySem.W.keepIn K (.ref C_Node) = true
  at_Node : mg "Node" = some (.ref C_Node)
  no_Node_kind : NoAttr K C_Node "kind"
  no_Node_key : NoAttr K C_Node "key"
  no_Node_owner : NoAttr K C_Node "owner"
  no_Node_inside : NoAttr K C_Node "inside"
  cl_Rule : Cls K C_Rule
  mk_Rule : PySem.W.makesIn K C_Rule = true
  kp_Rule : PySem.W.keepIn K (.ref C_Rule) = true
  at_Rule : mg "Rule" = some (.ref C_Rule)
  cr_Rule : PySem.W.readsIn K C_Rule (.type "type") = true
  cg_Rule : PySem.W.specialIn K (.ref C_Rule) "__getattribute__" = some (some (.builtin "type.__getattribute__"))
  all_Rule : ∃ t, PySem.W.findCls K (.ref C_Rule) (.type "type") "ALL" = some (.val (.str "all" t))
  pl_Rule : ∃ t, PySem.W.findCls K (.ref C_Rule) (.type "type") "PLAIN" = some (.val (.str "plain" t))
  no_Rule_place : NoAttr K C_Rule "place"
  ox_InvalidRule : OexE K C_InvalidRule
  at_InvalidRule : mg "InvalidRule" = some (.ref C_InvalidRule)
  xk_InvalidRule : ExK K C_InvalidRule
  own_InvalidRule : PySem.W.exmOne K (.ref C_InvalidRule) (.ref C_InvalidRule) = some true
  no_InvalidRule_place : PySem.W.findIn K (.ref C_InvalidRule) "place" = some none
  se_InvalidRule : PySem.W.kitOne K (.ref C_InvalidRule) (.ref C_InvalidRule) = some true
/-- a def as it stands -/
def Here (K : PySem.W.Frag) (mg : Str → Option Value) (nm : Str) (st : Stmt) : Prop := ∃ f fd, mg nm = some (.ref f) ∧ Fun K nm nm st f fd ∧ PySem.W.keepIn K (.ref f) = true
def HereM (K : PySem.W.Frag) (C : Addr) (nm qual : Str) (st : Stmt) : Prop := ∃ f fd, Fun K nm qual st f fd ∧ PySem.W.findIn K (.ref C) nm = some (some (.ref f)) ∧ PySem.W.isFn K (.ref f) = true ∧ PySem.W.keepIn K (.ref f) = true
/-- a method with defaults -/
def HereMD (K : PySem.W.Frag) (C : Addr) (nm qual : Str) (st : Stmt) (dvs : List V) : Prop := ∃ f fd, FunD K nm qual (defArgs st) (defBody st) (defScope st) dvs [] f fd ∧ PySem.W.findIn K (.ref C) nm = some (some (.ref f)) ∧ PySem.W.isFn K (.ref f) = true ∧ PySem.W.keepIn K (.ref f) = true
structure Prg (K : PySem.W.Frag) (mg : Str → Option Value) (C_Node : Addr) (C_Rule : Addr) (C_InvalidRule : Addr) : Prop where
  Node_init : ∃ t0 : Addr, (∃ o n, K.lookup t0 = some o ∧ o.cls = .type "tuple" ∧ o.data = .seq #[] n) ∧ HereMD K C_Node "__init__" "Node.__init__" s_Node_init [.ref t0]
  Node_below : HereM K C_Node "below" "Node.below" s_Node_below
  Rule_init : HereMD K C_Rule "__init__" "Rule.__init__" s_Rule_init [.str "all"]
  Rule___call__ : HereM K C_Rule "__call__" "Rule.__call__" s_Rule___call__
  «match» : Here K mg "match" s_match
  matched : Here K mg "matched" s_matched
  _law_stream : Here K mg "_law_stream" s__law_stream
  _law_draw : Here K mg "_law_draw" s__law_draw
  _law_tree_key : Here K mg "_law_tree_key" s__law_tree_key
  _law_tree : Here K mg "_law_tree" s__law_tree
  _law_edited : Here K mg "_law_edited" s__law_edited
  _law_built : Here K mg "_law_built" s__law_built
  _law_table : Here K mg "_law_table" s__law_table
  law : Here K mg "law" s_law
theorem here_mk {K : PySem.W.Frag} {h : Heap} {mg : Str → Option Value} (X : K.In h) (G : h.Ns mainGlobals mg) {nm : Str} {st : Stmt} {f : Addr} {oc : Value} {od an : Option Addr} {sl : Array (Option Value)} {kV dc pm cd ct : Value}
    (a : PySem.W.nsIn K mainGlobals nm = some (some (.ref f))) (l : K.lookup f = some ⟨oc, od, .func (PySem.W.fnOf nm nm (defArgs st) (defBody st) (defScope st) .none kV dc pm an cd ct), sl⟩) (c : PySem.W.codeIn K cd nm = true) (k : PySem.W.keepIn K (.ref f) = true) : Here K mg nm st :=
  ⟨f, _, PySem.W.mg_of X G a, fun_mk (st := st) l c k, k⟩
theorem hereM_mk {K : PySem.W.Frag} {C : Addr} {nm qual : Str} {st : Stmt} {f : Addr} {oc : Value} {od an : Option Addr} {sl : Array (Option Value)} {kV dc pm cd ct : Value}
    (a : PySem.W.findIn K (.ref C) nm = some (some (.ref f))) (i : PySem.W.isFn K (.ref f) = true) (l : K.lookup f = some ⟨oc, od, .func (PySem.W.fnOf nm qual (defArgs st) (defBody st) (defScope st) .none kV dc pm an cd ct), sl⟩) (c : PySem.W.codeIn K cd qual = true) (k : PySem.W.keepIn K (.ref f) = true) : HereM K C nm qual st :=
  ⟨f, _, fun_mk (st := st) l c k, a, i, k⟩
theorem hereMD_mk {K : PySem.W.Frag} {C T : Addr} {nm qual : Str} {st : Stmt} {dv : V} {u : Value} {f : Addr} {oc : Value} {od an : Option Addr} {sl : Array (Option Value)} {kV dc pm cd ct : Value} {o : Obj} {n : Nat}
    (a : PySem.W.findIn K (.ref C) nm = some (some (.ref f))) (i : PySem.W.isFn K (.ref f) = true) (l : K.lookup f = some ⟨oc, od, .func (PySem.W.fnOf nm qual (defArgs st) (defBody st) (defScope st) (.ref T) kV dc pm an cd ct), sl⟩) (c : PySem.W.codeIn K cd qual = true) (k : PySem.W.keepIn K (.ref f) = true)
    (lT : K.lookup T = some o) (oT : o.data = .seq ([u] : List Value).toArray n) (r : RelV dv u) : HereMD K C nm qual st [dv] :=
  ⟨f, _, ⟨⟨_, _, _, _, _, _, _, _, _, _, rfl, l, c, .inr ⟨(fun e => nomatch e), T, o, [u], n, rfl, lT, oT, .cons r .nil⟩, .inl rfl⟩, k⟩, a, i, k⟩
theorem nodeD_mk {K : PySem.W.Frag} {C t0 : Addr} {st : Stmt} {o : Obj} {n : Nat} (z : HereMD K C "__init__" "Node.__init__" st [.ref t0]) (q1 : K.lookup t0 = some o) (q2 : o.cls = .type "tuple") (q3 : o.data = .seq #[] n) :
    ∃ t0 : Addr, (∃ o n, K.lookup t0 = some o ∧ o.cls = .type "tuple" ∧ o.data = .seq #[] n) ∧ HereMD K C "__init__" "Node.__init__" st [.ref t0] := ⟨t0, ⟨o, n, q1, q2, q3⟩, z⟩
def spLaw (K : PySem.W.Frag) : Sp := fun vs H Q _ => ∃ (a : Addr) (ns : List Int), vs = [.ref a] ∧ SqL K H a (ns.map V.int) ∧ ns.length ≤ 63 ∧ ∀ H', Q (.bl true) H'

end Pk

namespace Pk
open PySem PySem.Spec PyProof.Rows L2 Ssb
open Evl (Ex Ev EvT EvL EvA EvU)
theorem gname_go {i : Nat} {v : V} {σ : L2.St} {H : Hp} {k : L2.St → Hp → Prop} (h : k (σ.set i (some v)) H) : gName i v σ H k := h
/-- places, as ints -/
def nI (l : List Nat) : List V := l.map fun (k : Nat) => V.int (k : Int)
theorem nI_len {l : List Nat} : (nI l).length = l.length := List.length_map ..
theorem nI_at {l : List Nat} {i k : Nat} (h : l[i]? = some k) : (nI l)[i]? = some (.int (k : Int)) := by unfold nI; rw [List.getElem?_map, h]; rfl
theorem ints_at {l : List Int} {i : Nat} {k : Int} (h : l[i]? = some k) : (l.map V.int)[i]? = some (.int k) := by rw [List.getElem?_map, h]; rfl
section
variable {K : PySem.W.Frag} {σ : L2.St} {H : Hp} {ta tb te tl : TE} {D : Ends} {tz tu : TS}
theorem ev_ixN {a : Addr} {l : List Nat} {i k : Nat} (h : Ev ta σ H (.ref a)) (hi : Ev tb σ H (.int (i : Int))) (ha : H a = some (.lst (nI l))) (hk : l[i]? = some k) : Ev (tOp (rIxL K) ta tb) σ H (.int (k : Int)) :=
  Evl.ev_op h hi (Evl.rv_ixL (Evl.sq_of ha) (atI_nat (nI_at hk)))
theorem ev_ixI {a : Addr} {l : List Int} {i : Nat} {k : Int} (h : Ev ta σ H (.ref a)) (hi : Ev tb σ H (.int (i : Int))) (ha : H a = some (.lst (l.map V.int))) (hk : l[i]? = some k) : Ev (tOp (rIxL K) ta tb) σ H (.int k) :=
  Evl.ev_op h hi (Evl.rv_ixL (Evl.sq_of ha) (atI_nat (ints_at hk)))
/-- for i, x in enumerate(xs) -/
theorem q_enumL {j1 j2 : Nat} {a : Addr} {xs : List V} (h : Ev te σ H (.ref a)) (ha : H a = some (.lst xs)) (Pv : Nat → L2.St → Hp → Prop) (h0 : ∀ H1, Ex H H1 → Pv 0 σ H1) (hG : ∀ i σ' H', Pv i σ' H' → H' a = some (.lst xs))
    (hs : ∀ (i : Nat) σ' H' (x : V), xs[i]? = some x → Pv i σ' H' → ∀ H2, Ex H' H2 → tu { D with nx := Pv (i + 1), ct := Pv (i + 1), bk := tz D } ((σ'.set j1 (some (.int (i : Int)))).set j2 (some x)) H2)
    (hd : ∀ σ' H', Pv xs.length σ' H' → tz D σ' H') :
    tSeq (tFor (iEnum K (tCons te tNil)) (gTup K 2 (gCons (gName j1) (gCons (gName j2) gNil))) tu) tz D σ H :=
  h H (Ex.refl _) _ fun H1 e1 => ⟨a, xs, rfl, Evl.sq_of (e1 _ _ ha), for_it walk_enum Pv (h0 _ e1) (fun i σ' H' _ p => Evl.sq_of (hG i σ' H' p)) (fun i x σ' H0 H' hi pv y => by
    obtain ⟨Tq, x1, y1, rfl, nT, rfl, hx1, hy1⟩ := y
    have hx1 : V.int (i : Int) = x1 := Option.some.inj hx1
    subst hx1
    exact ⟨Tq, _, rfl, Evl.st_of upd_same, rfl, _, _, rfl, _, _, rfl, rfl, hs i σ' H0 y1 hy1 pv _ (Ex.new nT)⟩) hd⟩
end
/-- within a lock of d -/
theorem rep_in {H1 H2 : Hp} {n : Nat} {S : Addr → Prop} {x : D} {v : V} {d : Addr} {es : List (Key × V)} {u : HO} (hd : H1 d = some (.dK es)) (e2 : Ex (upd H1 d u) H2) (h : Rep H1 n (fun b => S b ∧ b ≠ d) x v) : Rep H2 n (fun b => S b ∧ b ≠ d) x v :=
  rep_ex e2 (rep_lock hd (fun _ z => z.2) h)
theorem valV_at : ∀ {es : List (Key × V)} {i : Nat} {k : Key} {v : V}, (es.map (·.1)).Nodup → es[i]? = some (k, v) → valV es k = some v
  | [], i, k, v, _, h => by simp at h
  | e :: es, 0, k, v, _, h => by
    simp at h; subst h
    rw [vV_cons, if_pos rfl]
  | e :: es, i + 1, k, v, nd, h => by
    have h2 : es[i]? = some (k, v) := by simpa using h
    rw [List.map_cons, List.nodup_cons] at nd
    rw [vV_cons, if_neg, valV_at nd.2 h2]
    intro z
    refine nd.1 ?_
    rw [z]
    exact List.mem_map.mpr ⟨(k, v), List.mem_of_getElem? h2, rfl⟩
theorem take_snoc {α : Type} {l : List α} {i : Nat} {x : α} (h : l[i]? = some x) : l.take (i + 1) = l.take i ++ [x] := by rw [List.take_add_one, h]; rfl
theorem not_take {α : Type} {l : List α} {i : Nat} {x : α} (nd : l.Nodup) (h : l[i]? = some x) : x ∉ l.take i := fun hm =>
  (List.nodup_append.mp (by rw [← take_snoc h]; exact List.Sublist.nodup (List.take_sublist _ _) nd : (l.take i ++ [x]).Nodup)).2.2 x hm x (List.mem_singleton.mpr rfl) rfl
theorem vV_no : ∀ {es : List (Key × V)} {k : Key}, k ∉ es.map (·.1) → valV es k = none
  | [], _, _ => rfl
  | e :: es, k, h => by
    rw [vV_cons, if_neg (fun z => h (by rw [← z]; exact List.mem_cons_self))]
    exact vV_no fun z => h (List.mem_cons_of_mem _ z)
theorem inr_not {ks : List Str} {k : Str} (h : k ∉ ks) : (Sum.inr k : Key) ∉ ks.map Sum.inr := fun hm => by
  obtain ⟨x, hx, e⟩ := List.mem_map.mp hm
  exact h (by rw [← Sum.inr.inj e]; exact hx)
theorem pair_keys {α : Type} {F : Str × α → Key × V → Prop} {l : List (Str × α)} {es : List (Key × V)} (h : Paired (fun p e => e.1 = Sum.inr p.1 ∧ F p e) l es) : es.map (·.1) = (l.map (·.1)).map Sum.inr := by
  induction h with
  | nil => rfl
  | cons h t ih => rw [List.map_cons, List.map_cons, List.map_cons, ih, h.1]
theorem inr_nd {ks : List Str} (h : ks.Nodup) : (ks.map (Sum.inr : Str → Key)).Nodup := List.Pairwise.map _ (fun a b h z => h (Sum.inr.inj z)) h
def dT : D → String
  | .non => "NoneType" | .bl _ => "bool" | .int _ => "int" | .str _ => "str" | .lst _ => "list" | .tup _ => "tuple" | .dic _ => "dict"
theorem rep_ty {K : PySem.W.Frag} {H : Hp} {n : Nat} {S : Addr → Prop} {d : D} {v : V} (h : Rep H (n + 1) S d v) : TyOf K H v (.type (dT d)) := by
  cases d with
  | non => have e : v = .non := h; subst e; exact .non
  | bl b => have e : v = .bl b := h; subst e; exact .bl b
  | int i => have e : v = .int i := h; subst e; exact .int i
  | str s => have e : v = .str s := h; subst e; exact .str s
  | lst l => obtain ⟨a, xs, rfl, _, ha, _⟩ := h; exact .lst ha
  | tup l => obtain ⟨a, xs, rfl, ha, _⟩ := h; exact .tup ha
  | dic l => obtain ⟨a, es, rfl, _, ha, _⟩ := h; exact .dK ha
theorem ev_kind {K : PySem.W.Frag} {σ : L2.St} {H : Hp} {te : TE} {n : Nat} {S : Addr → Prop} {d : D} {v : V} {T : String} (b : Bool) (h : Ev te σ H v) (hr : Rep H (n + 1) S d v) (hk : kitB (dT d) T = some b) : Ev (tCB (rIsi K) (tCons te (tCons (tC (.ty T)) tNil))) σ H (.bl b) :=
  ev_isi h (fun H1 e1 => .base (rep_ty (rep_ex e1 hr))) (kit_ty hk)
/-- no dict and no bool, all the way down -/
def kn : Nat → D → Prop
  | n + 1, .lst l => ∀ x ∈ l, kn n x
  | n + 1, .tup l => ∀ x ∈ l, kn n x
  | _, .dic _ => False
  | _, .bl _ => False
  | _, _ => True
/-- an entry of a dict of data -/
theorem rep_entry {H : Hp} {n : Nat} {S : Addr → Prop} {l : List (Str × D)} {k : Str} {d : D} {a : Addr} {es : List (Key × V)} (pr : Paired (fun (q : Str × D) (e : Key × V) => e.1 = Sum.inr q.1 ∧ Rep H n (fun b => S b ∧ b ≠ a) q.2 e.2) l es) (hk : l.lookup k = some d) :
    ∃ v, valV es (Sum.inr k : Key) = some v ∧ Rep H n (fun b => S b ∧ b ≠ a) d v := pair_lk (F := fun d v => Rep H n (fun b => S b ∧ b ≠ a) d v) pr hk
theorem rep_upd {H : Hp} {n : Nat} {S : Addr → Prop} {d : D} {v : V} {a : Addr} {o u : HO} (ha : H a = some o) (no : ∀ xs, o ≠ .tup xs) (hS : ∀ b, S b → b ≠ a) (h : Rep H n S d v) : Rep (upd H a u) n S d v :=
  rep_to (fun b o' hb z => by
    have ne : b ≠ a := by
      rcases z with z | ⟨xs, rfl⟩
      · exact hS b z
      · intro e; rw [e, ha] at hb; exact no xs (Option.some.inj hb)
    rw [upd_ne ne]; exact hb) h
end Pk

namespace Pk
open PySem PySem.Spec PyProof.Rows L2 Ssb
open Evl (Ex Ev EvT EvL EvA EvU)
theorem kit_list : ∀ t ∈ ["NoneType", "bool", "int", "str", "tuple", "dict"], kitB t "list" = some false := by decide +kernel
theorem kit_tuple : ∀ t ∈ ["NoneType", "bool", "int", "str", "list", "dict"], kitB t "tuple" = some false := by decide +kernel
theorem kit_dict : ∀ t ∈ ["NoneType", "bool", "int", "str", "list", "tuple"], kitB t "dict" = some false := by decide +kernel
end Pk

namespace Pk
open PySem PySem.Spec PyProof.Rows L2 Ssb
open Evl (Ex Ev EvT EvL EvA EvU)
theorem map_range {α β : Type} {f : Nat → β} {g : α → β} : ∀ {l : List α} {n : Nat}, l.length = n → (∀ (i : Nat) (a : α), l[i]? = some a → f i = g a) → (List.range n).map f = l.map g := fun {l n} hn h => by
  refine List.ext_getElem? fun i => ?_
  rw [List.getElem?_map, List.getElem?_map]
  by_cases hi : i < n
  · have e : l[i]? = some (l[i]'(by omega)) := List.getElem?_eq_getElem (by omega)
    rw [e, List.getElem?_range hi]
    exact congrArg some (h i _ e)
  · have e : l[i]? = none := List.getElem?_eq_none_iff.mpr (by omega)
    rw [e, List.getElem?_eq_none_iff.mpr (by rw [List.length_range]; omega)]
    rfl
/-! ### the stream -/
def StAt (H : Hp) (S c : Addr) : Prop := S ≠ c ∧ ∃ (k : Int) (cs : List Int), H S = some (.lst [.ref c, .int k]) ∧ H c = some (.lst (cs.map V.int)) ∧ 0 < cs.length ∧ cs.length ≤ 63
/-- from H to H': the stream moved, all else stands -/
structure Mv (S c : Addr) (H H' : Hp) : Prop where
  a : StAt H S c
  z : StAt H' S c
  fr : ∀ b o, b ≠ S → b ≠ c → H b = some o → H' b = some o
theorem StAt.ex {S c : Addr} {H H' : Hp} (e : Ex H H') (h : StAt H S c) : StAt H' S c := by
  obtain ⟨n, k, cs, h1, h2, h3⟩ := h; exact ⟨n, k, cs, e _ _ h1, e _ _ h2, h3⟩
theorem Mv.ex {S c : Addr} {H H' : Hp} (a : StAt H S c) (e : Ex H H') : Mv S c H H' := ⟨a, a.ex e, fun b o _ _ h => e b o h⟩
theorem Mv.trans {S c : Addr} {H H' H2 : Hp} (m : Mv S c H H') (m2 : Mv S c H' H2) : Mv S c H H2 := ⟨m.a, m2.z, fun b o n1 n2 h => m2.fr b o n1 n2 (m.fr b o n1 n2 h)⟩
theorem Mv.tx {S c : Addr} {H H' H2 : Hp} (m : Mv S c H H') (e : Ex H' H2) : Mv S c H H2 := m.trans (.ex m.z e)
theorem StAt.someS {S c : Addr} {H : Hp} (a : StAt H S c) {b : Addr} (h : H b = none) : b ≠ S ∧ b ≠ c := by
  obtain ⟨n, k, cs, h1, h2, h3⟩ := a
  exact ⟨fun e => (by rw [e, h1] at h; cases h), fun e => (by rw [e, h2] at h; cases h)⟩
theorem Mv.back {S c : Addr} {H H' : Hp} (m : Mv S c H H') {b : Addr} (h : H' b = none) : H b = none := by
  obtain ⟨n1, n2⟩ := m.z.someS h
  cases e : H b with
  | none => rfl
  | some o => rw [m.fr b o n1 n2 e] at h; cases h
/-- an object that H does not know may change -/
theorem Mv.mut {S c : Addr} {H H' : Hp} {p : Addr} {o : HO} (m : Mv S c H H') (h : H p = none) : Mv S c H (upd H' p o) := by
  obtain ⟨n1, n2⟩ := m.a.someS h
  obtain ⟨n, k, cs, h1, h2, h3⟩ := m.z
  refine ⟨m.a, ⟨n, k, cs, by rw [upd_ne (Ne.symm n1)]; exact h1, by rw [upd_ne (Ne.symm n2)]; exact h2, h3⟩, fun b o' b1 b2 hb => ?_⟩
  have : b ≠ p := fun e => by rw [e, h] at hb; cases hb
  rw [upd_ne this]
  exact m.fr b o' b1 b2 hb
theorem Mv.new {S c : Addr} {H : Hp} {p : Addr} {o : HO} (a : StAt H S c) (h : H p = none) : Mv S c H (upd H p o) := .ex a (Ex.new h)
theorem rep_mv {S c : Addr} {H H' : Hp} (m : Mv S c H H') {n : Nat} {P : Addr → Prop} {d : D} {v : V} (n1 : ¬ P S) (n2 : ¬ P c) (h : Rep H n P d v) : Rep H' n P d v := by
  obtain ⟨_, k, cs, h1, h2, _⟩ := m.a
  refine rep_to (fun b o hb hp => m.fr b o (fun e => ?_) (fun e => ?_) hb) h
  · rw [e] at hp hb
    rcases hp with hp | ⟨xs, rfl⟩
    · exact n1 hp
    · rw [h1] at hb; cases hb
  · rw [e] at hp hb
    rcases hp with hp | ⟨xs, rfl⟩
    · exact n2 hp
    · rw [h2] at hb; cases hb
theorem Mv.tup {S c : Addr} {H H' : Hp} (m : Mv S c H H') {t : Addr} {xs : List V} (h : H t = some (.tup xs)) : H' t = some (.tup xs) := by
  obtain ⟨_, k, cs, h1, h2, _⟩ := m.a
  exact m.fr t _ (fun e => by rw [e, h1] at h; cases h) (fun e => by rw [e, h2] at h; cases h) h
theorem ev_int1 {te : TE} {σ : L2.St} {H : Hp} {i : Int} (h : Ev te σ H (.int i)) : Ev (tCB (fun xs H Q => (∃ i, xs = [V.int i] ∧ Q (.int i) H) ∨ ∃ k, xs = [V.bl k] ∧ Q (.int (if k then 1 else 0)) H) (tCons te tNil)) σ H (.int i) := fun H1 e Q q => h H1 e _ fun H2 e2 => .inl ⟨i, rfl, q H2 e2⟩
theorem at_get {α : Type} {xs : List α} {i : Int} (h0 : 0 ≤ i) (h1 : i < (xs.length : Int)) : ∃ v, xs[i.toNat]? = some v ∧ atI xs i = some v := by
  have h2 : i.toNat < xs.length := by omega
  refine ⟨xs[i.toNat], List.getElem?_eq_getElem h2, ?_⟩
  have := atI_nat (List.getElem?_eq_getElem h2)
  rw [show ((i.toNat : Nat) : Int) = i by omega] at this
  exact this
theorem shaped_ints (ns : List Int) : SeqAt.shaped (.list (ns.map PyData.int)) = true := by
  have h : PyData.canLayAll0 (ns.map PyData.int) = true ∧ PyData.depthAll (ns.map PyData.int) ≤ 1 := by
    induction ns with
    | nil => exact ⟨by simp [PyData.canLayAll0], by simp [PyData.depthAll]⟩
    | cons n ns ih => exact ⟨by simp [PyData.canLayAll0, PyData.canLay0, ih.1], by have := ih.2; simp [PyData.depthAll, PyData.depth]; omega⟩
  unfold SeqAt.shaped
  have h2 := h.2
  simp only [PyData.canLay0, PyData.depth, h.1, Bool.true_and]
  exact decide_eq_true (by omega)
theorem dp_ints {K : PySem.W.Frag} {H : Hp} {a : Addr} {ns : List Int} (h : SqL K H a (ns.map V.int)) : Dp K H (.ref a) (.list (ns.map PyData.int)) := by
  refine .lst h ?_
  clear h
  induction ns with
  | nil => exact .nil
  | cons n ns ih => exact .cons (.int n) ih
theorem el_lcN {K : PySem.W.Frag} {σ : L2.St} {H : Hp} {te tl : TE} {vs : List Nat} {j : Nat} {f : Nat → V} {xs : List V} (h : EvL tl σ H xs) (hz : xs.length ≤ 100000) (hw : ∀ x, wipe ((wipe σ vs).set j (some x)) vs = wipe σ vs)
    (he : ∀ (i : Nat) (x : V), xs[i]? = some x → ∀ H2, Ex H H2 → Ev te ((wipe σ vs).set j (some x)) H2 (f i)) : EvL (tLc (iList K tl) (gName j) tYes te vs) σ H ((List.range xs.length).map f) := fun H1 e Q q =>
  h H1 e _ fun a H2 ha e2 hx => ⟨a, rfl, ⟨xs, Evl.sq_of hx⟩, fun Dl hD =>
    el_walk (f := f) walk_list hz (fun H3 e3 => Evl.ex_l e3 (Evl.sq_of hx)) hw (fun i x h3 H3 e3 => he i x h3 H3 ((e.trans e2).trans e3)) (fun p H3 hp e3 hl => q p H3 (Evl.fresh_back e2 hp) (e2.trans e3) hl) Dl hD⟩
section
variable {P : Program} {w : World} {K : PySem.W.Frag} {mg : Str → Option Value} {base : Heap} {C_Node C_Rule C_InvalidRule : Addr}
def spStream (K : PySem.W.Frag) : Sp := fun vs H Q _ => ∃ (a : Addr) (ns : List Int), vs = [.ref a] ∧ SqL K H a (ns.map V.int) ∧ ∀ H' S c, StAt H' S c → Q (.ref S) H'
theorem ok__law_stream (T : Txt K mg C_Node C_Rule C_InvalidRule) (R : Prg K mg C_Node C_Rule C_InvalidRule) : ∃ f fd, Fn P w K mg base "_law_stream" 1 ["_law_script"] (spStream K) f fd := by
  obtain ⟨f, fd, at_, F, kp⟩ := R._law_stream
  refine ⟨f, fd, F.ok sc__law_stream (fun vs H Q E h => ?_) (fun cdv A outer s H vs Q E hr h => ?_), at_, kp, F.binds (fun _ _ _ _ _ _ us hl => match us, hl with | [_], _ => rfl)⟩
  · obtain ⟨a, ns, rfl, _⟩ := h; rfl
  · obtain ⟨a, ns, rfl, ha, k⟩ := h
    refine ⟨_, (pss_cons (ps_setLc (i := 1) (own := [("_law_cell", 2)]) rfl sc__law_stream.nd rfl rfl (sw_true rfl rfl rfl (by decide +kernel)) (show PI _ _ _ (iList K _) from pi_list (pe_slice (r := rSlL K) sl_list (pv 0) po_none (po_some pe_int))) (blkOk_by (own := [("_law_cell", 2)]) (N := ["_law_script", "_law_cells", "_law_cell"]) (sc := defScope s__law_stream) (by decide +kernel)) (fun _ _ _ _ _ => (pg_name (i := 2) sc__law_stream.nd rfl (Or.inl rfl))) (fun _ _ _ _ _ => pts_nil) (fun _ _ _ _ _ => (pe_callTy call_int1 (by rfl) T.int (by decide +kernel) (pa_cons (pv 2) pa_nil))))
  (Evl.pss_cut (ps_if (pt_cmpR (r := rEqD K) (op_eqD hr.units) (pv 1) (pe_lst pa_nil) (nomark _)) (pss_one (ps_set (i := 1) sc__law_stream.nd rfl (Or.inl rfl) (pe_lst (pa_cons pe_int pa_nil)))) pss_nil)
  (pss_one (ps_ret (pe_lst (pa_cons (pv 1) (pa_cons pe_int pa_nil))))))), ?_⟩
    obtain ⟨cs, hcs, c63⟩ : ∃ cs : List Int, cutV (ns.map V.int) none (some 63) = cs.map V.int ∧ cs.length ≤ 63 := by
      refine ⟨ns.take 63, ?_, by rw [List.length_take]; omega⟩
      unfold cutV
      rw [HT.sIx_none, show (some (63 : Int)) = some ((63 : Nat) : Int) from rfl, HT.sIx_nat, List.drop_zero, Nat.sub_zero, List.map_take]
      refine List.take_eq_take_iff.mpr ?_
      omega
    refine Evl.q_asgL (xs := cs.map V.int) ?_ fun p H1 hp e1 hp1 => ?_
    · have := el_lcN (K := K) (j := 2) (vs := [2]) (f := fun i => ((cs.map V.int)[i]?).getD .non) (te := tCB (fun xs H Q => (∃ i, xs = [V.int i] ∧ Q (.int i) H) ∨ ∃ k, xs = [V.bl k] ∧ Q (.int (if k then 1 else 0)) H) (tCons (tVar 2) tNil)) (hcs ▸ Evl.el_sl (σ := [some (.ref a), none, none]) (Evl.ev_var (i := 0) rfl) Evl.eo_none (Evl.eo_some Evl.ev_c) ha) (by rw [List.length_map]; omega) (fun _ => rfl) fun i x hx H2 e2 => ?_
      · rw [map_range (g := _root_.id) rfl (fun i a ha => by rw [ha]; rfl), List.map_id] at this
        exact this
      · rw [List.getElem?_map] at hx
        cases hy : cs[i]? with
        | none => rw [hy] at hx; cases hx
        | some y =>
        rw [hy] at hx
        cases hx
        refine Evl.ev_is (ev_int1 (i := y) (Evl.ev_var rfl)) ?_
        rw [List.getElem?_map, hy]; rfl
    · refine Evl.q_cut (M := fun σ' H' => ∃ (c : Addr) (cs : List Int) (o2 : Option V), σ' = [some (.ref a), some (.ref c), o2] ∧ H' c = some (.lst (cs.map V.int)) ∧ 0 < cs.length ∧ cs.length ≤ 63) ?_ ?_
      · refine ⟨_, rfl, (by show 0 ≤ sizeLine; decide), fun q hq => ?_⟩
        have e2 : Ex H1 (upd H1 q (.lst [])) := Ex.new hq
        refine ⟨_, _, dp_ints (ns := cs) (Evl.sq_of (e2 _ _ hp1)), dp_ints (ns := []) (Evl.sq_of upd_same), shaped_ints _, shaped_ints _, _, rfl, ?_⟩
        cases cs with
        | nil =>
          refine iteT ?_
          exact Evl.s_asgL (xs := [V.int 0]) (Evl.el_lst (Evl.ea_cons Evl.ev_c Evl.ea_nil) (by show 1 ≤ 100000; decide)) fun p2 H2 _ e3 hp2 => ⟨p2, [0], _, rfl, hp2, by decide, by decide⟩
        | cons x cs =>
          refine iteF ?_
          exact ⟨p, x :: cs, _, rfl, e2 _ _ hp1, by simp, c63⟩
      · rintro σ' H' ⟨c, cs, o2, rfl, hc, c0, c1⟩
        exact Evl.s_retL (xs := [.ref c, .int 0]) (Evl.el_lst (Evl.ea_cons (Evl.ev_var rfl) (Evl.ea_cons Evl.ev_c Evl.ea_nil)) (by show 2 ≤ 100000; decide)) fun q H2 hq e2 hq2 => k H2 q c ⟨fun e => (by rw [e, hc] at hq; cases hq), 0, cs, hq2, e2 _ _ hc, c0, c1⟩
def spDraw : Sp := fun vs H Q _ => ∃ (S c : Addr) (m : Int), vs = [.ref S, .int m] ∧ StAt H S c ∧ 1 ≤ m ∧ m < 1073741824 * 1073741824 * 1073741824 * 1073741824 ∧ ∀ H' r, Mv S c H H' → 0 ≤ r → r < m → Q (.int r) H'
theorem ok__law_draw (T : Txt K mg C_Node C_Rule C_InvalidRule) (R : Prg K mg C_Node C_Rule C_InvalidRule) : ∃ f fd, Fn P w K mg base "_law_draw" 1 ["_law_stream_here", "_law_many"] spDraw f fd := by
  obtain ⟨f, fd, at_, F, kp⟩ := R._law_draw
  refine ⟨f, fd, F.ok sc__law_draw (fun vs H Q E h => ?_) (fun cdv A outer s H vs Q E hr h => ?_), at_, kp, F.binds (fun _ _ _ _ _ _ us hl => match us, hl with | [_, _], _ => rfl)⟩
  · obtain ⟨S, c, m, rfl, _⟩ := h; rfl
  · obtain ⟨S, c, m, rfl, st, m1, m2, k⟩ := h
    obtain ⟨ne, k0, cs, hS, hc, c0, c63⟩ := id st
    refine ⟨_, (pss_cons (ps_set (i := 2) sc__law_draw.nd rfl (Or.inl rfl) (pe_ix (r := rIxL K) ix_list (pv 0) pe_int (fun _ _ => rfl)))
  (pss_cons (ps_set (i := 3) sc__law_draw.nd rfl (Or.inl rfl) (pe_ix (r := rIxL K) ix_list (pv 0) pe_int (fun _ _ => rfl)))
  (pss_cons (ps_asg (pe_op op_add (pv 3) pe_int) (pg_sub (pv 0) pe_int set_list))
  (pss_cons (ps_set (i := 4) sc__law_draw.nd rfl (Or.inl rfl) (pe_op op_mod (pe_callTy call_int1 (by rfl) T.int (by decide +kernel) (pa_cons (pv 3) pa_nil)) (pe_callB (r := rLenA K) call_len (by rfl) T.len (by decide +kernel) (pa_cons (pv 2) pa_nil))))
  (pss_cons (ps_set (i := 5) sc__law_draw.nd rfl (Or.inl rfl) (pe_ix (r := rIxL K) ix_list (pv 2) (pv 4) (fun _ _ => rfl)))
  (pss_cons (ps_if (pt_cmpR op_ge (pv 5) (pe_op op_pow pe_int pe_int) (nomark _)) (pss_cons (ps_asg (pe_op op_fdivW (pv 5) (pv 1)) (pg_sub (pv 2) (pv 4) set_list))
  (pss_one (ps_ret (pe_op op_mod (pe_callTy call_int1 (by rfl) T.int (by decide +kernel) (pa_cons (pv 5) pa_nil)) (pv 1))))) pss_nil)
  (pss_cons (ps_set (i := 6) sc__law_draw.nd rfl (Or.inl rfl) (pe_op op_mod (pe_op op_mul (pe_callTy call_int1 (by rfl) T.int (by decide +kernel) (pa_cons (pe_op op_add (pe_op op_add (pv 5) (pe_op op_mul pe_int (pv 3))) pe_int) pa_nil)) pe_int) pe_int))
  (pss_cons (ps_set (i := 6) sc__law_draw.nd rfl (Or.inl rfl) (pe_op op_mod (pe_callTy call_int1 (by rfl) T.int (by decide +kernel) (pa_cons (pe_op op_mul (pv 6) (pe_op op_add (pe_op op_fdiv (pv 6) pe_int) pe_int)) pa_nil)) pe_int))
  (pss_cons (ps_set (i := 6) sc__law_draw.nd rfl (Or.inl rfl) (pe_op op_mod (pe_callTy call_int1 (by rfl) T.int (by decide +kernel) (pa_cons (pe_op op_mul (pv 6) (pe_op op_add (pe_op op_fdiv (pv 6) pe_int) pe_int)) pa_nil)) pe_int))
  (pss_one (ps_ret (pe_op op_mod (pe_callTy call_int1 (by rfl) T.int (by decide +kernel) (pa_cons (pv 6) pa_nil)) (pv 1))))))))))))), ?_⟩
    refine Evl.q_asg (Evl.ev_op (Evl.ev_var rfl) Evl.ev_c (Evl.rv_ixL (Evl.sq_of hS) rfl)) fun H1 e1 => ?_
    refine Evl.q_asg (Evl.ev_op (Evl.ev_var rfl) Evl.ev_c (Evl.rv_ixL (Evl.sq_of (e1 _ _ hS)) rfl)) fun H2 e2 => ?_
    have e02 := e1.trans e2
    refine Evl.q_setL (l := S) (j := 1) (v := .int (k0 + 1)) (e02 _ _ hS) (Evl.ev_op (Evl.ev_var rfl) Evl.ev_c Evl.rv_I0) (Evl.ev_var rfl) Evl.ev_c (by show 1 < 2; decide) fun H3 e3 => ?_
    have m3 : Mv S c H (upd H3 S (.lst ([V.ref c, .int k0].set 1 (.int (k0 + 1))))) := by
      have e03 := e02.trans e3
      refine ⟨st, ⟨ne, k0 + 1, cs, upd_same, by rw [upd_ne (Ne.symm ne)]; exact e03 _ _ hc, c0, c63⟩, fun b o b1 b2 hb => ?_⟩
      rw [upd_ne b1]
      exact e03 _ _ hb
    have hc3 : (upd H3 S (.lst ([V.ref c, .int k0].set 1 (.int (k0 + 1))))) c = some (.lst (cs.map V.int)) := by rw [upd_ne (Ne.symm ne)]; exact (e02.trans e3) _ _ hc
    generalize (upd H3 S (.lst ([V.ref c, .int k0].set 1 (.int (k0 + 1))))) = H4 at m3 hc3 ⊢
    have l0 : (0 : Int) < ((cs.map V.int).length : Int) := by rw [List.length_map]; omega
    refine Evl.q_asg (Evl.ev_op (ev_int1 (Evl.ev_var rfl)) (ev_lenL (Evl.ev_var rfl) (.inl (Evl.sq_of hc3))) (Evl.rv_I l0)) fun H5 e5 => ?_
    have a0 : 0 ≤ k0 % ((cs.map V.int).length : Int) := Int.emod_nonneg _ (by omega)
    have a1 : k0 % ((cs.map V.int).length : Int) < ((cs.map V.int).length : Int) := Int.emod_lt_of_pos _ l0
    generalize k0 % ((cs.map V.int).length : Int) = at_ at a0 a1 ⊢
    obtain ⟨v, hv, hat⟩ := at_get a0 a1
    obtain ⟨x, rfl⟩ : ∃ x, v = V.int x := by
      rw [List.getElem?_map] at hv
      cases hy : cs[at_.toNat]? with
      | none => rw [hy] at hv; cases hv
      | some y => rw [hy] at hv; exact ⟨y, (Option.some.inj hv).symm⟩
    refine Evl.q_asg (Evl.ev_op (Evl.ev_var rfl) (Evl.ev_var rfl) (Evl.rv_ixL (Evl.sq_of (e5 _ _ hc3)) hat)) fun H6 e6 => ?_
    have m6 := m3.tx (e5.trans e6)
    have hc6 := (e5.trans e6) _ _ hc3
    clear hc3 m3 e5 e6 e3 e02 e2 e1
    refine Evl.q_when (Evl.et_test (Evl.ev_op (Evl.ev_var rfl) (Evl.ev_op Evl.ev_c Evl.ev_c (Evl.rv_I ⟨by decide, by decide, by decide⟩)) Evl.rv_I0)) (fun _ H7 e7 => ?_) (fun _ H7 e7 => ?_)
    · have ej : ((at_.toNat : Nat) : Int) = at_ := by omega
      refine Evl.q_setL (l := c) (j := at_.toNat) (v := .int (x / m)) (e7 _ _ hc6) (Evl.ev_op (Evl.ev_var rfl) (Evl.ev_var rfl) (Evl.rv_I ⟨by omega, ?_⟩)) (Evl.ev_var rfl) (Evl.ev_var (by rw [ej]; rfl)) (by omega) fun H8 e8 => ?_
      · have : m.natAbs < 2 ^ 120 := by omega
        have h2 : m.natAbs.log2 < 120 := (Nat.log2_lt (by omega)).mpr this
        omega
      · have m8 : Mv S c H (upd H8 c (.lst ((cs.map V.int).set at_.toNat (.int (x / m))))) := by
          have m7 := m6.tx (e7.trans e8)
          obtain ⟨_, k1, cs1, h1, h2, h3⟩ := m7.z
          refine ⟨st, ⟨ne, k1, cs.set at_.toNat (x / m), by rw [upd_ne ne]; exact h1, by rw [upd_same, List.map_set], by rw [List.length_set]; exact c0, by rw [List.length_set]; exact c63⟩, fun b o b1 b2 hb => ?_⟩
          rw [upd_ne b2]
          exact m7.fr b o b1 b2 hb
        refine Evl.s_ret (Evl.ev_op (ev_int1 (Evl.ev_var rfl)) (Evl.ev_var rfl) (Evl.rv_I (by omega))) fun H9 e9 => k H9 _ (m8.tx e9) (Int.emod_nonneg _ (by omega)) (Int.emod_lt_of_pos _ (by omega))
    · have m7 := m6.tx e7
      refine Evl.q_asg (Evl.ev_op (Evl.ev_op (ev_int1 (Evl.ev_op (Evl.ev_op (Evl.ev_var rfl) (Evl.ev_op Evl.ev_c (Evl.ev_var rfl) (Evl.rv_I (.inl ⟨by decide, by decide⟩))) Evl.rv_I0) Evl.ev_c Evl.rv_I0)) Evl.ev_c (Evl.rv_I (.inr ⟨by decide, by decide⟩))) Evl.ev_c (Evl.rv_I (by decide))) fun H8 e8 => ?_
      have b0 : 0 ≤ (x + 7919 * k0 + 1) * 48271 % 2147483647 := Int.emod_nonneg _ (by decide)
      have b1 : (x + 7919 * k0 + 1) * 48271 % 2147483647 < 2147483647 := Int.emod_lt_of_pos _ (by decide)
      generalize (x + 7919 * k0 + 1) * 48271 % 2147483647 = y at b0 b1 ⊢
      refine Evl.q_asg (Evl.ev_op (ev_int1 (Evl.ev_op (Evl.ev_var rfl) (Evl.ev_op (Evl.ev_op (Evl.ev_var rfl) Evl.ev_c (Evl.rv_I ⟨by decide, by decide⟩)) Evl.ev_c Evl.rv_I0) (Evl.rv_I (.inl ⟨by omega, by omega⟩)))) Evl.ev_c (Evl.rv_I (by decide))) fun H9 e9 => ?_
      have b0 : 0 ≤ y * (y / 1009 + 69621) % 2147483647 := Int.emod_nonneg _ (by decide)
      have b1 : y * (y / 1009 + 69621) % 2147483647 < 2147483647 := Int.emod_lt_of_pos _ (by decide)
      generalize y * (y / 1009 + 69621) % 2147483647 = z at b0 b1 ⊢
      refine Evl.q_asg (Evl.ev_op (ev_int1 (Evl.ev_op (Evl.ev_var rfl) (Evl.ev_op (Evl.ev_op (Evl.ev_var rfl) Evl.ev_c (Evl.rv_I ⟨by decide, by decide⟩)) Evl.ev_c Evl.rv_I0) (Evl.rv_I (.inl ⟨by omega, by omega⟩)))) Evl.ev_c (Evl.rv_I (by decide))) fun H10 e10 => ?_
      refine Evl.s_ret (Evl.ev_op (ev_int1 (Evl.ev_var rfl)) (Evl.ev_var rfl) (Evl.rv_I (by omega))) fun H11 e11 => k H11 _ (m7.tx (e8.trans (e9.trans (e10.trans e11)))) (Int.emod_nonneg _ (by omega)) (Int.emod_lt_of_pos _ (by omega))
end
end Pk

namespace Pk
open PySem PySem.Spec PyProof.Rows L2 Ssb
open Evl (Ex Ev EvT EvL EvA EvU)
/-! ### owners -/
def ownD : D → D
  | .tup (_ :: _ :: ow :: _) => ow
  | _ => .non
def belowD : D → List D
  | .tup (_ :: _ :: _ :: .lst bl :: _) => bl
  | _ => []
/-- the owners of all nodes -/
def ownsD : Nat → List D → List D
  | 0, _ => []
  | m + 1, ds => ds.flatMap fun d => ownD d :: ownsD m (belowD d)
theorem owns_nil : ∀ m, ownsD m [] = []
  | 0 => rfl
  | _ + 1 => rfl
theorem owns_app {m : Nat} {xs ys : List D} : ownsD (m + 1) (xs ++ ys) = ownsD (m + 1) xs ++ ownsD (m + 1) ys := List.flatMap_append
theorem owns_one {m : Nat} {d : D} : ownsD (m + 1) [d] = ownD d :: ownsD m (belowD d) := by
  show List.flatMap _ [d] = _
  rw [List.flatMap_cons, List.flatMap_nil, List.append_nil]
/-- where the owners of a generated tree stand -/
def PlD : Nat → List Int → List D → Prop
  | 0, _, _ => True
  | m + 1, pl, ds => ∀ (i : Nat) (d : D), ds[i]? = some d → (∃ z : Int, ownD d = .tup [.tup ((pl ++ [0 + (i : Int)]).map D.int), .tup [.int z]]) ∧ PlD m (pl ++ [0 + (i : Int), 0]) (belowD d)
theorem PlD.nil : ∀ {m : Nat} {pl : List Int}, PlD m pl []
  | 0, _ => True.intro
  | _ + 1, _ => fun i d h => by simp at h
theorem PlD.snoc {m i : Nat} {pl : List Int} {ds : List D} {d : D} (h : PlD (m + 1) pl ds) (l : ds.length = i) (ho : ∃ z : Int, ownD d = .tup [.tup ((pl ++ [0 + (i : Int)]).map D.int), .tup [.int z]]) (hb : PlD m (pl ++ [0 + (i : Int), 0]) (belowD d)) : PlD (m + 1) pl (ds ++ [d]) := fun j e hj => by
  by_cases c : j < ds.length
  · rw [List.getElem?_append_left c] at hj
    exact h j e hj
  · have lj := (List.getElem?_eq_some_iff.mp hj).1
    rw [List.length_append, List.length_singleton] at lj
    have : j = i := by omega
    subst this
    rw [List.getElem?_append_right (by omega)] at hj
    have e0 : j - ds.length = 0 := by omega
    rw [e0] at hj
    cases hj
    exact ⟨ho, hb⟩
/-! ### trees of nodes, as data -/
theorem q_go {te : TE} {i : Nat} {tz : TS} {D_ : Ends} {σ : L2.St} {H : Hp} (h : te σ H fun v H1 => tz D_ (σ.set i (some v)) H1) : tSeq (tAsg te (gName i)) tz D_ σ H := h
theorem q_seq {tu tz : TS} {D_ : Ends} {σ : L2.St} {H : Hp} (h : tu { D_ with nx := tz D_ } σ H) : tSeq tu tz D_ σ H := h
def Fs : Addr → Prop := fun _ => False
/-- a key of a node -/
def KyD (d : D) : Prop := kdD 3 d ∧ (d = .non ∨ ∃ l, d = .tup l)
/-- nodes of at most that depth, at most b in a list -/
def NdB (b : Nat) : Nat → D → Prop
  | 0, _ => False
  | m + 1, d => ∃ kd ky ow bl, d = .tup [kd, ky, ow, .lst bl] ∧ (kd = .non ∨ ∃ s, kd = .str s) ∧ KyD ky ∧ (∃ l, ow = .tup l ∧ kdD 3 ow) ∧ bl.length ≤ b ∧ ∀ x ∈ bl, NdB b m x
abbrev NdD : Nat → D → Prop := NdB 24
theorem NdB.le {b b' : Nat} (h : b ≤ b') : ∀ {m m' : Nat} {d : D}, m ≤ m' → NdB b m d → NdB b' m' d
  | 0, _, _, _, h => h.elim
  | m + 1, 0, _, l, _ => absurd l (by omega)
  | m + 1, m' + 1, _, l, h0 => by
    obtain ⟨kd, ky, ow, bl, e, h1, h2, h3, h4, h5⟩ := h0
    exact ⟨kd, ky, ow, bl, e, h1, h2, h3, Nat.le_trans h4 h, fun x hx => NdB.le h (by omega) (h5 x hx)⟩
section
variable {K : PySem.W.Frag} {σ : L2.St} {H : Hp} {S c : Addr} {m : Int} {ta : TA}
theorem dr_go {Q : VK} (h : EvA ta σ H [.ref S, .int m]) (st : StAt H S c) (h1 : 1 ≤ m) (h2 : m ≤ 2000000) (q : ∀ H' r, Mv S c H H' → 0 ≤ r → r < m → Q (.int r) H') : tCall spDraw [] E0 ta σ H Q :=
  h H (Ex.refl _) _ fun H1 e1 => ⟨S, c, m, rfl, st.ex e1, h1, by omega, fun H' r mv r0 r1 => q H' r ((Mv.ex st e1).trans mv) r0 r1⟩
theorem pick2 {x y : Str} {Q : VK} (st : StAt H S c) (h0 : σ[0]? = some (some (.ref S))) (k : ∀ H' z, Mv S c H H' → Q (.str z) H') : (tOp (rIxT K) (tTup (tCons (tC (.str x)) (tCons (tC (.str y)) tNil))) (tCall spDraw [] E0 (tCons (tVar 0) (tCons (tC (.int 2)) tNil)))) σ H Q := by
  refine ⟨(by show 2 ≤ sizeLine; decide), fun ab hab => ?_⟩
  have m1 := Mv.new (o := .tup [.str x, .str y]) st hab
  refine dr_go (m := 2) (Evl.ea_cons (Evl.ev_var h0) (Evl.ea_cons Evl.ev_c Evl.ea_nil)) m1.z (by decide) (by decide) fun H2 r m2 r0 r1 => ?_
  have hab2 := m2.tup (upd_same (H := H) (a := ab) (o := .tup [.str x, .str y]))
  have : r = 0 ∨ r = 1 := by omega
  rcases this with rfl | rfl
  · exact ⟨ab, [.str x, .str y], 0, .str x, rfl, rfl, Evl.st_of hab2, rfl, k _ _ (m1.trans m2)⟩
  · exact ⟨ab, [.str x, .str y], 1, .str y, rfl, rfl, Evl.st_of hab2, rfl, k _ _ (m1.trans m2)⟩
theorem pick3 {x y : Str} {Q : VK} (st : StAt H S c) (h0 : σ[0]? = some (some (.ref S))) (k : ∀ H' d v, Mv S c H H' → (d = .non ∨ ∃ s, d = .str s) → (∀ n H2, Rep H2 (n + 1) Fs d v) → Q v H') : (tOp (rIxT K) (tTup (tCons (tC .non) (tCons (tC (.str x)) (tCons (tC (.str y)) tNil)))) (tCall spDraw [] E0 (tCons (tVar 0) (tCons (tC (.int 3)) tNil)))) σ H Q := by
  refine ⟨(by show 3 ≤ sizeLine; decide), fun ab hab => ?_⟩
  have m1 := Mv.new (o := .tup [.non, .str x, .str y]) st hab
  refine dr_go (m := 3) (Evl.ea_cons (Evl.ev_var h0) (Evl.ea_cons Evl.ev_c Evl.ea_nil)) m1.z (by decide) (by decide) fun H2 r m2 r0 r1 => ?_
  have hab2 := m2.tup (upd_same (H := H) (a := ab) (o := .tup [.non, .str x, .str y]))
  have : r = 0 ∨ r = 1 ∨ r = 2 := by omega
  rcases this with rfl | rfl | rfl
  · exact ⟨ab, [.non, .str x, .str y], 0, .non, rfl, rfl, Evl.st_of hab2, rfl, k _ .non _ (m1.trans m2) (.inl rfl) fun _ _ => rfl⟩
  · exact ⟨ab, [.non, .str x, .str y], 1, .str x, rfl, rfl, Evl.st_of hab2, rfl, k _ (.str x) _ (m1.trans m2) (.inr ⟨_, rfl⟩) fun _ _ => rfl⟩
  · exact ⟨ab, [.non, .str x, .str y], 2, .str y, rfl, rfl, Evl.st_of hab2, rfl, k _ (.str y) _ (m1.trans m2) (.inr ⟨_, rfl⟩) fun _ _ => rfl⟩
end
section
variable {P : Program} {w : World} {K : PySem.W.Frag} {mg : Str → Option Value} {base : Heap} {C_Node C_Rule C_InvalidRule : Addr}
theorem cat_ints {σ : L2.St} {H : Hp} {t1 : TE} {t2 : TA} {a : Addr} {xs ys : List V} {Q : VK} (h1 : Ev t1 σ H (.ref a)) (ha : H a = some (.tup xs)) (h2 : EvA t2 σ H ys) (ne : ys ≠ []) (l : xs.length + ys.length ≤ 1000)
    (q : ∀ H' p, Ex H H' → H' p = some (.tup (xs ++ ys)) → Q (.ref p) H') : tOp (rCatA K) t1 (tTup t2) σ H Q :=
  h1 H (Ex.refl _) _ fun H1 e1 => h2 H1 e1 _ fun H2 e2 => ⟨Nat.le_trans (Nat.le_trans (Nat.le_add_left _ _) l) (by show 1000 ≤ sizeLine; decide), fun t ht => ⟨a, t, xs, ys, rfl, rfl, Evl.st_of (((e1.trans e2).trans (Ex.new ht)) _ _ ha), Evl.st_of upd_same, Evl.sz_of (by omega),
    fun z => q _ _ ((e1.trans e2).trans (Ex.new ht)) (by rw [z]; exact upd_same), fun _ z => absurd z ne, fun _ _ p hp => q _ _ (((e1.trans e2).trans (Ex.new ht)).trans (Ex.new hp)) upd_same⟩⟩
def spTKey : Sp := fun vs H Q _ => ∃ (S c : Addr), vs = [.ref S] ∧ StAt H S c ∧ ∀ H' v d, Mv S c H H' → Rep H' 4 Fs d v → KyD d → Q v H'
theorem ok__law_tree_key (T : Txt K mg C_Node C_Rule C_InvalidRule) (R : Prg K mg C_Node C_Rule C_InvalidRule) : ∃ f fd, Fn P w K mg base "_law_tree_key" 2 ["_law_stream_here"] spTKey f fd := by
  obtain ⟨_, _, G__law_draw⟩ := ok__law_draw (P := P) (w := w) (base := base) T R
  obtain ⟨f, fd, at_, F, kp⟩ := R._law_tree_key
  refine ⟨f, fd, F.ok sc__law_tree_key (fun vs H Q E h => ?_) (fun cdv A outer s H vs Q E hr h => ?_), at_, kp, F.binds (fun _ _ _ _ _ _ us hl => match us, hl with | [_], _ => rfl)⟩
  · obtain ⟨S, c, rfl, _⟩ := h; rfl
  · obtain ⟨S, c, rfl, st, k⟩ := h
    refine ⟨_, (pss_cons (ps_set (i := 1) sc__law_tree_key.nd rfl (Or.inl rfl) (pcl G__law_draw hr (pa_cons (pv 0) (pa_cons pe_int pa_nil))))
  (pss_cons (ps_if (pt_cmpR op_lt (pv 1) pe_int (nomark _)) (pss_one (ps_ret pe_non)) pss_nil)
  (pss_cons (ps_if (pt_cmpR op_eq (pv 1) pe_int (nomark _)) (pss_one (ps_ret (pe_tup (pa_cons pe_str (pa_cons (pe_ix (r := rIxT K) ix_tup (pe_tup (pa_cons pe_str (pa_cons pe_str pa_nil))) (pcl G__law_draw hr (pa_cons (pv 0) (pa_cons pe_int pa_nil))) (fun _ _ => rfl)) pa_nil))))) pss_nil)
  (pss_cons (ps_if (pt_cmpR op_eq (pv 1) pe_int (nomark _)) (pss_one (ps_ret (pe_tup (pa_cons pe_str (pa_cons (pcl G__law_draw hr (pa_cons (pv 0) (pa_cons pe_int pa_nil))) pa_nil))))) pss_nil)
  (pss_one (ps_ret (pe_tup (pa_cons pe_str (pa_cons (pe_tup (pa_cons pe_str (pa_cons (pcl G__law_draw hr (pa_cons (pv 0) (pa_cons pe_int pa_nil))) pa_nil))) (pa_cons (pe_tup (pa_cons pe_str (pa_cons (pe_ix (r := rIxT K) ix_tup (pe_tup (pa_cons pe_str (pa_cons pe_str pa_nil))) (pcl G__law_draw hr (pa_cons (pv 0) (pa_cons pe_int pa_nil))) (fun _ _ => rfl)) pa_nil))) pa_nil)))))))))), ?_⟩
    refine q_go (dr_go (m := 5) (Evl.ea_cons (Evl.ev_var rfl) (Evl.ea_cons Evl.ev_c Evl.ea_nil)) st (by decide) (by decide) fun H1 r m1 r0 r1 => ?_)
    refine Evl.q_when (Evl.et_test (Evl.ev_op (Evl.ev_var rfl) Evl.ev_c Evl.rv_I0)) (fun hb H2 e2 => Evl.s_ret Evl.ev_c fun H3 e3 => k H3 _ .non (m1.tx (e2.trans e3)) rfl ⟨trivial, .inl rfl⟩) fun hb H2 e2 => ?_
    have m2 := m1.tx e2
    refine Evl.q_when (Evl.et_test (Evl.ev_op (Evl.ev_var rfl) Evl.ev_c (Evl.rv_eq rfl))) (fun hb H3 e3 => ?_) fun hb H3 e3 => ?_
    · have m3 := m2.tx e3
      refine pick2 m3.z rfl fun H4 z m4 => ⟨(by show 2 ≤ sizeLine; decide), fun tp htp => ?_⟩
      exact k _ _ (.tup [.str "word", .str z]) ((m3.trans m4).tx (Ex.new htp)) ⟨tp, _, rfl, upd_same, by show 2 ≤ 100000; decide, .cons rfl (.cons rfl .nil)⟩ ⟨fun x hx => by
        rcases List.mem_cons.mp hx with rfl | hx
        · trivial
        · rw [List.mem_singleton.mp hx]; trivial, .inr ⟨_, rfl⟩⟩
    have m3 := m2.tx e3
    refine Evl.q_when (Evl.et_test (Evl.ev_op (Evl.ev_var rfl) Evl.ev_c (Evl.rv_eq rfl))) (fun hb H4 e4 => ?_) fun hb H4 e4 => ?_
    · have m4 := m3.tx e4
      refine dr_go (m := 3) (Evl.ea_cons (Evl.ev_var rfl) (Evl.ea_cons Evl.ev_c Evl.ea_nil)) m4.z (by decide) (by decide) fun H5 z m5 _ _ => ⟨(by show 2 ≤ sizeLine; decide), fun tp htp => ?_⟩
      exact k _ _ (.tup [.str "id", .int z]) ((m4.trans m5).tx (Ex.new htp)) ⟨tp, _, rfl, upd_same, by show 2 ≤ 100000; decide, .cons rfl (.cons rfl .nil)⟩ ⟨fun x hx => by
        rcases List.mem_cons.mp hx with rfl | hx
        · trivial
        · rw [List.mem_singleton.mp hx]; trivial, .inr ⟨_, rfl⟩⟩
    · have m4 := m3.tx e4
      refine dr_go (m := 2) (Evl.ea_cons (Evl.ev_var rfl) (Evl.ea_cons Evl.ev_c Evl.ea_nil)) m4.z (by decide) (by decide) fun H5 z m5 _ _ => ⟨(by show 2 ≤ sizeLine; decide), fun t1 h1 => ?_⟩
      have m5' := (m4.trans m5).tx (Ex.new (o := .tup [.str "id", .int z]) h1)
      refine pick2 m5'.z rfl fun H6 y m6 => ⟨(by show 2 ≤ sizeLine; decide), fun t2 h2 => ?_⟩
      have e6 := Ex.new (o := .tup [.str "field", .str y]) h2
      have h16 := e6 _ _ (m6.tup (upd_same (H := H5) (a := t1) (o := .tup [.str "id", .int z])))
      refine ⟨(by show 3 ≤ sizeLine; decide), fun t3 h3 => ?_⟩
      have e7 := Ex.new (o := .tup [.str "both", .ref t1, .ref t2]) h3
      exact k _ _ (.tup [.str "both", .tup [.str "id", .int z], .tup [.str "field", .str y]]) (((m5'.trans m6).tx e6).tx e7) ⟨t3, _, rfl, upd_same, by show 3 ≤ 100000; decide, .cons rfl (.cons ⟨t1, _, rfl, e7 _ _ h16, by show 2 ≤ 100000; decide, .cons rfl (.cons rfl .nil)⟩ (.cons ⟨t2, _, rfl, e7 _ _ upd_same, by show 2 ≤ 100000; decide, .cons rfl (.cons rfl .nil)⟩ .nil))⟩ ⟨fun x hx => by
        rcases List.mem_cons.mp hx with rfl | hx
        · trivial
        rcases List.mem_cons.mp hx with rfl | hx
        · intro x hx
          rcases List.mem_cons.mp hx with rfl | hx
          · trivial
          · rw [List.mem_singleton.mp hx]; trivial
        · rw [List.mem_singleton.mp hx]
          intro x hx
          rcases List.mem_cons.mp hx with rfl | hx
          · trivial
          · rw [List.mem_singleton.mp hx]; trivial, .inr ⟨_, rfl⟩⟩
def spTree (m : Nat) : Sp := fun vs H Q _ => ∃ (S c pa : Addr) (most : Int) (pl : List Int), vs = [.ref S, .int most, .int (m : Int), .ref pa] ∧ StAt H S c ∧ 0 ≤ most ∧ most ≤ 6 ∧ H pa = some (.tup (pl.map V.int)) ∧ pl.length + 2 * m ≤ 50 ∧ 0 < m ∧ ∀ H' q ds, Mv S c H H' → Rep H' (2 * m + 5) (fun b => H b = none) (.lst ds) (.ref q) → ds.length ≤ 6 → (∀ x ∈ ds, NdB 6 m x) → PlD m pl ds → Q (.ref q) H'
theorem rep_dom {H : Hp} : ∀ {n : Nat} {S : Addr → Prop} {d : D} {v : V}, Rep H n S d v → Rep H n (fun b => S b ∧ H b ≠ none) d v
  | 0, _, _, _, h => h.elim
  | n + 1, S, d, v, h => by
    cases d with
    | non => exact h
    | bl b => exact h
    | int i => exact h
    | str s => exact h
    | lst l =>
      obtain ⟨a, xs, e, s, ha, hl, p⟩ := h
      exact ⟨a, xs, e, ⟨s, by rw [ha]; exact fun z => nomatch z⟩, ha, hl, pair_imp p fun _ _ r => rep_dom r⟩
    | tup l =>
      obtain ⟨a, xs, e, ha, hl, p⟩ := h
      exact ⟨a, xs, e, ha, hl, pair_imp p fun _ _ r => rep_dom r⟩
    | dic l =>
      obtain ⟨a, es, e, s, ha, hl, p⟩ := h
      exact ⟨a, es, e, ⟨s, by rw [ha]; exact fun z => nomatch z⟩, ha, hl, pair_imp p fun _ _ r => ⟨r.1, rep_S (fun b hb => ⟨⟨hb.1.1, hb.2⟩, hb.1.2⟩) (rep_dom r.2)⟩⟩
theorem rep_le {H : Hp} {n : Nat} {S : Addr → Prop} {d : D} {v : V} : ∀ {m : Nat}, n ≤ m → Rep H n S d v → Rep H m S d v := by
  intro m hm h
  induction hm with
  | refl => exact h
  | step _ ih => exact rep_up ih
/-- keys: no place of theirs matters -/
theorem rep_key {H : Hp} {S S' : Addr → Prop} : ∀ {n k : Nat} {d : D} {v : V}, kdD k d → Rep H n S d v → Rep H n S' d v
  | 0, _, _, _, _, h => h.elim
  | n + 1, k, .non, _, _, h => h
  | n + 1, k, .int _, _, _, h => h
  | n + 1, k, .str _, _, _, h => h
  | n + 1, 0, .tup _, _, hk, _ => hk.elim
  | n + 1, k + 1, .tup l, v, hk, h => by
    obtain ⟨a, xs, e, ha, hl, p⟩ := h
    refine ⟨a, xs, e, ha, hl, ?_⟩
    clear ha e hl
    have : ∀ {l : List D} {xs : List V}, (∀ x ∈ l, kdD k x) → Paired (fun d x => Rep H n S d x) l xs → Paired (fun d x => Rep H n S' d x) l xs := fun {l} => by
      induction l with
      | nil => intro xs _ p; cases p; exact .nil
      | cons d l ih =>
        intro xs hk p
        cases p with
        | cons p1 p => exact .cons (rep_key (hk d List.mem_cons_self) p1) (ih (fun x hx => hk x (List.mem_cons_of_mem _ hx)) p)
    exact this hk p
  | n + 1, k, .bl _, _, hk, _ => by cases k <;> exact hk.elim
  | n + 1, k, .lst _, _, hk, _ => by cases k <;> exact hk.elim
  | n + 1, k, .dic _, _, hk, _ => by cases k <;> exact hk.elim
theorem ints_rep {H : Hp} {n : Nat} {S : Addr → Prop} : ∀ {l : List Int}, Paired (fun d x => Rep H (n + 1) S d x) (l.map D.int) (l.map V.int)
  | [] => .nil
  | _ :: _ => .cons rfl ints_rep
theorem ints_kd {k : Nat} {l : List Int} : ∀ x ∈ l.map D.int, kdD k x := fun x hx => by
  obtain ⟨i, _, rfl⟩ := List.mem_map.mp hx
  cases k <;> trivial
theorem ok_treeF (T : Txt K mg C_Node C_Rule C_InvalidRule) (R : Prg K mg C_Node C_Rule C_InvalidRule) {f : Addr} {fd : FuncData} (at_ : mg "_law_tree" = some (.ref f)) (F : Fun K "_law_tree" "_law_tree" s__law_tree f fd) (kp : PySem.W.keepIn K (.ref f) = true) : ∀ m, Fn P w K mg base "_law_tree" (m + 3) ["_law_stream_here", "_law_most", "_law_deep", "_law_place"] (spTree m) f fd
  | 0 => by
    refine ⟨F.ok sc__law_tree (fun vs H Q E h => ?_) (fun cdv A outer s H vs Q E hr h => ?_), at_, kp, F.binds (fun _ _ _ _ _ _ us hl => match us, hl with | [_, _, _, _], _ => rfl)⟩
    · obtain ⟨S, c, pa, most, pl, rfl, _⟩ := h; rfl
    · obtain ⟨S, c, pa, most, pl, rfl, _, _, _, _, _, h0, _⟩ := h; exact absurd h0 (by decide)
  | m + 1 => by
    have G__law_tree := ok_treeF T R at_ F kp m
    obtain ⟨_, _, G__law_draw⟩ := ok__law_draw (P := P) (w := w) (base := base) T R
    obtain ⟨_, _, G__law_tree_key⟩ := ok__law_tree_key (P := P) (w := w) (base := base) T R
    refine ⟨F.ok sc__law_tree (fun vs H Q E h => ?_) (fun cdv A outer s H vs Q E hr h => ?_), at_, kp, F.binds (fun _ _ _ _ _ _ us hl => match us, hl with | [_, _, _, _], _ => rfl)⟩
    · obtain ⟨S, c, pa, most, pl, rfl, _⟩ := h; rfl
    · obtain ⟨S, c, pa, most, pl, rfl, st, mo0, mo1, hpa, hpl, _, k⟩ := h
      refine ⟨_, (pss_cons (ps_set (i := 4) sc__law_tree.nd rfl (Or.inl rfl) (pe_lst pa_nil))
  (pss_cons (ps_for PassesOwn.never rfl (pi_range1 (by rfl) T.range (pa_cons (pcl G__law_draw hr (pa_cons (pv 0) (pa_cons (pe_op op_add (pv 1) pe_int) pa_nil))) pa_nil)) (pg_name (i := 5) sc__law_tree.nd rfl (Or.inl rfl))
    (pss_cons (ps_set (i := 6) sc__law_tree.nd rfl (Or.inl rfl) (pe_ix (r := rIxT K) ix_tup (pe_tup (pa_cons pe_non (pa_cons pe_str (pa_cons pe_str pa_nil)))) (pcl G__law_draw hr (pa_cons (pv 0) (pa_cons pe_int pa_nil))) (fun _ _ => rfl)))
  (pss_cons (ps_set (i := 7) sc__law_tree.nd rfl (Or.inl rfl) (pcl G__law_tree_key hr (pa_cons (pv 0) pa_nil)))
  (pss_cons (ps_set (i := 8) sc__law_tree.nd rfl (Or.inl rfl) (pe_lst pa_nil))
  (Evl.pss_cut (ps_if (pt_cmpR op_gt (pv 2) pe_int (nomark _)) (pss_one (ps_set (i := 8) sc__law_tree.nd rfl (Or.inl rfl) (pcl G__law_tree hr (pa_cons (pv 0) (pa_cons (pv 1) (pa_cons (pe_op op_sub (pv 2) pe_int) (pa_cons (pe_op (r := rCatA K) op_catA (pv 3) (pe_tup (pa_cons (pv 5) (pa_cons pe_int pa_nil)))) pa_nil))))))) pss_nil)
  (pss_one (ps_expr (show PE _ _ (tBM K _ _ _ _) from pe_bm PySem.F.plainAttrs_list PySem.F.slot_list_append PySem.F.type_list_append mt_append (pv 4) (pa_cons (pe_tup (pa_cons (pv 6) (pa_cons (pv 7) (pa_cons (pe_tup (pa_cons (pe_op (r := rCatA K) op_catA (pv 3) (pe_tup (pa_cons (pv 5) pa_nil))) (pa_cons (pe_tup (pa_cons (pcl G__law_draw hr (pa_cons (pv 0) (pa_cons pe_int pa_nil))) pa_nil)) pa_nil))) (pa_cons (pv 8) pa_nil))))) pa_nil)))))))))
  (pss_one (ps_ret (pv 4))))), ?_⟩
      refine Evl.q_asgL (xs := []) (Evl.el_lst Evl.ea_nil (Nat.zero_le _)) fun q H2 hq e2 hq2 => ?_
      have qS := st.someS hq
      have m02 := Mv.ex st e2
      refine dr_go (m := most + 1) (Evl.ea_cons (Evl.ev_var rfl) (Evl.ea_cons (Evl.ev_op (Evl.ev_var rfl) Evl.ev_c Evl.rv_I0) Evl.ea_nil)) m02.z (by omega) (by omega) fun H3 many m3 s0 s1 => ⟨many, rfl, by omega, by omega, ?_⟩
      refine for_it walk_range (fun i σ' H' => ∃ (ys : List V) (ds : List D) (o5 o6 o7 o8 : Option V), σ' = [some (.ref S), some (.int most), some (.int ((m + 1 : Nat) : Int)), some (.ref pa), some (.ref q), o5, o6, o7, o8] ∧ Mv S c H H' ∧ H' q = some (.lst ys) ∧ Paired (fun d y => Rep H' (2 * m + 6) (fun b => H b = none ∧ b ≠ q) d y) ds ys ∧ ds.length = i ∧ (∀ x ∈ ds, NdB 6 (m + 1) x) ∧ PlD (m + 1) pl ds)
        ⟨[], [], _, _, _, _, rfl, m02.trans m3, m3.fr _ _ qS.1 qS.2 hq2, .nil, rfl, (fun x h => nomatch h), PlD.nil⟩ (fun _ _ _ _ _ => trivial) (fun i x σ' H0 H' hi pv y => ?_) fun σ' H' pv => ?_
      · obtain ⟨ys, ds, o5, o6, o7, o8, rfl, mH, hqH, pys, lds, nds, pls⟩ := pv
        obtain ⟨rfl, rfl⟩ := y
        refine gname_go ?_
        have i12 : i < 13 := by omega
        have lys := pair_len pys
        have rg : ∀ b, (H b = none ∧ b ≠ q) → b ≠ S ∧ b ≠ c := fun b hb => st.someS hb.1
        refine q_go (pick3 mH.z rfl fun H4 kd kv m4 hkd rkd => ?_)
        have m04 := mH.trans m4
        refine q_go ⟨_, rfl, S, c, rfl, m04.z, fun H5 kyv ky m5 rky hky => ?_⟩
        have m05 := m04.trans m5
        -- below
        refine q_go ⟨(by show 0 ≤ sizeLine; decide), fun b0 hb0 => ?_⟩
        have m06 := m05.tx (Ex.new (o := .lst []) hb0)
        have mm6 := (m4.trans m5).tx (Ex.new (o := .lst []) hb0)
        have hpa6 := m06.tup hpa
        have lpl : (pl.map V.int).length + 2 ≤ 1000 := by rw [List.length_map]; omega
        refine Evl.q_cut (M := fun σ' H7 => ∃ (ba : Addr) (bl : List D), σ' = [some (.ref S), some (.int most), some (.int ((m + 1 : Nat) : Int)), some (.ref pa), some (.ref q), some (.int (0 + (i : Int))), some kv, some kyv, some (.ref ba)] ∧ Mv S c H5 H7 ∧ Rep H7 (2 * m + 5) (fun b => H5 b = none) (.lst bl) (.ref ba) ∧ bl.length ≤ 6 ∧ (∀ x ∈ bl, NdB 6 m x) ∧ PlD m (pl ++ [0 + (i : Int), 0]) bl) ?_ ?_
        · refine Evl.s_when (Evl.et_test (Evl.ev_op (Evl.ev_var rfl) Evl.ev_c Evl.rv_I0)) (fun hb H7 e7 => ?_) fun hb H7 e7 => ?_
          · have m1 : 0 < m := by simp at hb; omega
            have m57 := (Mv.ex m5.z (Ex.new (o := .lst []) hb0)).tx e7
            refine ⟨_, rfl, _, rfl, ?_⟩
            refine Evl.ev_op (Evl.ev_var rfl) Evl.ev_c Evl.rv_I0 H7 (Ex.refl _) _ fun H8 e8 => ?_
            refine cat_ints (xs := pl.map V.int) (ys := [.int (0 + (i : Int)), .int 0]) (Evl.ev_var rfl) ((e7.trans e8) _ _ hpa6) (Evl.ea_cons (Evl.ev_var rfl) (Evl.ea_cons Evl.ev_c Evl.ea_nil)) (fun z => nomatch z) lpl fun H9 p9 e9 hp9 => ?_
            have m59 := (m57.tx e8).tx e9
            refine ⟨S, c, p9, most, pl ++ [0 + (i : Int), 0], by rw [show (((m + 1 : Nat) : Int) - 1) = (m : Int) by omega]; rfl, m59.z, mo0, mo1, by rw [List.map_append]; exact hp9, by rw [List.length_append]; show pl.length + 2 + 2 * m ≤ 50; omega, m1, fun H10 ba bl m10 rbl lbl nbl pbl => ?_⟩
            exact ⟨ba, bl, rfl, m59.trans m10, rep_S (fun b hb => m59.back hb) rbl, lbl, nbl, pbl⟩
          · exact ⟨b0, [], rfl, (Mv.ex m5.z (Ex.new (o := .lst []) hb0)).tx e7, rep_ex e7 ⟨b0, [], rfl, hb0, upd_same, by decide, .nil⟩, by decide, (fun x h => nomatch h), PlD.nil⟩
        · rintro σ' H7 ⟨ba, bl, rfl, m57, rbl, lbl, nbl, pbl⟩
          have m07 := m05.trans m57
          have mH7 := (m4.trans m5).trans m57
          have hq7 := mH7.fr _ _ qS.1 qS.2 hqH
          have hpa7 := m07.tup hpa
          refine ⟨_, rfl, .inl ⟨rfl, _, Evl.sq_of hq7⟩, _, rfl, _, rfl, cat_ints (xs := pl.map V.int) (ys := [.int (0 + (i : Int))]) (Evl.ev_var rfl) hpa7 (Evl.ea_cons (Evl.ev_var rfl) Evl.ea_nil) (fun z => nomatch z) (by have := lpl; show (pl.map V.int).length + 1 ≤ 1000; omega) fun H8 p8 e8 hp8 => ?_⟩
          have m08 := m07.tx e8
          refine dr_go (m := 3) (Evl.ea_cons (Evl.ev_var rfl) (Evl.ea_cons Evl.ev_c Evl.ea_nil)) m08.z (by decide) (by decide) fun H9 z m9 _ _ => ⟨(by show 1 ≤ sizeLine; decide), fun t2 h2 => ⟨(by show 2 ≤ sizeLine; decide), fun t3 h3 => ⟨_, rfl, (by show 4 ≤ sizeLine; decide), fun t4 h4 => ?_⟩⟩⟩
          have e2 := Ex.new (o := .tup [.int z]) h2
          have e3 := Ex.new (o := .tup [.ref p8, .ref t2]) h3
          have e4 := Ex.new (o := .tup [kv, kyv, .ref t3, .ref ba]) h4
          have e24 := (e2.trans e3).trans e4
          have m79 := (Mv.ex m57.z e8).trans m9
          have m7F := m79.tx e24
          have mF := m07.trans m7F
          have hqF := m7F.fr _ _ qS.1 qS.2 hq7
          have hp9 := m9.tup hp8
          have ht3 := e4 _ _ (upd_same (H := upd H9 t2 (.tup [.int z])) (a := t3) (o := .tup [.ref p8, .ref t2]))
          have ht2 := (e3.trans e4) _ _ (upd_same (H := H9) (a := t2) (o := .tup [.int z]))
          have hpF := e24 _ _ hp9
          have ht4 := (upd_same (H := upd (upd H9 t2 (.tup [.int z])) t3 (.tup [.ref p8, .ref t2])) (a := t4) (o := .tup [kv, kyv, .ref t3, .ref ba]))
          refine ⟨q, ys, .ref t4, rfl, rfl, hqF, Evl.sz_lt (by omega), ?_⟩
          generalize (upd (upd (upd H9 t2 (.tup [.int z])) t3 (.tup [.ref p8, .ref t2])) t4 (.tup [kv, kyv, .ref t3, .ref ba])) = HF at hqF hpF ht2 ht3 ht4 m7F mF ⊢
          have no : ∀ xs, HO.lst ys ≠ .tup xs := fun _ e => nomatch e
          have bq : ∀ b, H5 b = none → H b = none ∧ b ≠ q := fun b hb => ⟨m05.back hb, fun e => by
            have := (m4.trans m5).fr _ _ qS.1 qS.2 hqH
            rw [e, this] at hb; cases hb⟩
          have up : ∀ {n : Nat} {d : D} {v : V}, Rep HF n (fun b => H b = none ∧ b ≠ q) d v → Rep (upd HF q (.lst (ys ++ [.ref t4]))) n (fun b => H b = none ∧ b ≠ q) d v := fun r => rep_upd hqF no (fun b hb => hb.2) r
          have kd5 : ∀ {n : Nat} {d : D} {v : V} {S1 : Addr → Prop}, kdD 3 d → Rep HF n S1 d v → Rep (upd HF q (.lst (ys ++ [.ref t4]))) n (fun b => H b = none ∧ b ≠ q) d v := fun hk r => up (rep_key hk r)
          have hkd2 : kdD 3 kd := by rcases hkd with rfl | ⟨s, rfl⟩ <;> trivial
          have rowk : kdD 3 (.tup [.tup ((pl ++ [0 + (i : Int)]).map D.int), .tup [.int z]]) := fun x hx => by
            rcases List.mem_cons.mp hx with rfl | hx
            · exact ints_kd
            · rw [List.mem_singleton.mp hx]
              intro y hy
              rw [List.mem_singleton.mp hy]; trivial
          have ow : Rep HF 4 Fs (.tup [.tup ((pl ++ [0 + (i : Int)]).map D.int), .tup [.int z]]) (.ref t3) :=
            ⟨t3, _, rfl, ht3, by show 2 ≤ 100000; decide, .cons ⟨p8, _, rfl, hpF, by rw [List.length_map, List.length_append]; show pl.length + 1 ≤ 100000; omega, by
              have : (pl.map V.int ++ [V.int (0 + (i : Int))]) = (pl ++ [0 + (i : Int)]).map V.int := by rw [List.map_append]; rfl
              rw [this]; exact ints_rep⟩ (.cons ⟨t2, _, rfl, ht2, by show 1 ≤ 100000; decide, .cons rfl .nil⟩ .nil)⟩
          have nd : Rep (upd HF q (.lst (ys ++ [.ref t4]))) (2 * m + 6) (fun b => H b = none ∧ b ≠ q) (.tup [kd, ky, .tup [.tup ((pl ++ [0 + (i : Int)]).map D.int), .tup [.int z]], .lst bl]) (.ref t4) := by
            refine ⟨t4, [kv, kyv, .ref t3, .ref ba], rfl, ?_, by show 4 ≤ 100000; decide, .cons (kd5 hkd2 (rkd (2 * m + 4) HF)) (.cons (kd5 hky.1 (rep_le (by omega) (rep_mv (m57.trans m7F) (fun z => z) (fun z => z) rky))) (.cons (kd5 rowk (rep_le (by omega) ow)) (.cons (up ?_) .nil)))⟩
            · have : t4 ≠ q := fun e => by rw [e, hqF] at ht4; cases ht4
              rw [upd_ne this]; exact ht4
            · exact rep_S (fun b hb => bq b hb) (rep_mv m7F (fun z => (m5.z.someS z).1 rfl) (fun z => (m5.z.someS z).2 rfl) rbl)
          refine ⟨ys ++ [.ref t4], ds ++ [.tup [kd, ky, .tup [.tup ((pl ++ [0 + (i : Int)]).map D.int), .tup [.int z]], .lst bl]], _, _, _, _, rfl, mF.mut hq, upd_same, pair_snoc (pair_imp pys fun a b h => up (rep_mv (mH7.trans m7F) (fun z => (rg _ z).1 rfl) (fun z => (rg _ z).2 rfl) h)) nd, by rw [List.length_append, lds]; rfl, fun x hx => ?_, PlD.snoc (d := .tup [kd, ky, .tup [.tup ((pl ++ [0 + (i : Int)]).map D.int), .tup [.int z]], .lst bl]) pls lds ⟨z, rfl⟩ pbl⟩
          rcases List.mem_append.mp hx with hx | hx
          · exact nds x hx
          · rw [List.mem_singleton.mp hx]
            exact ⟨kd, ky, _, bl, rfl, hkd, hky, ⟨_, rfl, rowk⟩, lbl, nbl⟩
      · obtain ⟨ys, ds, o5, o6, o7, o8, rfl, mH, hqH, pys, lds, nds, pls⟩ := pv
        have hi : ds.length ≤ 6 := by omega
        exact Evl.s_ret (Evl.ev_var rfl) fun H9 e9 => k H9 q ds (mH.tx e9) (rep_ex e9 ⟨q, ys, rfl, hq, hqH, by omega, pair_imp pys fun a b h => rep_S (fun b hb => hb.1) h⟩) hi nds pls
end
end Pk

namespace Pk
open PySem PySem.Spec PyProof.Rows L2 Ssb
open Evl (Ex Ev EvT EvL EvA EvU)
/-! ### nodes -/
def nodeF (k q o i : V) : List (Str × V) := putF "inside" i (putF "owner" o (putF "key" q (putF "kind" k [])))
theorem nodeF_eq {k q o i : V} : nodeF k q o i = [(("kind" : Str), k), (("key" : Str), q), (("owner" : Str), o), (("inside" : Str), i)] := rfl
/-- x is a node made of the data d -/
def NodeR (C : Addr) (K : PySem.W.Frag) (H : Hp) : Nat → D → V → Prop
  | 0, _, _ => False
  | m + 1, d, x => ∃ kd ky ow bl a dx vk vq vo t ys, d = .tup [kd, ky, ow, .lst bl] ∧ x = .ref a ∧ H a = some (.ins C dx (nodeF vk vq vo (.ref t))) ∧ (∃ n, Rep H n Fs kd vk) ∧ (∃ n, Rep H n Fs ky vq) ∧ (∃ n, Rep H n Fs ow vo) ∧ SqT K H t ys ∧ Paired (fun d x => NodeR C K H m d x) bl ys
theorem sqT_ex {K : PySem.W.Frag} {H H' : Hp} {a : Addr} {xs : List V} (e : Ex H H') (h : SqT K H a xs) : SqT K H' a xs := Evl.ex_t e h
theorem NodeR.ex {C : Addr} {K : PySem.W.Frag} {H H' : Hp} (e : Ex H H') : ∀ {m : Nat} {d : D} {x : V}, NodeR C K H m d x → NodeR C K H' m d x
  | 0, _, _, h => h.elim
  | m + 1, d, x, h => by
    obtain ⟨kd, ky, ow, bl, a, dx, vk, vq, vo, t, ys, h1, h2, h3, ⟨n1, h4⟩, ⟨n2, h5⟩, ⟨n3, h6⟩, h7, h8⟩ := h
    exact ⟨kd, ky, ow, bl, a, dx, vk, vq, vo, t, ys, h1, h2, e _ _ h3, ⟨n1, rep_ex e h4⟩, ⟨n2, rep_ex e h5⟩, ⟨n3, rep_ex e h6⟩, sqT_ex e h7, pair_imp h8 fun _ _ r => NodeR.ex e r⟩
/-- a method whose last parameter has a default -/
structure MtD (P : Program) (w : World) (K : PySem.W.Frag) (mg : Str → Option Value) (base : Heap) (CX : CXT) (C : Addr) (nm : Str) (k : Nat) (ps : List Str) (sp : Sp) (dvs : List V) (f : Addr) (fd : FuncData) : Prop where
  ok : FnOk P w K mg base CX k f fd ps sp
  mt : Meth K C nm f
  bd : Binds K fd ps []
  bdd : ∃ ds, Vals dvs ds ∧ Binds K fd ps ds
section
variable {X : Cx} {nm : Str} {k j : Nat} {ps : List Str} {sp : Sp} {dvs : List V} {f C : Addr} {fd : FuncData} {p pos : Pos} {e : Expr} {es : List Expr} {t : TA}
theorem pmkF (G : MtD X.prog X.w X.K X.mg X.base CX0 C "__init__" k ps sp dvs f fd) (h1 : PySem.W.makesIn X.K C = true) (h2 : PySem.W.keepIn X.K (.ref C) = true) (h3 : X.mg nm = some (.ref C)) (hr : Room j X.A) (ha : PA X (e :: es) t) (hj : k + 1 ≤ j := by first | decide | omega) (hg : Gl X nm := by rfl) (hdb : (nm == ("__debug__" : Str)) = false := by decide)
    (he : starEach (e :: es) X.env = (false, eval e X.env) :: starEach es X.env := by rfl) (hpl : (backTo pos (starEach es X.env)).any (·.1) = false := by rfl) : PE X (.Call (.Name nm p) (e :: es) [] pos) (tMake C sp [] E0 t) :=
  pe_make ⟨h1, G.mt.at_, G.mt.fn, h2⟩ G.ok (hr.mono hj) hg h3 G.bd .nil pass0 ha hdb he hpl
theorem pmkD (G : MtD X.prog X.w X.K X.mg X.base CX0 C "__init__" k ps sp dvs f fd) (h1 : PySem.W.makesIn X.K C = true) (h2 : PySem.W.keepIn X.K (.ref C) = true) (h3 : X.mg nm = some (.ref C)) (hr : Room j X.A) (ha : PA X (e :: es) t) (hj : k + 1 ≤ j := by first | decide | omega) (hg : Gl X nm := by rfl) (hdb : (nm == ("__debug__" : Str)) = false := by decide)
    (he : starEach (e :: es) X.env = (false, eval e X.env) :: starEach es X.env := by rfl) (hpl : (backTo pos (starEach es X.env)).any (·.1) = false := by rfl) : PE X (.Call (.Name nm p) (e :: es) [] pos) (tMake C sp dvs E0 t) := by
  obtain ⟨ds, hv, hb⟩ := G.bdd
  exact pe_make ⟨h1, G.mt.at_, G.mt.fn, h2⟩ G.ok (hr.mono hj) hg h3 hb hv pass0 ha hdb he hpl
end
section
variable {P : Program} {w : World} {K : PySem.W.Frag} {mg : Str → Option Value} {base : Heap} {C_Node C_Rule C_InvalidRule : Addr}
def spNode (C : Addr) (K : PySem.W.Frag) : Sp := fun vs H Q _ => ∃ (p dx l : Addr) (kv qv ov : V) (ys : List V), vs = [.ref p, kv, qv, ov, .ref l] ∧ H p = some (.ins C dx []) ∧ (SqL K H l ys ∨ SqT K H l ys) ∧ ys.length ≤ 1000 ∧
  ∀ H' t, (∀ b o, b ≠ p → H b = some o → H' b = some o) → H' p = some (.ins C dx (nodeF kv qv ov (.ref t))) → SqT K H' t ys → Q .non H'
theorem sqT_ne {K : PySem.W.Frag} {H H' : Hp} {a p : Addr} {xs : List V} {C dx : Addr} {fs : List (Str × V)} (hp : H p = some (.ins C dx fs)) (e : ∀ b o, b ≠ p → H b = some o → H' b = some o) (h : SqT K H a xs) : SqT K H' a xs := by
  rcases h with (h | ⟨o, h⟩) | h
  · exact .inl (.inl (e _ _ (fun z => by rw [z, hp] at h; cases h) h))
  · exact .inl (.inr ⟨o, e _ _ (fun z => by rw [z, hp] at h; cases h) h⟩)
  · exact .inr h
theorem sqL_ne {K : PySem.W.Frag} {H H' : Hp} {a p : Addr} {xs : List V} {C dx : Addr} {fs : List (Str × V)} (hp : H p = some (.ins C dx fs)) (e : ∀ b o, b ≠ p → H b = some o → H' b = some o) (h : SqL K H a xs) : SqL K H' a xs := by
  rcases h with (h | ⟨o, h⟩) | h
  · exact .inl (.inl (e _ _ (fun z => by rw [z, hp] at h; cases h) h))
  · exact .inl (.inr ⟨o, e _ _ (fun z => by rw [z, hp] at h; cases h) h⟩)
  · exact .inr h
theorem ok_Node_init (T : Txt K mg C_Node C_Rule C_InvalidRule) (R : Prg K mg C_Node C_Rule C_InvalidRule) : ∃ t0 : Addr, (∃ o n, K.lookup t0 = some o ∧ o.cls = .type "tuple" ∧ o.data = .seq #[] n) ∧ ∃ f fd, MtD P w K mg base CX0 C_Node "__init__" 1 ["self", "kind", "key", "owner", "nodes"] (spNode C_Node K) [.ref t0] f fd := by
  obtain ⟨t0, h0, f, fd, F, fi, isf, kp⟩ := R.Node_init
  refine ⟨t0, h0, f, fd, F.ok sc_Node_init (fun vs H Q E h => ?_) (fun cdv A outer s H vs Q E hr h => ?_), ⟨fi, isf, kp⟩, ?_, ?_⟩
  · obtain ⟨p, dx, l, kv, qv, ov, ys, rfl, _⟩ := h; rfl
  · obtain ⟨p, dx, l, kv, qv, ov, ys, rfl, hp, hl, h1000, k⟩ := h
    refine ⟨_, (pss_cons (ps_fld (pv 0) (pv 1) rfl)
  (pss_cons (ps_fld (pv 0) (pv 2) rfl)
  (pss_cons (ps_fld (pv 0) (pv 3) rfl)
  (pss_one (ps_fld (pv 0) (pe_callTy (r := rTupA K) call_tuple_of (by rfl) T.tuple (by decide +kernel) (pa_cons (pv 4) pa_nil)) rfl))))), ?_⟩
    refine ⟨_, rfl, _, rfl, p, C_Node, dx, [], rfl, hp, T.cl_Node, T.no_Node_kind, by decide, ?_⟩
    refine ⟨_, rfl, _, rfl, p, C_Node, dx, _, rfl, upd_same, T.cl_Node, T.no_Node_key, by show 1 < 1000; decide, ?_⟩
    refine ⟨_, rfl, _, rfl, p, C_Node, dx, _, rfl, upd_same, T.cl_Node, T.no_Node_owner, by show 2 < 1000; decide, ?_⟩
    rw [upd_upd, upd_upd]
    have fr : ∀ b o, b ≠ p → H b = some o → (upd H p (.ins C_Node dx (putF "owner" ov (putF "key" qv (putF "kind" kv []))))) b = some o := fun b o n h => by rw [upd_ne n]; exact h
    refine ⟨_, rfl, l, ys, rfl, ?_⟩
    rcases hl with hl | hl
    · refine .inl ⟨sqL_ne hp fr hl, fun t ht => ⟨_, rfl, p, C_Node, dx, putF "owner" ov (putF "key" qv (putF "kind" kv [])), rfl, ?_, T.cl_Node, T.no_Node_inside, by show 3 < 1000; decide, ?_⟩⟩
      · have : p ≠ t := fun e => by rw [← e, upd_same] at ht; cases ht
        rw [upd_ne this, upd_same]
      · have pt : p ≠ t := fun e => by rw [← e, upd_same] at ht; cases ht
        refine k _ t (fun b o n h => ?_) upd_same (.inl (.inl ?_))
        · have : b ≠ t := fun e => by have h2 := fr b o n h; rw [e, ht] at h2; cases h2
          rw [upd_ne n, upd_ne this]; exact fr b o n h
        · rw [upd_ne pt.symm, upd_same]
    · refine .inr ⟨sqT_ne hp fr hl, ⟨_, rfl, p, C_Node, dx, _, rfl, upd_same, T.cl_Node, T.no_Node_inside, by show 3 < 1000; decide, ?_⟩⟩
      rw [upd_upd]
      exact k _ l (fun b o n h => by rw [upd_ne n]; exact h) upd_same (sqT_ne hp (fun b o n h => by rw [upd_ne n]; exact h) hl)
  · obtain ⟨ds, hv, hb⟩ := F.binds1 (ps := ["self", "kind", "key", "owner", "nodes"]) 5 1 (fun e => nomatch e) rfl fun T kV doc pm an cdv ct us its h1 h2 => match us, its, h1, h2 with | [_, _, _, _, _], [_], _, _ => ⟨_, rfl, rfl⟩
    cases hv
    exact hb
  · exact F.binds1 (ps := ["self", "kind", "key", "owner", "nodes"]) 4 0 (fun e => nomatch e) rfl fun T kV doc pm an cdv ct us its h1 h2 => match us, its, h1, h2 with | [_, _, _, _], [_], _, _ => ⟨_, rfl, rfl⟩
end
end Pk

namespace Pk
open PySem PySem.Spec PyProof.Rows L2 Ssb
open Evl (Ex Ev EvT EvL EvA EvU)
/-! ### nodes from data -/
/-- all but lists stays -/
def Nl (H H' : Hp) : Prop := ∀ b o, H b = some o → (∀ xs, o ≠ .lst xs) → H' b = some o
theorem Nl.of {H H' : Hp} (e : Ex H H') : Nl H H' := fun b o h _ => e b o h
theorem Nl.upd {H : Hp} {q : Addr} {xs : List V} {o : HO} (h : H q = some (.lst xs)) : Nl H (L2.upd H q o) := fun b u hb n => by
  have : b ≠ q := fun e => by rw [e, h] at hb; cases hb; exact n _ rfl
  rw [upd_ne this]; exact hb
theorem rep_nl {H H' : Hp} (e : Nl H H') {n : Nat} {d : D} {v : V} (r : Rep H n Fs d v) : Rep H' n Fs d v := rep_to (fun b o hb hp => e b o hb (by
  rcases hp with hp | ⟨xs, rfl⟩
  · exact hp.elim
  · exact fun _ z => nomatch z)) r
theorem NodeR.nl {C : Addr} {K : PySem.W.Frag} {H H' : Hp} (e : Nl H H') : ∀ {m : Nat} {d : D} {x : V}, NodeR C K H m d x → NodeR C K H' m d x
  | 0, _, _, h => h.elim
  | m + 1, d, x, h => by
    obtain ⟨kd, ky, ow, bl, a, dx, vk, vq, vo, t, ys, h1, h2, h3, ⟨n1, h4⟩, ⟨n2, h5⟩, ⟨n3, h6⟩, h7, h8⟩ := h
    refine ⟨kd, ky, ow, bl, a, dx, vk, vq, vo, t, ys, h1, h2, e _ _ h3 (fun _ z => nomatch z), ⟨n1, rep_nl e h4⟩, ⟨n2, rep_nl e h5⟩, ⟨n3, rep_nl e h6⟩, ?_, pair_imp h8 fun _ _ r => NodeR.nl e r⟩
    rcases h7 with (h | ⟨o, h⟩) | h
    · exact .inl (.inl (e _ _ h (fun _ z => nomatch z)))
    · exact .inl (.inr ⟨o, e _ _ h (fun _ z => nomatch z)⟩)
    · exact .inr h
theorem et_truL {K : PySem.W.Frag} {σ : L2.St} {H : Hp} {te : L2.TE} {a : Addr} {xs : List V} (h : Ev te σ H (.ref a)) (ha : H a = some (.lst xs)) : EvT (tTruA K te) σ H (!xs.isEmpty) := fun H1 e Q q => h H1 e _ fun H2 e2 => ⟨!xs.isEmpty, .inl ⟨xs, Evl.sq_of ((e.trans e2) _ _ ha), rfl⟩, q H2 e2⟩
theorem sq_nil {K : PySem.W.Frag} {H : Hp} {t0 : Addr} (h : ∃ o n, K.lookup t0 = some o ∧ o.cls = .type "tuple" ∧ o.data = .seq #[] n) : SqT K H t0 [] := by
  obtain ⟨o, n, h1, h2, h3⟩ := h
  exact .inr ⟨o, #[], n, h1, h2, h3, by show 0 ≤ sizeLine; decide, .nil⟩
section
variable {P : Program} {w : World} {K : PySem.W.Frag} {mg : Str → Option Value} {base : Heap} {C_Node C_Rule C_InvalidRule : Addr}
def spBuilt (C : Addr) (K : PySem.W.Frag) (m : Nat) : Sp := fun vs H Q _ => ∃ (a : Addr) (n : Nat) (S : Addr → Prop) (ds : List D), vs = [.ref a] ∧ Rep H n S (.lst ds) (.ref a) ∧ (∀ x ∈ ds, NdD m x) ∧ ds.length ≤ 100 ∧ 0 < m ∧ ∀ H' q ys, Ex H H' → H q = none → H' q = some (.lst ys) → Paired (fun d x => NodeR C K H' m d x) ds ys → Q (.ref q) H'
theorem ok__law_built (T : Txt K mg C_Node C_Rule C_InvalidRule) (R : Prg K mg C_Node C_Rule C_InvalidRule) : ∀ m, ∃ f fd, Fn P w K mg base "_law_built" (m + 3) ["_law_nodes"] (spBuilt C_Node K m) f fd
  | 0 => by
    obtain ⟨f, fd, at_, F, kp⟩ := R._law_built
    refine ⟨f, fd, F.ok sc__law_built (fun vs H Q E h => ?_) (fun cdv A outer s H vs Q E hr h => ?_), at_, kp, F.binds (fun _ _ _ _ _ _ us hl => match us, hl with | [_], _ => rfl)⟩
    · obtain ⟨a, n, S, ds, rfl, _⟩ := h; rfl
    · obtain ⟨a, n, S, ds, rfl, _, _, _, h0, _⟩ := h; exact absurd h0 (by decide)
  | m + 1 => by
    obtain ⟨_, _, G__law_built⟩ := ok__law_built T R m
    obtain ⟨t0, ht0, _, _, G_Node⟩ := ok_Node_init (P := P) (w := w) (base := base) T R
    obtain ⟨f, fd, at_, F, kp⟩ := R._law_built
    refine ⟨f, fd, F.ok sc__law_built (fun vs H Q E h => ?_) (fun cdv A outer s H vs Q E hr h => ?_), at_, kp, F.binds (fun _ _ _ _ _ _ us hl => match us, hl with | [_], _ => rfl)⟩
    · obtain ⟨a, n, S, ds, rfl, _⟩ := h; rfl
    · obtain ⟨a, n, S, ds, rfl, hv, nds, l100, _, k⟩ := h
      refine ⟨_, (pss_cons (ps_set (i := 1) sc__law_built.nd rfl (Or.inl rfl) (pe_lst pa_nil))
  (pss_cons (ps_for PassesOwn.never rfl (show PI _ _ _ (iList K _) from pi_list (pv 0)) (show PG _ _ (gTup K 4 _) from pg_tup (n := 4) rfl (pgs_cons (pg_name (i := 2) sc__law_built.nd rfl (Or.inl rfl)) (pgs_cons (pg_name (i := 3) sc__law_built.nd rfl (Or.inl rfl)) (pgs_cons (pg_name (i := 4) sc__law_built.nd rfl (Or.inl rfl)) (pgs_cons (pg_name (i := 5) sc__law_built.nd rfl (Or.inl rfl)) pgs_nil)))))
    (pss_one (ps_if (show PT _ _ (tTruA K _) from pt_truth (pv 5) (by intro _; rfl)) (pss_one (ps_expr (show PE _ _ (tBM K _ _ _ _) from pe_bm PySem.F.plainAttrs_list PySem.F.slot_list_append PySem.F.type_list_append mt_append (pv 1) (pa_cons (pmkF G_Node T.mk_Node T.kp_Node T.at_Node hr (pa_cons (pv 2) (pa_cons (pv 3) (pa_cons (pv 4) (pa_cons (pcl G__law_built hr (pa_cons (pv 5) pa_nil)) pa_nil))))) pa_nil)))) (pss_one (ps_expr (show PE _ _ (tBM K _ _ _ _) from pe_bm PySem.F.plainAttrs_list PySem.F.slot_list_append PySem.F.type_list_append mt_append (pv 1) (pa_cons (pmkD G_Node T.mk_Node T.kp_Node T.at_Node hr (pa_cons (pv 2) (pa_cons (pv 3) (pa_cons (pv 4) pa_nil)))) pa_nil)))))))
  (pss_one (ps_ret (pv 1))))), ?_⟩
      cases n with
      | zero => exact hv.elim
      | succ n =>
      obtain ⟨_, xs, ea, _, ha, l5, prx⟩ := id hv
      cases ea
      have lx := pair_len prx
      refine Evl.q_asgL (xs := []) (Evl.el_lst Evl.ea_nil (Nat.zero_le _)) fun q H2 hq e2 hq2 => ?_
      have qa : q ≠ a := fun e => by rw [e, ha] at hq; cases hq
      refine ⟨_, rfl, a, rfl, ⟨_, Evl.sq_of (e2 _ _ ha)⟩, for_list (K := K) (a := a) (xs := xs) (fun i σ' H' => ∃ (acc : List V) (o2 o3 o4 o5 : Option V), σ' = [some (.ref a), some (.ref q), o2, o3, o4, o5] ∧ Ex H H' ∧ H' q = some (.lst acc) ∧ Paired (fun d x => NodeR C_Node K H' (m + 1) d x) (ds.take i) acc) ⟨[], _, _, _, _, rfl, e2, hq2, .nil⟩ (fun i σ' H' _ pv => by obtain ⟨_, _, _, _, _, _, e, _⟩ := pv; exact Evl.sq_of (e _ _ ha)) (fun i x σ' H' hx pv => ?_) fun σ' H' pv => ?_⟩
      · obtain ⟨acc, o2, o3, o4, o5, rfl, eH, hqH, pacc⟩ := pv
        obtain ⟨d, hd, rd⟩ := pair_back prx hx
        obtain ⟨kd, ky, ow, bl, rfl, hkd, hky, ⟨lo, how, hok⟩, lbl, nbl⟩ := nds d (List.mem_of_getElem? hd)
        cases n with
        | zero => exact rd.elim
        | succ n =>
        obtain ⟨t4, ws, rfl, ht4, _, pw⟩ := rep_ex eH rd
        cases pw with
        | cons w1 pw =>
        cases pw with
        | cons w2 pw =>
        cases pw with
        | cons w3 pw =>
        cases pw with
        | cons w4 pw =>
        cases pw
        rename_i kv kyv ov bv
        have lacc : acc.length ≤ 100 := by rw [← pair_len pacc, List.length_take]; omega
        have hkd2 : kdD 3 kd := by rcases hkd with rfl | ⟨s, rfl⟩ <;> trivial
        have tk : ds.take (i + 1) = ds.take i ++ [.tup [kd, ky, ow, .lst bl]] := by rw [List.take_add_one, hd]; rfl
        cases n with
        | zero => exact w4.elim
        | succ n =>
        obtain ⟨ba, bs, rfl, _, hba, _, pb⟩ := id w4
        have lb := pair_len pb
        refine ⟨t4, _, rfl, Evl.st_of ht4, rfl, ?_⟩
        -- the four names
        refine ⟨_, _, rfl, _, _, rfl, _, _, rfl, _, _, rfl, rfl, ?_⟩
        have fin : ∀ {H5 H6 : Hp} {nx dx t : Addr} {ys : List V}, Ex H' H5 → H5 nx = none → H5 dx = none → dx ≠ nx → (∀ b o, b ≠ nx → (upd (upd H5 dx (.own nx)) nx (.ins C_Node dx [])) b = some o → H6 b = some o) → H6 nx = some (.ins C_Node dx (nodeF kv kyv ov (.ref t))) → SqT K H6 t ys → Paired (fun d x => NodeR C_Node K H5 m d x) bl ys →
            ∃ (acc' : List V) (o2 o3 o4 o5 : Option V), [some (.ref a), some (.ref q), some kv, some kyv, some ov, some (.ref ba)] = [some (.ref a), some (.ref q), o2, o3, o4, o5] ∧ Ex H (upd H6 q (.lst (acc ++ [.ref nx]))) ∧ (upd H6 q (.lst (acc ++ [.ref nx]))) q = some (.lst acc') ∧ Paired (fun d x => NodeR C_Node K (upd H6 q (.lst (acc ++ [.ref nx]))) (m + 1) d x) (ds.take (i + 1)) acc' := by
          intro H5 H6 nx dx t ys e5 hx hdx ne fr hx6 st pys
          have e56 : Ex H5 H6 := fun b o h => fr b o (fun e => by rw [e, hx] at h; cases h) (by rw [upd_ne (fun e => by rw [e, hx] at h; cases h), upd_ne (fun e => by rw [e, hdx] at h; cases h)]; exact h)
          have e6 := e5.trans e56
          have hq6 := e6 _ _ hqH
          refine ⟨_, _, _, _, _, rfl, Ex.mut (eH.trans e6) hq, upd_same, ?_⟩
          rw [tk]
          have n6 := Nl.upd (o := .lst (acc ++ [.ref nx])) hq6
          refine pair_snoc (pair_imp pacc fun d y r => (r.ex e6).nl n6) (NodeR.nl n6 (show NodeR C_Node K H6 (m + 1) _ (.ref nx) from ⟨kd, ky, ow, bl, nx, dx, kv, kyv, ov, t, ys, rfl, rfl, hx6, ⟨_, rep_ex e6 (rep_key hkd2 w1)⟩, ⟨_, rep_ex e6 (rep_key hky.1 w2)⟩, ⟨_, rep_ex e6 (rep_key hok w3)⟩, st, pair_imp pys fun d y r => r.ex e56⟩))
        show tIfS (tTruA K (tVar 5)) _ _ _ [some (.ref a), some (.ref q), some kv, some kyv, some ov, some (.ref ba)] H'
        refine Evl.s_if (et_truL (σ := [some (.ref a), some (.ref q), some kv, some kyv, some ov, some (.ref ba)]) (te := tVar 5) (Evl.ev_var rfl) hba) (fun hb H3 e3 => ?_) fun hb H3 e3 => ?_
        · have hq3 := e3 _ _ hqH
          have m0 : 0 < m := by
            cases m with
            | succ m => omega
            | zero =>
              cases bl with
              | nil => cases pb; cases hb
              | cons y bl => exact (nbl y List.mem_cons_self).elim
          refine ⟨_, rfl, .inl ⟨rfl, _, Evl.sq_of hq3⟩, _, rfl, _, rfl, _, rfl, _, rfl, ba, n + 1, S, bl, rfl, rep_ex e3 w4, nbl, by omega, m0, fun H5 q2 ys2 e5 hq2 hq25 pys => ?_⟩
          intro x dx hx hdx ne
          have hq5 := e5 _ _ hq3
          refine ⟨x, dx, q2, kv, kyv, ov, ys2, rfl, upd_same, .inl (Evl.sq_of ?_), by rw [← pair_len pys]; omega, fun H6 t fr hx6 st => ⟨rfl, ?_⟩⟩
          · rw [upd_ne (fun e => by rw [e, hx] at hq25; cases hq25), upd_ne (fun e => by rw [e, hdx] at hq25; cases hq25)]; exact hq25
          · have hq6 : H6 q = some (.lst acc) := fr q _ (fun e => by rw [← e, hq5] at hx; cases hx) (by rw [upd_ne (fun e => by rw [← e, hq5] at hx; cases hx), upd_ne (fun e => by rw [← e, hq5] at hdx; cases hdx)]; exact hq5)
            exact ⟨q, acc, .ref x, rfl, rfl, hq6, Evl.sz_lt (by omega), fin (e3.trans e5) hx hdx ne fr hx6 st pys⟩
        · have hq3 := e3 _ _ hqH
          have bl0 : bl = [] := by
            have : bs = [] := by simpa using hb
            rw [this] at lb
            exact List.length_eq_zero_iff.mp lb
          refine ⟨_, rfl, .inl ⟨rfl, _, Evl.sq_of hq3⟩, _, rfl, _, rfl, _, rfl, ?_⟩
          intro x dx hx hdx ne
          refine ⟨x, dx, t0, kv, kyv, ov, [], rfl, upd_same, .inr (sq_nil ht0), by decide, fun H6 t fr hx6 st => ⟨rfl, ?_⟩⟩
          have hq6 : H6 q = some (.lst acc) := fr q _ (fun e => by rw [← e, hq3] at hx; cases hx) (by rw [upd_ne (fun e => by rw [← e, hq3] at hx; cases hx), upd_ne (fun e => by rw [← e, hq3] at hdx; cases hdx)]; exact hq3)
          exact ⟨q, acc, .ref x, rfl, rfl, hq6, Evl.sz_lt (by omega), fin e3 hx hdx ne fr hx6 st (by rw [bl0]; exact .nil)⟩
      · obtain ⟨acc, o2, o3, o4, o5, rfl, eH, hqH, pacc⟩ := pv
        rw [← lx, List.take_of_length_le (Nat.le_refl _)] at pacc
        exact Evl.s_ret (Evl.ev_var rfl) fun H9 e9 => k H9 q acc (eH.trans e9) hq (e9 _ _ hqH) (pair_imp pacc fun d y r => r.ex e9)
end
end Pk

namespace Pk
open PySem PySem.Spec PyProof.Rows L2 Ssb
open Evl (Ex Ev EvT EvL EvA EvU)
/-! ### the slots of nodes -/
open ClX (CRead CVal tCVal pe_cval)
def kindOf : D → D
  | .tup (k :: _) => k
  | _ => .non
def keyOf : D → D
  | .tup (_ :: q :: _) => q
  | _ => .non
/-- what a node is counted among -/
def alikeD (d : D) : D := match keyOf d with
  | .non => .non
  | q => .tup [kindOf d, q]
def cntN (ds : List D) (i : Nat) (k : NestedKey) : Nat := ((ds.take i).filter fun e => decide (nkD (alikeD e) = k)).length
def isNon : D → Bool
  | .non => true
  | _ => false
def slotN (pl : Str) (ds : List D) (i : Nat) (d : D) : Int := if isNon (keyOf d) && decide (pl = "all") then (i : Int) else (cntN ds i (nkD (alikeD d)) : Int)
def slotD (pl : Str) (ds : List D) (i : Nat) (d : D) : D := .tup [kindOf d, keyOf d, .int (slotN pl ds i d)]
def slotsD (pl : Str) (ds : List D) : List D := (List.range ds.length).map fun i => slotD pl ds i (ds.getD i .non)
theorem cnt_succ {ds : List D} {i : Nat} {d : D} (h : ds[i]? = some d) (k : NestedKey) : cntN ds (i + 1) k = cntN ds i k + (if nkD (alikeD d) = k then 1 else 0) := by
  unfold cntN
  rw [take_snoc h, List.filter_append, List.length_append]
  by_cases e : nkD (alikeD d) = k
  · rw [if_pos e, List.filter_cons_of_pos (by simpa using e)]; rfl
  · rw [if_neg e, List.filter_cons_of_neg (by simpa using e)]; rfl
theorem slots_take {pl : Str} {ds : List D} {i : Nat} {d : D} (h : ds[i]? = some d) : (slotsD pl ds).take (i + 1) = (slotsD pl ds).take i ++ [slotD pl ds i d] := by
  refine take_snoc ?_
  unfold slotsD
  rw [List.getElem?_map, List.getElem?_range (List.getElem?_eq_some_iff.mp h).1]
  have : ds.getD i .non = d := by rw [List.getD_eq_getElem?_getD, h]; rfl
  rw [Option.map_some, this]
theorem slots_len {pl : Str} {ds : List D} : (slotsD pl ds).length = ds.length := by unfold slotsD; rw [List.length_map, List.length_range]
theorem pair_impM {α β : Type} {F G : α → β → Prop} : ∀ {l : List α} {m : List β}, Paired F l m → (∀ a b, a ∈ l → b ∈ m → F a b → G a b) → Paired G l m
  | _, _, .nil, _ => .nil
  | _, _, .cons h t, k => .cons (k _ _ List.mem_cons_self List.mem_cons_self h) (pair_impM t fun a b ha hb h => k a b (List.mem_cons_of_mem _ ha) (List.mem_cons_of_mem _ hb) h)
theorem slot_kd {pl : Str} {ds : List D} {m : Nat} (h : ∀ d ∈ ds, NdD m d) : ∀ x ∈ slotsD pl ds, kdD 4 x := fun x hx => by
  unfold slotsD at hx
  obtain ⟨i, hi, rfl⟩ := List.mem_map.mp hx
  have hi : i < ds.length := List.mem_range.mp hi
  have e : ds.getD i .non = ds[i] := by rw [List.getD_eq_getElem?_getD, List.getElem?_eq_getElem hi]; rfl
  rw [e]
  have hd := h _ (List.getElem_mem hi)
  generalize ds[i] = d at hd
  cases m with
  | zero => exact hd.elim
  | succ m =>
  obtain ⟨kd, ky, ow, bl, rfl, hkd, hky, _⟩ := hd
  intro y hy
  rcases List.mem_cons.mp hy with rfl | hy
  · rcases hkd with rfl | ⟨s, rfl⟩ <;> trivial
  rcases List.mem_cons.mp hy with rfl | hy
  · exact hky.1
  · rw [List.mem_singleton.mp hy]; trivial
/-- a key of that depth stands at that level -/
theorem rep_lv {H : Hp} {S : Addr → Prop} : ∀ (k : Nat) {n m : Nat} {d : D} {v : V}, k + 1 ≤ m → kdD k d → Rep H n S d v → Rep H m S d v
  | _, 0, _, _, _, _, _, h => h.elim
  | _, _, 0, _, _, h, _, _ => absurd h (by omega)
  | k, n + 1, m + 1, .non, _, _, _, h => h
  | k, n + 1, m + 1, .int _, _, _, _, h => h
  | k, n + 1, m + 1, .str _, _, _, _, h => h
  | 0, n + 1, m + 1, .tup _, _, _, hk, _ => hk.elim
  | k + 1, n + 1, m + 1, .tup l, v, hm, hk, h => by
    obtain ⟨a, xs, e, ha, hl, p⟩ := h
    refine ⟨a, xs, e, ha, hl, ?_⟩
    clear ha e hl
    have : ∀ {l : List D} {xs : List V}, (∀ x ∈ l, kdD k x) → Paired (fun d x => Rep H n S d x) l xs → Paired (fun d x => Rep H m S d x) l xs := fun {l} => by
      induction l with
      | nil => intro xs _ p; cases p; exact .nil
      | cons d l ih =>
        intro xs hk p
        cases p with
        | cons p1 p => exact .cons (rep_lv k (by omega) (hk d List.mem_cons_self) p1) (ih (fun x hx => hk x (List.mem_cons_of_mem _ hx)) p)
    exact this hk p
  | k, n + 1, m + 1, .bl _, _, _, hk, _ => by cases k <;> exact hk.elim
  | k, n + 1, m + 1, .lst _, _, _, hk, _ => by cases k <;> exact hk.elim
  | k, n + 1, m + 1, .dic _, _, _, hk, _ => by cases k <;> exact hk.elim
/-- what a count stands for -/
def cntV (n : Nat) : Option V := if n = 0 then none else some (.int (n : Int))
theorem cntV_get {n : Nat} : (cntV n).getD (.int 0) = .int (n : Int) := by
  unfold cntV
  by_cases h : n = 0
  · rw [if_pos h, h]; rfl
  · rw [if_neg h]; rfl
theorem hu20 {A : Around} {k : Nat} (hr : Room k A) : A.units + 20 < cLine := Nat.lt_of_le_of_lt (by omega) hr.units
theorem if_no {t : TT} {ta tb : TE} {σ : L2.St} {H : Hp} {Q : VK} (h : EvT t σ H false) (k : ∀ H1, Ex H H1 → tb σ H1 Q) : tIf t ta tb σ H Q := h H (Ex.refl _) _ fun H1 e => iteF (k H1 e)
theorem if_yes {t : TT} {ta tb : TE} {σ : L2.St} {H : Hp} {Q : VK} (h : EvT t σ H true) (k : ∀ H1, Ex H H1 → ta σ H1 Q) : tIf t ta tb σ H Q := h H (Ex.refl _) _ fun H1 e => iteT (k H1 e)
theorem ev_cval {K : PySem.W.Frag} {σ : L2.St} {H : Hp} {ta : TE} {C : Addr} {f : Str} {v : V} {mc u : Value} (h : Ev ta σ H (.ref C)) (cr : CRead K C mc) (cv : CVal K C mc f v u) : Ev (tCVal K ta f) σ H v := fun H1 e Q q => h H1 e _ fun H2 e2 => ⟨C, mc, v, u, rfl, cr, cv, q H2 e2⟩
theorem non_of {H : Hp} {n : Nat} {S : Addr → Prop} {v : V} (h : Rep H n S .non v) : v = .non := by
  cases n with
  | zero => exact h.elim
  | succ n => exact h
theorem tup_of {H : Hp} {n : Nat} {S : Addr → Prop} {l : List D} {v : V} (h : Rep H n S (.tup l) v) : v ≠ .non := by
  cases n with
  | zero => exact h.elim
  | succ n => obtain ⟨a, _, e, _⟩ := h; rw [e]; exact fun z => nomatch z
section
variable {P : Program} {w : World} {K : PySem.W.Frag} {mg : Str → Option Value} {base : Heap} {C_Node C_Rule C_InvalidRule : Addr}
theorem alike_go (T : Txt K mg C_Node C_Rule C_InvalidRule) {σ : L2.St} {H : Hp} {Q : VK} {a dx : Addr} {vk vq vo vi : V} {kd ky ow bl : D} {n1 n2 : Nat} (h5 : σ[5]? = some (some (.ref a))) (ha : H a = some (.ins C_Node dx (nodeF vk vq vo vi))) (hk : Rep H n1 Fs kd vk) (hq : Rep H n2 Fs ky vq) (kdk : kdD 3 kd) (kyk : KyD ky)
    (k : ∀ H1 av, Ex H H1 → KeyV H1 (alikeD (.tup [kd, ky, ow, bl])) av → (av = .non ↔ isNon ky = true) → Q av H1) :
    tIf (tTest (tOp (fun x y H Q => y = .non ∧ Q (.bl (decide (x = .non))) H) (tFld K (tVar 5) "key") (tC .non))) (tC .non) (tTup (tCons (tFld K (tVar 5) "kind") (tCons (tFld K (tVar 5) "key") tNil))) σ H Q := by
  rcases kyk with ⟨kk, rfl | ⟨l, rfl⟩⟩
  · obtain rfl := non_of hq
    refine if_yes (Evl.et_is (Evl.et_test (Evl.ev_op (ev_fld (Evl.ev_var h5) ha T.cl_Node T.no_Node_key rfl) Evl.ev_c rv_isN)) (by simp)) fun H1 e1 => ?_
    exact k H1 _ e1 ⟨trivial, .inl rfl, 1, Fs, rfl⟩ ⟨(fun _ => rfl), (fun _ => rfl)⟩
  · refine if_no (Evl.et_is (Evl.et_test (Evl.ev_op (ev_fld (Evl.ev_var h5) ha T.cl_Node T.no_Node_key rfl) Evl.ev_c rv_isN)) (decide_eq_false (tup_of hq))) fun H1 e1 => ?_
    refine ⟨_, h5, a, C_Node, dx, _, vk, rfl, e1 _ _ ha, T.cl_Node, T.no_Node_kind, rfl, _, h5, a, C_Node, dx, _, vq, rfl, e1 _ _ ha, T.cl_Node, T.no_Node_key, rfl, (by show 2 ≤ sizeLine; decide), fun tp htp => ?_⟩
    have e2 := Ex.new (o := .tup [vk, vq]) htp
    refine k _ _ (e1.trans e2) ⟨fun x hx => ?_, .inr ⟨_, rfl⟩, n1 + n2 + 1, Fs, tp, _, rfl, upd_same, by show 2 ≤ 100000; decide, .cons (rep_le (by omega) (rep_ex (e1.trans e2) hk)) (.cons (rep_le (by omega) (rep_ex (e1.trans e2) hq)) .nil)⟩ ⟨(fun h => nomatch h), (fun h => nomatch h)⟩
    rcases List.mem_cons.mp hx with rfl | hx
    · exact kd_le (by decide) kdk
    · rw [List.mem_singleton.mp hx]; exact kd_le (by decide) kk
def RuleAt (C : Addr) (H : Hp) (r : Addr) (pl : Str) : Prop := ∃ dx, H r = some (.ins C dx [(("place" : Str), .str pl)])
def spSlots (CN CR : Addr) (K : PySem.W.Frag) : Sp := fun vs H Q _ => ∃ (r l : Addr) (pl : Str) (m : Nat) (ds : List D) (ys : List V), vs = [.ref r, .ref l] ∧ RuleAt CR H r pl ∧ H l = some (.lst ys) ∧ Paired (fun d x => NodeR CN K H m d x) ds ys ∧ (∀ d ∈ ds, NdD m d) ∧ ds.length ≤ 100 ∧
  ∀ H' q zs, Ex H H' → H q = none → H' q = some (.lst zs) → Paired (fun d z => Rep H' 6 Fs d z) (slotsD pl ds) zs → Q (.ref q) H'
theorem ok_Rule_call (T : Txt K mg C_Node C_Rule C_InvalidRule) (R : Prg K mg C_Node C_Rule C_InvalidRule) : ∃ f fd, FnOk P w K mg base CX0 2 f fd ["self", "nodes"] (spSlots C_Node C_Rule K) ∧ Binds K fd ["self", "nodes"] [] ∧ PySem.W.findIn K (.ref C_Rule) "__call__" = some (some (.ref f)) ∧ PySem.W.isFn K (.ref f) = true ∧ PySem.W.fnIn K f = true := by
  obtain ⟨f, fd, F, fi, isf, kp⟩ := R.Rule___call__
  obtain ⟨tA, hA⟩ := T.all_Rule
  refine ⟨f, fd, F.ok sc_Rule___call__ (fun vs H Q E h => ?_) (fun cdv A outer s H vs Q E hr h => ?_), F.binds (fun _ _ _ _ _ _ us hl => match us, hl with | [_, _], _ => rfl), fi, isf, ?_⟩
  · obtain ⟨r, l, pl, m, ds, ys, rfl, _⟩ := h; rfl
  · obtain ⟨r, l, pl, m, ds, ys, rfl, ⟨dxr, hr0⟩, hl, pn, nds, l100, k⟩ := h
    refine ⟨_, (pss_cons (ps_set (i := 2) sc_Rule___call__.nd rfl (Or.inl rfl) (pe_lst pa_nil))
  (pss_cons (ps_set (i := 3) sc_Rule___call__.nd rfl (Or.inl rfl) (show PE _ _ (tNNew w) from pe_nnew))
  (pss_cons (ps_for PassesOwn.never rfl (pi_enum (by rfl) T.enumerate (pa_cons (pv 1) pa_nil)) (show PG _ _ (gTup K 2 _) from pg_tup (n := 2) rfl (pgs_cons (pg_name (i := 4) sc_Rule___call__.nd rfl (Or.inl rfl)) (pgs_cons (pg_name (i := 5) sc_Rule___call__.nd rfl (Or.inl rfl)) pgs_nil)))
    (pss_cons (ps_set (i := 6) sc_Rule___call__.nd rfl (Or.inl rfl) (pe_ifExp (pt_cmpR op_isN (show PE _ _ (tFld K _ _) from pe_fld (pv 5) rfl) pe_non (nomark _)) pe_non (pe_tup (pa_cons (show PE _ _ (tFld K _ _) from pe_fld (pv 5) rfl) (pa_cons (show PE _ _ (tFld K _ _) from pe_fld (pv 5) rfl) pa_nil)))))
  (pss_cons (ps_set (i := 7) sc_Rule___call__.nd rfl (Or.inl rfl) (show PE _ _ (tNGet2 w _ _) from pe_nget2 (hu20 hr) (pv 3) (pa_cons (pv 6) (pa_cons pe_int pa_nil))))
  (pss_cons (show PS _ _ (sNPut w _ _ _) from ps_nput (hu20 hr) (pv 3) (pv 6) (pe_op op_add (pv 7) pe_int) rfl)
  (pss_cons (ps_if (PW.pt (pw_and (pt_cmpR op_isN (pv 6) pe_non (nomark _)) (pw_and1 (pt_cmpR op_eq (show PE _ _ (tFld K _ _) from pe_fld (pv 0) rfl) (show PE _ _ (tCVal K _ _) from pe_cval (pe_glob (v := .ref C_Rule) rfl T.at_Rule rfl)) (nomark _))))) (pss_one (ps_set (i := 7) sc_Rule___call__.nd rfl (Or.inl rfl) (pv 4))) pss_nil)
  (pss_one (ps_expr (show PE _ _ (tBM K _ _ _ _) from pe_bm PySem.F.plainAttrs_list PySem.F.slot_list_append PySem.F.type_list_append mt_append (pv 2) (pa_cons (pe_tup (pa_cons (show PE _ _ (tFld K _ _) from pe_fld (pv 5) rfl) (pa_cons (show PE _ _ (tFld K _ _) from pe_fld (pv 5) rfl) (pa_cons (pv 7) pa_nil)))) pa_nil)))))))))
  (pss_one (ps_ret (pv 2)))))), ?_⟩
    refine Evl.q_asgL (xs := []) (Evl.el_lst Evl.ea_nil (Nat.zero_le _)) fun q H2 hq e2 hq2 => ?_
    refine q_go fun cd hcd => ?_
    have hcdH : H cd = none := Evl.fresh_back e2 hcd
    have qcd : q ≠ cd := fun e => by rw [e, hcd] at hq2; cases hq2
    have eh : Ex H (upd H2 cd (DkO w cd [])) := e2.trans (Ex.new hcd)
    refine q_enumL (a := l) (xs := ys) (Evl.ev_var rfl) (eh _ _ hl) (fun i σ' H' => ∃ (xs : List XEnt) (zs : List V) (o4 o5 o6 o7 : Option V), σ' = [some (.ref r), some (.ref l), some (.ref q), some (.ref cd), o4, o5, o6, o7] ∧ Ex H H' ∧ H' q = some (.lst zs) ∧ H' cd = some (DkO w cd xs) ∧ Keys H' xs ∧ xs.length ≤ i ∧ i ≤ ds.length ∧ (∀ d, valX xs d = cntV (cntN ds i (nkD d))) ∧ Paired (fun d z => Rep H' 6 Fs d z) ((slotsD pl ds).take i) zs) (fun H1 e1 => ⟨[], [], _, _, _, _, rfl, eh.trans e1, e1 _ _ (by rw [upd_ne qcd]; exact hq2), e1 _ _ upd_same, (fun x h => nomatch h), Nat.le_refl _, Nat.zero_le _, fun d => rfl, .nil⟩) (fun i σ' H' pv => by obtain ⟨_, _, _, _, _, _, _, e, _⟩ := pv; exact e _ _ hl) (fun i σ' H' x hx pv H1 e1 => ?_) fun σ' H' pv => ?_
    · obtain ⟨xs, zs, o4, o5, o6, o7, rfl, eH, hqH, hcdx, kxs, lxs, il, vxs, pz⟩ := pv
      have eH1 := eH.trans e1
      obtain ⟨d, hd, nr⟩ := pair_back pn hx
      have hdm := List.mem_of_getElem? hd
      have il2 : i < ds.length := (List.getElem?_eq_some_iff.mp hd).1
      cases m with
      | zero => exact nr.elim
      | succ m =>
      obtain ⟨kd, ky, ow, bl, a, dx, vk, vq, vo, t, bs, rfl, rfl, hins0, ⟨n1, rk0⟩, ⟨n2, rq0⟩, _, _, _⟩ := nr
      have hins := eH1 _ _ hins0
      have rk := rep_ex eH1 rk0
      have rq := rep_ex eH1 rq0
      obtain ⟨_, _, _, _, eqd, hkd, hky, _⟩ := nds _ hdm
      injection eqd with eqd
      injection eqd with e1' eqd
      injection eqd with e2' eqd
      subst e1' e2'
      have kdk : kdD 3 kd := by rcases hkd with rfl | ⟨s, rfl⟩ <;> trivial
      show tSeq (tAsg _ (gName 6)) _ _ [some (.ref r), some (.ref l), some (.ref q), some (.ref cd), some (.int (i : Int)), some (.ref a), o6, o7] H1
      refine q_go (alike_go (ow := ow) (bl := .lst bl) T rfl hins rk rq kdk hky fun H3 av e3 kav avn => ?_)
      have hcd3 := (e1.trans e3) _ _ hcdx
      have kxs3 : Keys H3 xs := kxs.tk (Tk.of (e1.trans e3))
      generalize haD : alikeD (.tup [kd, ky, ow, .lst bl]) = aD at kav
      refine q_go ⟨_, rfl, ⟨cd, xs, rfl, hcd3, kxs3⟩, _, rfl, cd, av, .int 0, valX xs aD, rfl, rfl, ⟨xs, aD, .inl hcd3, kxs3, kav, rfl⟩, ?_⟩
      rw [vxs aD, cntV_get]
      refine Evl.ev_op (Evl.ev_var rfl) Evl.ev_c Evl.rv_I0 H3 (Ex.refl _) _ fun H4 e4 => ⟨_, rfl, _, rfl, cd, xs, aD, rfl, e4 _ _ hcd3, kxs3.tk (Tk.of e4), kav.tk (Tk.of e4), Nat.lt_of_le_of_lt (Nat.le_trans lxs (Nat.le_trans il l100)) (by decide), ?_⟩
      have tk5 : Tk H4 (upd H4 cd (DkO w cd (putX xs aD av (.int ((cntN ds i (nkD aD) : Int) + 1))))) := Tk.upd (e4 _ _ hcd3) (fun _ z => nomatch z)
      have e14 := (e1.trans e3).trans e4
      have eH5 : Ex H (upd H4 cd (DkO w cd (putX xs aD av (.int ((cntN ds i (nkD aD) : Int) + 1))))) := Ex.mut (eH.trans e14) hcdH
      have hq5 : (upd H4 cd (DkO w cd (putX xs aD av (.int ((cntN ds i (nkD aD) : Int) + 1))))) q = some (.lst zs) := by rw [upd_ne qcd]; exact e14 _ _ hqH
      have hc5 : (upd H4 cd (DkO w cd (putX xs aD av (.int ((cntN ds i (nkD aD) : Int) + 1))))) cd = some (DkO w cd (putX xs aD av (.int ((cntN ds i (nkD aD) : Int) + 1)))) := upd_same
      have kx5 : Keys (upd H4 cd (DkO w cd (putX xs aD av (.int ((cntN ds i (nkD aD) : Int) + 1))))) (putX xs aD av (.int ((cntN ds i (nkD aD) : Int) + 1))) := (putX_keys (kxs3.tk (Tk.of e4)) (kav.tk (Tk.of e4))).tk tk5
      have tk15 : Tk H' (upd H4 cd (DkO w cd (putX xs aD av (.int ((cntN ds i (nkD aD) : Int) + 1))))) := (Tk.of e14).trans tk5
      generalize (upd H4 cd (DkO w cd (putX xs aD av (.int ((cntN ds i (nkD aD) : Int) + 1))))) = H5 at tk5 eH5 hq5 hc5 kx5 tk15 ⊢
      have hr5 := eH5 _ _ hr0
      have slE : slotN pl ds i (.tup [kd, ky, ow, .lst bl]) = if isNon ky && decide (pl = "all") then (i : Int) else (cntN ds i (nkD aD) : Int) := by rw [← haD]; rfl
      have tst : EvT (tAnd (tTest (tOp (fun x y H Q => y = .non ∧ Q (.bl (decide (x = .non))) H) (tVar 6) (tC .non))) (tTest (tOp rEq (tFld K (tVar 0) "place") (tCVal K (tC (.ref C_Rule)) "ALL")))) [some (.ref r), some (.ref l), some (.ref q), some (.ref cd), some (.int (i : Int)), some (.ref a), some av, some (.int (cntN ds i (nkD aD) : Int))] H5 (isNon ky && decide (pl = "all")) :=
        Evl.et_and (a := isNon ky) (Evl.et_is (Evl.et_test (Evl.ev_op (Evl.ev_var rfl) Evl.ev_c rv_isN)) (by
          rw [Bool.eq_iff_iff, decide_eq_true_eq]; exact avn)) fun _ => Evl.et_is (Evl.et_test (Evl.ev_op (ev_fld (Evl.ev_var rfl) hr5 T.cl_Rule T.no_Rule_place rfl) (ev_cval (v := .str "all") Evl.ev_c ⟨T.cr_Rule, T.cg_Rule⟩ ⟨hA, ⟨tA, rfl⟩⟩) (Evl.rv_eq rfl))) (by
          rw [Bool.eq_iff_iff, decide_eq_true_eq, decide_eq_true_eq]; exact ⟨fun e => V.str.inj e, fun e => by rw [e]⟩)
      dsimp only
      refine Evl.q_ifAsg (i := 7) (v := .int (slotN pl ds i (.tup [kd, ky, ow, .lst bl]))) tst (fun hb => Evl.ev_is (Evl.ev_var (i := 4) rfl) (by rw [slE, if_pos hb])) (fun hb => by rw [slE, if_neg (by rw [hb]; decide)]; rfl) fun H6 e6 => ?_
      have ins6 := e6 _ _ (eH5 _ _ hins0)
      have hq6 := e6 _ _ hq5
      refine ⟨_, rfl, .inl ⟨rfl, _, Evl.sq_of hq6⟩, _, rfl, a, C_Node, dx, _, vk, rfl, ins6, T.cl_Node, T.no_Node_kind, rfl, _, rfl, a, C_Node, dx, _, vq, rfl, ins6, T.cl_Node, T.no_Node_key, rfl, _, rfl, (by show 3 ≤ sizeLine; decide), fun tp htp => ?_⟩
      have e7 := Ex.new (o := .tup [vk, vq, .int (slotN pl ds i (.tup [kd, ky, ow, .lst bl]))]) htp
      have hq7 := e7 _ _ hq6
      have lz : zs.length ≤ 100 := by rw [← pair_len pz, List.length_take]; omega
      refine ⟨q, zs, .ref tp, rfl, rfl, hq7, Evl.sz_lt (by omega), ?_⟩
      have tk8 := Tk.upd (u := .lst (zs ++ [.ref tp])) hq7 (fun _ z => nomatch z)
      have e67 := e6.trans e7
      have tk58 : Tk H5 (upd (upd H6 tp (.tup [vk, vq, .int (slotN pl ds i (.tup [kd, ky, ow, .lst bl]))])) q (.lst (zs ++ [.ref tp]))) := (Tk.of e67).trans tk8
      refine ⟨putX xs aD av (.int ((cntN ds i (nkD aD) : Int) + 1)), zs ++ [.ref tp], _, _, _, _, rfl, Ex.mut (eH5.trans e67) hq, upd_same, by rw [upd_ne (Ne.symm qcd)]; exact e67 _ _ hc5, kx5.tk tk58, Nat.le_trans putX_len (by omega), il2, fun d => ?_, ?_⟩
      · rw [valX_put, vxs d, cnt_succ hd, haD]
        by_cases e : nkD d = nkD aD
        · rw [if_pos e, if_pos e.symm, e]; rfl
        · rw [if_neg e, if_neg (Ne.symm e), Nat.add_zero]
      · rw [slots_take hd]
        have e17 := (Tk.of e1).trans ((Tk.of (e3.trans e4)).trans (tk5.trans tk58))
        refine pair_snoc (pair_impM pz fun x z hx _ rx => rep_tk e17 (slot_kd nds x (List.mem_of_mem_take hx)) rx) ?_
        have rk5 := rep_ex eH5 rk0
        have rq5 := rep_ex eH5 rq0
        refine ⟨tp, [vk, vq, .int (slotN pl ds i (.tup [kd, ky, ow, .lst bl]))], rfl, by rw [upd_ne (fun e => by rw [e, hq6] at htp; cases htp)]; exact upd_same, by show 3 ≤ 100000; decide, .cons ?_ (.cons ?_ (.cons rfl .nil))⟩
        · exact rep_lv 3 (by decide) kdk (rep_tk tk58 kdk rk5)
        · exact rep_lv 3 (by decide) hky.1 (rep_tk tk58 hky.1 rq5)
    · obtain ⟨xs, zs, o4, o5, o6, o7, rfl, eH, hqH, hcdx, kxs, lxs, il, vxs, pz⟩ := pv
      rw [← pair_len pn, ← slots_len (pl := pl), List.take_of_length_le (Nat.le_refl _)] at pz
      exact Evl.s_ret (Evl.ev_var rfl) fun H9 e9 => k H9 q zs (eH.trans e9) hq (e9 _ _ hqH) (pair_imp pz fun d z r => rep_ex e9 r)
  · obtain ⟨oc, od, kV, doc, pm, an, cdv, ct, osl, rfl, lk, _⟩ := F.ex
    unfold PySem.W.fnIn
    rw [lk]
end
end Pk

namespace Pk
open PySem PySem.Spec PyProof.Rows L2 Ssb
open Evl (Ex Ev EvT EvL EvA EvU)
open ClX (CRead CVal tCVal pe_cval)
/-! ### what goes with what -/
theorem cnt_mono {ds : List D} {i j : Nat} {k : NestedKey} (h : i ≤ j) : cntN ds i k ≤ cntN ds j k := by
  unfold cntN
  have e : ds.take i = (ds.take j).take i := by rw [List.take_take, Nat.min_eq_left h]
  rw [e]
  exact ((List.take_sublist _ _).filter _).length_le
/-- a node as the lists that matter: kind, key, the rest -/
theorem nd_at {ds : List D} {m i : Nat} (hn : ∀ d ∈ ds, NdD m d) (hi : i < ds.length) : ds[i]? = some (ds.getD i .non) ∧ NdD m (ds.getD i .non) := by
  have g : ds[i]? = some (ds.getD i .non) := by rw [List.getD_eq_getElem?_getD, List.getElem?_eq_getElem hi]; rfl
  exact ⟨g, hn _ (List.mem_of_getElem? g)⟩
def kindK {x : D} (h : x = .non ∨ ∃ s, x = .str s) : kdD 3 x := by rcases h with rfl | ⟨s, rfl⟩ <;> trivial
/-- when two slots are equal -/
theorem slot_eq {pl : Str} {ds es : List D} {m i j : Nat} {a b : D} (ha : NdD m a) (hb : NdD m b) : nkD (slotD pl ds j a) = nkD (slotD pl es i b) ↔ kindOf a = kindOf b ∧ keyOf a = keyOf b ∧ slotN pl ds j a = slotN pl es i b := by
  cases m with
  | zero => exact ha.elim
  | succ m =>
  obtain ⟨kd, ky, ow, bl, rfl, hkd, hky, _⟩ := ha
  obtain ⟨kd2, ky2, ow2, bl2, rfl, hkd2, hky2, _⟩ := hb
  constructor
  · intro e
    unfold slotD at e
    rw [nkD, nkD, nkL, nkL, nkL, nkL, nkL, nkL, nkL, nkL] at e
    injection e with e
    injection e with e1 e
    injection e with e2 e
    injection e with e3 _
    rw [nkD, nkD] at e3
    injection e3 with e3
    exact ⟨nk_inj (kindK hkd) (kindK hkd2) e1, nk_inj hky.1 hky2.1 e2, e3⟩
  · rintro ⟨e1, e2, e3⟩
    unfold slotD
    rw [e1, e2, e3]
theorem slots_ne {pl : Str} {ds : List D} {m i j : Nat} (hn : ∀ d ∈ ds, NdD m d) (hj : j < i) (hi : i < ds.length) : nkD (slotD pl ds j (ds.getD j .non)) ≠ nkD (slotD pl ds i (ds.getD i .non)) := fun e => by
  obtain ⟨gj, nj⟩ := nd_at hn (show j < ds.length by omega)
  obtain ⟨gi, ni⟩ := nd_at hn hi
  obtain ⟨e1, e2, e3⟩ := (slot_eq nj ni).mp e
  have al : alikeD (ds.getD j .non) = alikeD (ds.getD i .non) := by unfold alikeD; rw [e1, e2]
  unfold slotN at e3
  rw [e2] at e3
  by_cases c : (isNon (keyOf (ds.getD i .non)) && decide (pl = "all")) = true
  · rw [if_pos c, if_pos c] at e3
    omega
  · rw [if_neg c, if_neg c, ← al] at e3
    have := cnt_succ gj (nkD (alikeD (ds.getD j .non)))
    rw [if_pos rfl] at this
    have := cnt_mono (ds := ds) (k := nkD (alikeD (ds.getD j .non))) (show j + 1 ≤ i by omega)
    omega
/-- the node of ds with the slot q -/
def slotIx (pl : Str) (ds : List D) (n : Nat) (q : NestedKey) : Option Nat := (List.range n).find? fun j => decide (nkD (slotD pl ds j (ds.getD j .non)) = q)
theorem slotIx_succ {pl : Str} {ds : List D} {m n : Nat} {q : NestedKey} (hn : ∀ d ∈ ds, NdD m d) (h : n < ds.length) : slotIx pl ds (n + 1) q = if q = nkD (slotD pl ds n (ds.getD n .non)) then some n else slotIx pl ds n q := by
  unfold slotIx
  rw [List.range_succ, List.find?_append]
  by_cases e : q = nkD (slotD pl ds n (ds.getD n .non))
  · rw [if_pos e]
    have no : ((List.range n).find? fun j => decide (nkD (slotD pl ds j (ds.getD j .non)) = q)) = none := by
      rw [List.find?_eq_none]
      intro j hj
      have := slots_ne (pl := pl) hn (List.mem_range.mp hj) h
      rw [← e] at this
      simpa using this
    rw [no, List.find?_cons_of_pos (by rw [e]; simp)]; rfl
  · rw [if_neg e, List.find?_cons_of_neg (by simpa using fun z => e z.symm)]
    cases (List.range n).find? fun j => decide (nkD (slotD pl ds j (ds.getD j .non)) = q) <;> rfl
theorem slotIx_lt {pl : Str} {ds : List D} {n j : Nat} {q : NestedKey} (h : slotIx pl ds n q = some j) : j < n ∧ nkD (slotD pl ds j (ds.getD j .non)) = q := by
  have h1 := List.mem_of_find?_eq_some h
  have h2 := List.find?_some h
  exact ⟨List.mem_range.mp h1, of_decide_eq_true h2⟩
/-- the node of ds that goes with the k-th of es -/
def findD (pl : Str) (ds es : List D) (k : Nat) : Option Nat := slotIx pl ds ds.length (nkD (slotD pl es k (es.getD k .non)))
def pairAt (rec : List D → List D → List (D × D)) (ds es : List D) (k : Nat) : Option Nat → List (D × D)
  | none => []
  | some j => (ds.getD j .non, es.getD k .non) :: rec (belowD (ds.getD j .non)) (belowD (es.getD k .non))
def pairsD (pl : Str) : Nat → List D → List D → List (D × D)
  | 0, _, _ => []
  | m + 1, ds, es => (List.range es.length).flatMap fun k => pairAt (pairsD pl m) ds es k (findD pl ds es k)
/-- at most so many -/
def bnd : Nat → Nat
  | 0 => 0
  | m + 1 => 24 * (1 + bnd m)
theorem nd_below {m : Nat} {d : D} (h : NdD (m + 1) d) : (belowD d).length ≤ 24 ∧ ∀ x ∈ belowD d, NdD m x := by
  obtain ⟨kd, ky, ow, bl, rfl, _, _, _, h1, h2⟩ := h
  exact ⟨h1, h2⟩
theorem pairs_len {pl : Str} : ∀ {m : Nat} {ds es : List D}, es.length ≤ 24 → (∀ d ∈ es, NdD m d) → (pairsD pl m ds es).length ≤ bnd m
  | 0, _, _, _, _ => Nat.le_refl _
  | m + 1, ds, es, h, he => by
    have key : ∀ n, n ≤ es.length → ((List.range n).flatMap fun k => pairAt (pairsD pl m) ds es k (findD pl ds es k)).length ≤ n * (1 + bnd m) := fun n => by
      induction n with
      | zero => exact fun _ => Nat.zero_le _
      | succ n ih =>
        intro hn
        rw [List.range_succ, List.flatMap_append, List.length_append, Nat.succ_mul]
        refine Nat.add_le_add (ih (by omega)) ?_
        rw [List.flatMap_cons, List.flatMap_nil, List.append_nil]
        cases findD pl ds es n with
        | none => exact Nat.zero_le _
        | some j =>
          obtain ⟨h1, h2⟩ := nd_below (nd_at he (show n < es.length by omega)).2
          show (pairsD pl m _ _).length + 1 ≤ _
          have := pairs_len (pl := pl) (ds := belowD (ds.getD j .non)) h1 h2
          omega
    have := key es.length (Nat.le_refl _)
    exact Nat.le_trans this (Nat.mul_le_mul_right _ h)
/-! ### nodes below -/
section
variable {P : Program} {w : World} {K : PySem.W.Frag} {mg : Str → Option Value} {base : Heap} {C_Node C_Rule C_InvalidRule : Addr}
def spBelow (C : Addr) (K : PySem.W.Frag) : Sp := fun vs H Q _ => ∃ (v : V) (m : Nat) (d : D), vs = [v] ∧ NodeR C K H (m + 1) d v ∧ ∀ H' q ys, Ex H H' → H q = none → H' q = some (.lst ys) → Paired (fun d x => NodeR C K H' m d x) (belowD d) ys → Q (.ref q) H'
theorem ok_Node_below (T : Txt K mg C_Node C_Rule C_InvalidRule) (R : Prg K mg C_Node C_Rule C_InvalidRule) : ∃ f fd, Mt P w K mg base C_Node "below" 1 ["self"] (spBelow C_Node K) f fd := by
  obtain ⟨f, fd, F, fi, isf, kp⟩ := R.Node_below
  refine ⟨f, fd, F.ok sc_Node_below (fun vs H Q E h => ?_) (fun cdv A outer s H vs Q E hr h => ?_), ⟨fi, isf, kp⟩, F.binds (fun _ _ _ _ _ _ us hl => match us, hl with | [_], _ => rfl)⟩
  · obtain ⟨v, m, d, rfl, _⟩ := h; rfl
  · obtain ⟨v, m, d, rfl, hv, k⟩ := h
    refine ⟨_, (pss_one (ps_ret (pe_callTy call_list_of (by rfl) T.list (by decide +kernel) (pa_cons (show PE _ _ (tFld K _ _) from pe_fld (pv 0) rfl) pa_nil)))), ?_⟩
    obtain ⟨kd, ky, ow, bl, a, dx, vk, vq, vo, t, ys, rfl, rfl, ha, _, _, _, st, pys⟩ := hv
    refine ⟨_, rfl, a, C_Node, dx, _, _, rfl, ha, T.cl_Node, T.no_Node_inside, rfl, t, ys, rfl, .inr st, fun l hl => ?_⟩
    exact k _ l ys (Ex.new hl) hl upd_same (pair_imp pys fun d x r => r.ex (Ex.new hl))
/-- a rule made -/
def spRInit (C : Addr) : Sp := fun vs H Q _ => ∃ (p dx : Addr) (s : Str), vs = [.ref p, .str s] ∧ (s = "all" ∨ s = "plain") ∧ H p = some (.ins C dx []) ∧ ∀ H', (∀ b o, b ≠ p → H b = some o → H' b = some o) → RuleAt C H' p s → Q .non H'
theorem ok_Rule_init (T : Txt K mg C_Node C_Rule C_InvalidRule) (R : Prg K mg C_Node C_Rule C_InvalidRule) : ∃ f fd, MtD P w K mg base CX0 C_Rule "__init__" 1 ["self", "place"] (spRInit C_Rule) [.str "all"] f fd := by
  obtain ⟨f, fd, F, fi, isf, kp⟩ := R.Rule_init
  obtain ⟨tA, hA⟩ := T.all_Rule
  obtain ⟨tP, hP⟩ := T.pl_Rule
  refine ⟨f, fd, F.ok sc_Rule_init (fun vs H Q E h => ?_) (fun cdv A outer s H vs Q E hr h => ?_), ⟨fi, isf, kp⟩, ?_, ?_⟩
  · obtain ⟨p, dx, s, rfl, _⟩ := h; rfl
  · obtain ⟨p, dx, z, rfl, hz, hp, k⟩ := h
    refine ⟨_, (pss_cons (ps_if (pt_cmpR (r := rIn K true) op_notIn_seq (pv 1) (pe_tup (pa_cons (show PE _ _ (tCVal K _ _) from pe_cval (pe_glob (v := .ref C_Rule) rfl T.at_Rule rfl)) (pa_cons (show PE _ _ (tCVal K _ _) from pe_cval (pe_glob (v := .ref C_Rule) rfl T.at_Rule rfl)) pa_nil))) (by rfl)) pss_never pss_nil)
  (pss_one (ps_fld (pv 0) (pv 1) rfl))), ?_⟩
    refine Evl.q_when (b := false) (Evl.et_test (Evl.ev_is (Evl.ev_opU (xs := [.str "all", .str "plain"]) (Evl.ev_var rfl) (Evl.eu_tup (Evl.ea_cons (ev_cval (v := .str "all") Evl.ev_c ⟨T.cr_Rule, T.cg_Rule⟩ ⟨hA, ⟨tA, rfl⟩⟩) (Evl.ea_cons (ev_cval (v := .str "plain") Evl.ev_c ⟨T.cr_Rule, T.cg_Rule⟩ ⟨hP, ⟨tP, rfl⟩⟩) Evl.ea_nil)) (by show 2 ≤ 100000; decide)) fun q Hq hq eq => Evl.rv_niT (Evl.st_of hq) rfl rfl) (by rcases hz with rfl | rfl <;> rfl))) (fun h => nomatch h) fun _ H1 e1 => ?_
    refine ⟨_, rfl, _, rfl, p, C_Rule, dx, [], rfl, e1 _ _ hp, T.cl_Rule, T.no_Rule_place, by decide, ?_⟩
    exact k _ (fun b o n h => by rw [upd_ne n]; exact e1 _ _ h) ⟨dx, upd_same⟩
  · obtain ⟨ds, hv, hb⟩ := F.binds1 (ps := ["self", "place"]) 2 1 (fun e => nomatch e) rfl fun T kV doc pm an cdv ct us its h1 h2 => match us, its, h1, h2 with | [_, _], [_], _, _ => ⟨_, rfl, rfl⟩
    cases hv
    exact hb
  · exact F.binds1 (ps := ["self", "place"]) 1 0 (fun e => nomatch e) rfl fun T kV doc pm an cdv ct us its h1 h2 => match us, its, h1, h2 with | [_], [_], _, _ => ⟨_, rfl, rfl⟩
end
end Pk

namespace Pk
open PySem PySem.Spec PyProof.Rows L2 Ssb
open Evl (Ex Ev EvT EvL EvA EvU)
/-! ### matched -/
theorem dn_zipL {K : PySem.W.Frag} {w : World} {a b : Addr} {xs ys : List V} {g : TG} {tt : TT} {tk tv : TE} {vs : List Nat} {σ : L2.St} {G : Hp} {D : Addr} {Qd : Hp → Prop} (hl : xs.length = ys.length) (Pv : Nat → Hp → Prop) (h0 : Pv 0 (upd G D (DkO w D []))) (hq : ∀ i H, Pv i H → SqL K H a xs ∧ SqL K H b ys)
    (hs : ∀ (i : Nat) (x y : V) (T : Addr) (H : Hp), xs[i]? = some x → ys[i]? = some y → Pv i H → H T = none → NTurn w vs g tt tk tv D σ (.ref T) (upd H T (.tup [x, y])) (Pv (i + 1))) (hd : ∀ H, Pv xs.length H → Qd H) :
    ∃ W : Nat → Nat → Hp → Prop, (∃ m, W 0 m (upd G D (DkO w D []))) ∧ ∀ i m H, W i m H → ((Itz K a b).stop i H ∧ Qd H) ∨ ((Itz K a b).go i H ∧ ∃ M : Hp → Prop, (∀ H', M H' → ∃ j, j < m ∧ W (i + 1) j H') ∧ ∀ x H', (Itz K a b).yld i H x H' → NTurn w vs g tt tk tv D σ x H' M) := by
  refine ⟨fun i m H => m = xs.length - i ∧ i ≤ xs.length ∧ Pv i H, ⟨xs.length, by simp, Nat.zero_le _, h0⟩, ?_⟩
  rintro i m H ⟨rfl, hi, p⟩
  obtain ⟨qx, qy⟩ := hq i H p
  by_cases hlt : i < xs.length
  · have hx : xs[i]? = some xs[i] := List.getElem?_eq_getElem hlt
    have hlt2 : i < ys.length := by omega
    have hy : ys[i]? = some ys[i] := List.getElem?_eq_getElem hlt2
    refine .inr ⟨⟨xs, ys, _, _, qx, qy, hx, hy⟩, Pv (i + 1), fun H' p' => ⟨xs.length - (i + 1), by omega, rfl, hlt, p'⟩, fun v H' y => ?_⟩
    obtain ⟨T, x', y', rfl, hT, rfl, f1, f2⟩ := y
    exact hs i x' y' T H (f1 xs qx) (f2 ys qy) p hT
  · have e : i = xs.length := by omega
    subst e
    exact .inl ⟨⟨xs, ys, qx, qy, Or.inl (Nat.le_refl _)⟩, hd H p⟩
theorem Nl.trans {H H1 H2 : Hp} (a : Nl H H1) (b : Nl H1 H2) : Nl H H2 := fun c o h n => b c o (a c o h n) n
/-- a pair of nodes -/
def PairR (C : Addr) (K : PySem.W.Frag) (H : Hp) (p : D × D) (z : V) : Prop := ∃ t a b n, z = .ref t ∧ H t = some (.tup [a, b]) ∧ NodeR C K H n p.1 a ∧ NodeR C K H n p.2 b
theorem PairR.nl {C : Addr} {K : PySem.W.Frag} {H H' : Hp} {p : D × D} {z : V} (e : Nl H H') (h : PairR C K H p z) : PairR C K H' p z := by
  obtain ⟨t, a, b, n, h1, h2, h3, h4⟩ := h
  exact ⟨t, a, b, n, h1, e _ _ h2 (fun _ z => nomatch z), h3.nl e, h4.nl e⟩
/-- the table as far as i -/
structure TabAt (w : World) (pl : Str) (ds : List D) (xs : List V) (H : Hp) (p : Addr) (i : Nat) : Prop where
  ex : ∃ tab : List XEnt, H p = some (DkO w p tab) ∧ Keys H tab ∧ tab.length ≤ i ∧ ∀ q : D, valX tab q = (slotIx pl ds i (nkD q)).map fun j => xs.getD j .non
section
variable {P : Program} {w : World} {K : PySem.W.Frag} {mg : Str → Option Value} {base : Heap} {C_Node C_Rule C_InvalidRule : Addr}
def spMatched (CN CR : Addr) (K : PySem.W.Frag) : Nat → Sp
  | 0 => fun _ _ _ _ => False
  | m + 1 => fun vs H Q _ => ∃ (r o n : Addr) (pl : Str) (ds es : List D) (xs ys : List V), vs = [.ref r, .ref o, .ref n] ∧ RuleAt CR H r pl ∧ H o = some (.lst xs) ∧ H n = some (.lst ys) ∧ Paired (fun d x => NodeR CN K H m d x) ds xs ∧ Paired (fun d x => NodeR CN K H m d x) es ys ∧ (∀ d ∈ ds, NdD m d) ∧ (∀ d ∈ es, NdD m d) ∧ ds.length ≤ 24 ∧ es.length ≤ 24 ∧ bnd m ≤ 30000 ∧
    ∀ H' q zs, Ex H H' → H q = none → H' q = some (.lst zs) → Paired (fun p z => PairR CN K H' p z) (pairsD pl m ds es) zs → Q (.ref q) H'
theorem ok_matched (T : Txt K mg C_Node C_Rule C_InvalidRule) (R : Prg K mg C_Node C_Rule C_InvalidRule) : ∀ m, ∃ f fd, Fn P w K mg base "matched" (m + 3) ["rule", "old", "new"] (spMatched C_Node C_Rule K m) f fd
  | 0 => by
    obtain ⟨f, fd, at_, F, kp⟩ := R.matched
    exact ⟨f, fd, F.ok sc_matched (fun vs H Q E h => h.elim) (fun cdv A outer s H vs Q E hr h => h.elim), at_, kp, F.binds (fun _ _ _ _ _ _ us hl => match us, hl with | [_, _, _], _ => rfl)⟩
  | m + 1 => by
    obtain ⟨_, _, G_matched⟩ := ok_matched T R m
    obtain ⟨_, _, G_Node_below⟩ := ok_Node_below (P := P) (w := w) (base := base) T R
    obtain ⟨_, _, GcO, GcB, GcM, GcF, GcN⟩ := ok_Rule_call (P := P) (w := w) (base := base) T R
    obtain ⟨f, fd, at_, F, kp⟩ := R.matched
    refine ⟨f, fd, F.ok sc_matched (fun vs H Q E h => ?_) (fun cdv A outer s H vs Q E hr h => ?_), at_, kp, F.binds (fun _ _ _ _ _ _ us hl => match us, hl with | [_, _, _], _ => rfl)⟩
    · obtain ⟨r, o, n, pl, ds, es, xs, ys, rfl, _⟩ := h; rfl
    · obtain ⟨r, o, n, pl, ds, es, xs, ys, rfl, hr1, ho, hn, prx, pry, nds, nes, l1, l2, hb, k⟩ := h
      refine ⟨_, (pss_cons (ps_set (i := 3) sc_matched.nd rfl (Or.inl rfl) (pe_lst pa_nil))
  (pss_cons (ps_setDn (hu := hu20 hr) (i := 4) (own := [("slot", 5), ("node", 8)]) rfl sc_matched.nd rfl rfl (sw_trueD rfl rfl rfl (by decide +kernel)) ((show PI _ _ _ (RZ.iZipA K _) from RZ.pi_zipA (by rfl) T.zip (pa_cons (pe_callI (i := 0) GcO (hr.mono (by omega)) rfl (by first | exact Or.inl rfl | exact Or.inr (Or.inl rfl) | exact Or.inr (Or.inr rfl)) GcM GcF GcN GcB (pa_cons (pv 1) pa_nil)) (pa_cons (pv 1) pa_nil)))) (blkOk_by (own := [("slot", 5), ("node", 8)]) (N := ["rule", "old", "new", "pairs", "table", "slot", "after", "before", "node"]) (sc := defScope s_matched) (by decide +kernel)) (fun _ _ _ _ _ => (show PG _ _ (gTup K 2 _) from pg_tup (n := 2) rfl (pgs_cons (pg_name (i := 5) sc_matched.nd rfl (Or.inl rfl)) (pgs_cons (pg_name (i := 8) sc_matched.nd rfl (Or.inl rfl)) pgs_nil)))) (fun _ _ _ _ _ => pts_nil) (fun _ _ _ _ _ => (pv 5)) (fun _ _ _ _ _ => (pv 8)))
  (pss_cons (ps_for PassesOwn.never rfl ((show PI _ _ _ (RZ.iZipA K _) from RZ.pi_zipA (by rfl) T.zip (pa_cons (pe_callI (i := 0) GcO (hr.mono (by omega)) rfl (by first | exact Or.inl rfl | exact Or.inr (Or.inl rfl) | exact Or.inr (Or.inr rfl)) GcM GcF GcN GcB (pa_cons (pv 2) pa_nil)) (pa_cons (pv 2) pa_nil)))) (show PG _ _ (gTup K 2 _) from pg_tup (n := 2) rfl (pgs_cons (pg_name (i := 5) sc_matched.nd rfl (Or.inl rfl)) (pgs_cons (pg_name (i := 6) sc_matched.nd rfl (Or.inl rfl)) pgs_nil)))
    (pss_one (ps_if (pt_cmpR (r := rNIn w) (op_nin (hu20 hr)) (pv 5) (pv 4) (by rfl)) (pss_cons (ps_set (i := 7) sc_matched.nd rfl (Or.inl rfl) (show PE _ _ (tNGet w _ _) from pe_nget (hu20 hr) (pv 4) (pv 5) (fun _ _ => rfl)))
  (pss_cons (ps_expr (show PE _ _ (tBM K _ _ _ _) from pe_bm PySem.F.plainAttrs_list PySem.F.slot_list_append PySem.F.type_list_append mt_append (pv 3) (pa_cons (pe_tup (pa_cons (pv 7) (pa_cons (pv 6) pa_nil))) pa_nil)))
  (pss_one (ps_expr (show PE _ _ (tBM K _ _ _ _) from pe_bm PySem.F.plainAttrs_list PySem.F.slot_list_extend PySem.F.type_list_extend mt_extend (pv 3) (pa_cons (pcl G_matched hr (pa_cons (pv 0) (pa_cons (pmt0 (pv 7) T.cl_Node G_Node_below hr) (pa_cons (pmt0 (pv 6) T.cl_Node G_Node_below hr) pa_nil)))) pa_nil)))))) pss_nil)))
  (pss_one (ps_ret (pv 3)))))), ?_⟩
      refine Evl.q_asgL (xs := []) (Evl.el_lst Evl.ea_nil (Nat.zero_le _)) fun q H1 hq e1 hq1 => ?_
      obtain ⟨dx, hr1⟩ := hr1
      have sAt : ∀ {fs : List D} {i : Nat}, i < fs.length → (slotsD pl fs)[i]? = some (slotD pl fs i (fs.getD i .non)) := fun {fs i} h => by
        unfold slotsD
        rw [List.getElem?_map, List.getElem?_range h]; rfl
      have kv : ∀ {fs : List D} {i : Nat} {x : V} {Hx Hy : Hp}, (∀ d ∈ fs, NdD m d) → i < fs.length → Tk Hx Hy → Rep Hx 6 Fs (slotD pl fs i (fs.getD i .non)) x → KeyV Hy (slotD pl fs i (fs.getD i .non)) x := fun {fs i x Hx Hy} hn hi e r => by
        have k4 := slot_kd hn _ (List.mem_of_getElem? (sAt hi))
        exact KeyV.tk e ⟨kd_le (by decide) k4, .inr ⟨_, rfl⟩, 6, Fs, r⟩
      have gd : ∀ {fs : List D} {vs : List V} {Hx : Hp} {i : Nat}, Paired (fun d x => NodeR C_Node K Hx m d x) fs vs → i < fs.length → vs[i]? = some (vs.getD i .non) ∧ NodeR C_Node K Hx m (fs.getD i .non) (vs.getD i .non) := fun {fs vs Hx i} p hi => by
        obtain ⟨v, hv, r⟩ := pair_at p (show fs[i]? = some (fs.getD i .non) by rw [List.getD_eq_getElem?_getD, List.getElem?_eq_getElem hi]; rfl)
        have : vs.getD i .non = v := by rw [List.getD_eq_getElem?_getD, hv]; rfl
        rw [this]; exact ⟨hv, r⟩
      have lx := pair_len prx
      have ly := pair_len pry
      refine q_go ⟨r, dx, _, rfl, _, rfl, e1 _ _ hr1, r, o, pl, m, ds, xs, rfl, ⟨dx, e1 _ _ hr1⟩, e1 _ _ ho, pair_imp prx fun a b h => NodeR.ex e1 h, nds, by omega, fun H2 sl zs e2 hsl hzs pz => ?_⟩
      have lz := pair_len pz
      rw [slots_len] at lz
      refine ⟨_, rfl, sl, o, zs, xs, rfl, .inl ⟨Evl.sq_of hzs, Evl.sq_of ((e1.trans e2) _ _ ho), fun D hD => ?_⟩⟩
      refine dn_zipL (xs := zs) (ys := xs) (by omega) (fun i Hx => Ex H2 Hx ∧ TabAt w pl ds xs Hx D i) ⟨Ex.new hD, ⟨[], upd_same, (fun x h => nomatch h), Nat.le_refl _, fun q => rfl⟩⟩ (fun i Hx p => ⟨Evl.sq_of (p.1 _ _ hzs), Evl.sq_of (p.1 _ _ ((e1.trans e2) _ _ ho))⟩) (fun i x y t Hx hx hy pv ht => ?_) fun H3 pv => ?_
      · obtain ⟨ex, ⟨tab, hDt, hks, hlen, hval⟩⟩ := pv
        have e4 := Ex.new (o := .tup [x, y]) ht
        have il : i < ds.length := by rw [lx]; exact (List.getElem?_eq_some_iff.mp hy).1
        obtain ⟨x', hx', rx⟩ := pair_at pz (sAt il)
        rw [hx] at hx'; cases hx'
        have hD4 := e4 _ _ hDt
        have kx := kv nds il (Tk.of (ex.trans e4)) rx
        refine ⟨t, [x, y], rfl, Evl.st_of upd_same, rfl, _, _, rfl, _, _, rfl, rfl, rfl, yes_go ⟨_, rfl, _, rfl, tab, slotD pl ds i (ds.getD i .non), hD4, hks.tk (Tk.of e4), kx, Evl.sz_lt (by omega), Ex.mut (ex.trans e4) hD, ⟨putX tab (slotD pl ds i (ds.getD i .non)) x y, upd_same, (putX_keys (hks.tk (Tk.of e4)) kx).tk (Tk.upd hD4 fun _ z => by unfold DkO at z; cases z), Nat.le_trans putX_len (by omega), fun qd => ?_⟩⟩⟩
        rw [valX_put, slotIx_succ nds il]
        by_cases c : nkD qd = nkD (slotD pl ds i (ds.getD i .non))
        · rw [if_pos c, if_pos c]
          show some y = some (xs.getD i .non)
          rw [List.getD_eq_getElem?_getD, hy]; rfl
        · rw [if_neg c, if_neg c]; exact hval qd
      obtain ⟨e3, tab3⟩ := pv
      have e13 := e1.trans (e2.trans e3)
      have e23 := e2.trans e3
      have hq3 := e23 _ _ hq1
      -- the loop
      refine q_seq ⟨r, dx, _, rfl, _, rfl, e13 _ _ hr1, r, n, pl, m, es, ys, rfl, ⟨dx, e13 _ _ hr1⟩, e13 _ _ hn, pair_imp pry fun a b h => NodeR.ex e13 h, nes, by omega, fun H4 s2 zs2 e4 hs20 hs2 pz2 => ?_⟩
      have lz2 := pair_len pz2
      rw [slots_len] at lz2
      have e14 := e13.trans e4
      refine ⟨_, rfl, s2, n, zs2, ys, rfl, .inl ⟨Evl.sq_of hs2, Evl.sq_of (e14 _ _ hn), ?_⟩⟩
      obtain ⟨tab, hDt, hks, hlen, hval⟩ := tab3
      rw [show zs.length = ds.length by omega] at hlen hval
      have q2 : s2 ≠ q := fun e => by rw [e, e4 _ _ hq3] at hs2; rw [e, hq3] at hs20; cases hs20
      have qD : D ≠ q := fun e => by rw [e, e2 _ _ hq1] at hD; cases hD
      refine RZ.for_zipL (xs := zs2) (ys := ys) (by omega) (fun i σ' Hx => ∃ (ps : List V) (o5 o6 o7 o8 : Option V), σ' = [some (.ref r), some (.ref o), some (.ref n), some (.ref q), some (.ref D), o5, o6, o7, o8] ∧ Ex H Hx ∧ Hx q = some (.lst ps) ∧ Paired (fun p z => PairR C_Node K Hx p z) ((List.range i).flatMap fun k => pairAt (pairsD pl (m - 1)) ds es k (findD pl ds es k)) ps ∧ ps.length ≤ i * (1 + bnd (m - 1)) ∧ Hx D = some (DkO w D tab) ∧ Hx s2 = some (.lst zs2) ∧ Tk H4 Hx)
        ⟨[], _, _, _, _, rfl, e14, e4 _ _ hq3, .nil, Nat.zero_le _, e4 _ _ hDt, hs2, Tk.of (Ex.refl _)⟩ (fun i σ' Hx p => ?_) (fun i x y t σ' Hx hx hy pv ht => ?_) fun σ' Hx pv => ?_
      · obtain ⟨ps, o5, o6, o7, o8, rfl, ex, h1, h2, h3, h4, h5, h6⟩ := p
        exact ⟨Evl.sq_of h5, Evl.sq_of (ex _ _ hn)⟩
      · obtain ⟨ps, o5, o6, o7, o8, rfl, ex, hqx, pps, lps, hDx, hsx, tk⟩ := pv
        have iles : i < es.length := by rw [ly]; exact (List.getElem?_eq_some_iff.mp hy).1
        obtain ⟨x', hx', rx⟩ := pair_at pz2 (sAt iles)
        rw [hx] at hx'; cases hx'
        obtain ⟨hyi, ry⟩ := gd pry iles
        rw [hy] at hyi; cases hyi
        have e5 := Ex.new (o := .tup [x, ys.getD i .non]) ht
        have hD5 := e5 _ _ hDx
        have tk5 := tk.trans (Tk.of e5)
        have ks5 := hks.tk (((Tk.of e4).trans tk).trans (Tk.of e5))
        have kx := kv nes iles tk5 rx
        have hfind : valX tab (slotD pl es i (es.getD i .non)) = (findD pl ds es i).map fun j => xs.getD j .non := hval _
        refine ⟨t, [x, ys.getD i .non], rfl, Evl.st_of upd_same, rfl, _, _, rfl, _, _, rfl, rfl, ?_⟩
        refine Evl.s_if (b := (findD pl ds es i).isSome) (Evl.et_is (Evl.et_test (Evl.ev_op (Evl.ev_var rfl) (Evl.ev_var rfl) (fun Hy ey Q q' => ⟨D, _, rfl, ⟨tab, slotD pl es i (es.getD i .non), .inl (ey _ _ hD5), ks5.tk (Tk.of ey), kx.tk (Tk.of ey), rfl⟩, q' Hy (Ex.refl _)⟩))) (by rw [hfind]; cases findD pl ds es i <;> rfl)) (fun hb6 H6 e6 => ?_) fun hb6 H6 e6 => ?_
        · obtain ⟨j, hj⟩ : ∃ j, findD pl ds es i = some j := by
            cases h : findD pl ds es i with
            | none => rw [h] at hb6; cases hb6
            | some j => exact ⟨j, rfl⟩
          obtain ⟨jl, _⟩ := slotIx_lt hj
          have hb6 : (findD pl ds es i).isSome = true := hb6
          rw [hj] at hfind
          obtain ⟨nj, ndj⟩ := nd_at nds jl
          obtain ⟨ni, ndi⟩ := nd_at nes iles
          cases m with
          | zero => exact ndj.elim
          | succ m =>
          obtain ⟨bl1, bn1⟩ := nd_below ndj
          obtain ⟨bl2, bn2⟩ := nd_below ndi
          obtain ⟨hxj, rj⟩ := gd prx jl
          have e06 := ex.trans (e5.trans e6)
          have e56 := e5.trans e6
          obtain ⟨_, _, _, _, ja, jdx, _, _, _, _, _, _, ejx, hja, _⟩ := id (NodeR.ex e06 rj)
          obtain ⟨_, _, _, _, ia, idx, _, _, _, _, _, _, eix, hia, _⟩ := id (NodeR.ex e06 ry)
          refine q_go ⟨_, rfl, _, rfl, D, xs.getD j .non, rfl, ⟨tab, slotD pl es i (es.getD i .non), .inl (e56 _ _ hDx), hks.tk (((Tk.of e4).trans tk).trans (Tk.of e56)), kv nes iles (tk.trans (Tk.of e56)) rx, hfind.symm⟩, ?_⟩
          -- the pair
          have hq6 := e56 _ _ hqx
          refine q_seq ⟨_, rfl, .inl ⟨rfl, _, Evl.sq_of hq6⟩, _, rfl, _, rfl, (by show 2 ≤ sizeLine; decide), fun tp htp => ?_⟩
          have e7 := Ex.new (o := .tup [xs.getD j .non, ys.getD i .non]) htp
          have hq7 := e7 _ _ hq6
          have b1 : (1 + bnd m) * 24 ≤ 30000 := by have : bnd (m + 1) = 24 * (1 + bnd m) := rfl; omega
          have lps' : ps.length ≤ 30000 := Nat.le_trans lps (Nat.le_trans (Nat.mul_le_mul_right _ (show i ≤ 24 by omega)) (by have : m + 1 - 1 = m := rfl; rw [this]; omega))
          refine ⟨q, ps, .ref tp, rfl, rfl, hq7, Evl.sz_lt (by omega), ?_⟩
          have tk8 := Tk.upd (u := .lst (ps ++ [.ref tp])) hq7 (fun _ z => nomatch z)
          have nl8 := (Nl.of (e56.trans e7)).trans (Nl.upd (o := .lst (ps ++ [.ref tp])) hq7)
          have e08 := Ex.mut (o := .lst (ps ++ [.ref tp])) (e06.trans e7) hq
          have hD8 : (upd (upd H6 tp (.tup [xs.getD j .non, ys.getD i .non])) q (.lst (ps ++ [.ref tp]))) D = some (DkO w D tab) := by rw [upd_ne qD]; exact (e56.trans e7) _ _ hDx
          have hs8 : (upd (upd H6 tp (.tup [xs.getD j .non, ys.getD i .non])) q (.lst (ps ++ [.ref tp]))) s2 = some (.lst zs2) := by rw [upd_ne q2]; exact (e56.trans e7) _ _ hsx
          have hq8 : (upd (upd H6 tp (.tup [xs.getD j .non, ys.getD i .non])) q (.lst (ps ++ [.ref tp]))) q = some (.lst (ps ++ [.ref tp])) := upd_same
          have ht8 := tk8 _ _ (upd_same (H := H6) (a := tp) (o := .tup [xs.getD j .non, ys.getD i .non]))
          have tk48 := (tk.trans (Tk.of (e56.trans e7))).trans tk8
          have pps8 := pair_imp pps fun a b h => h.nl nl8
          generalize (upd (upd H6 tp (.tup [xs.getD j .non, ys.getD i .non])) q (.lst (ps ++ [.ref tp]))) = H8 at e08 hD8 hs8 hq8 ht8 tk48 pps8 ⊢
          clear hja hia ejx eix ja ia
          obtain ⟨_, _, _, _, ja, jdx, _, _, _, _, _, _, ejx, hja, _⟩ := id (NodeR.ex e08 rj)
          obtain ⟨_, _, _, _, ia, idx, _, _, _, _, _, _, eix, hia, _⟩ := id (NodeR.ex e08 ry)
          refine ⟨_, rfl, .inl ⟨rfl, _, Evl.sq_of hq8⟩, _, rfl, _, rfl, ja, jdx, _, ejx, hja, rfl, xs.getD j .non, m, ds.getD j .non, rfl, NodeR.ex e08 rj, fun H9 q9 ys9 e9 hq90 hq9 p9 => ?_⟩
          refine ⟨_, rfl, ia, idx, _, eix, e9 _ _ hia, rfl, ys.getD i .non, m, es.getD i .non, rfl, NodeR.ex (e08.trans e9) ry, fun H10 q10 ys10 e10 hq100 hq10 p10 => ?_⟩
          refine ⟨r, q9, q10, pl, belowD (ds.getD j .non), belowD (es.getD i .non), ys9, ys10, rfl, ⟨dx, (e08.trans (e9.trans e10)) _ _ hr1⟩, e10 _ _ hq9, hq10, pair_imp p9 fun a b h => NodeR.ex e10 h, p10, bn1, bn2, bl1, bl2, by omega, fun H11 q11 zs11 e11 hq110 hq11 p11 => ?_⟩
          have e811 := e9.trans (e10.trans e11)
          have hq11' := e811 _ _ hq8
          have lz11 : zs11.length ≤ bnd m := by rw [← pair_len p11]; exact pairs_len bl2 bn2
          have lps0 : ps.length ≤ i * (1 + bnd m) := lps
          refine ⟨q, q11, ps ++ [.ref tp], zs11, rfl, rfl, hq11', hq11, Evl.sz_of (by rw [List.length_append]; show ps.length + 1 + zs11.length ≤ 100000; omega), ?_⟩
          have nlF := Nl.upd (o := .lst ((ps ++ [.ref tp]) ++ zs11)) hq11'
          have eF := Ex.mut (o := .lst ((ps ++ [.ref tp]) ++ zs11)) (e08.trans e811) hq
          refine ⟨_, _, _, _, _, rfl, eF, upd_same, ?_, ?_, by rw [upd_ne qD]; exact e811 _ _ hD8, by rw [upd_ne q2]; exact e811 _ _ hs8, (tk48.trans (Tk.of e811)).trans (Tk.upd hq11' fun _ z => nomatch z)⟩
          · rw [List.range_succ, List.flatMap_append, List.flatMap_cons, List.flatMap_nil, List.append_nil, hj, List.append_assoc]
            rw [List.append_assoc] at nlF eF
            refine pair_app (pair_imp pps8 fun a b h => h.nl ((Nl.of e811).trans nlF)) (.cons ⟨tp, _, _, m + 1, rfl, nlF _ _ (e811 _ _ ht8) (fun _ z => nomatch z), NodeR.ex eF rj, NodeR.ex eF ry⟩ (pair_imp p11 fun a b h => h.nl nlF))
          · rw [List.length_append, List.length_append]
            show ps.length + 1 + zs11.length ≤ (i + 1) * (1 + bnd m)
            rw [Nat.succ_mul]; omega
        · have hn6 : findD pl ds es i = none := by
            cases h : findD pl ds es i with
            | none => rfl
            | some j => rw [h] at hb6; cases hb6
          have e56 := e5.trans e6
          refine ⟨ps, _, _, _, _, rfl, ex.trans e56, e56 _ _ hqx, ?_, Nat.le_trans lps (Nat.mul_le_mul_right _ (Nat.le_succ i)), e56 _ _ hDx, e56 _ _ hsx, tk.trans (Tk.of e56)⟩
          rw [List.range_succ, List.flatMap_append, List.flatMap_cons, List.flatMap_nil, hn6]
          show Paired _ (_ ++ []) ps
          rw [List.append_nil]
          exact pair_imp pps fun a b h => h.nl (Nl.of e56)
      · obtain ⟨ps, o5, o6, o7, o8, rfl, ex, hqx, pps, lps, hDx, hsx, tk⟩ := pv
        have e : ((List.range zs2.length).flatMap fun k => pairAt (pairsD pl (m - 1)) ds es k (findD pl ds es k)) = pairsD pl m ds es := by
          rw [← lz2]
          cases m with
          | zero =>
            cases es with
            | nil => rfl
            | cons d es => exact (nes d List.mem_cons_self).elim
          | succ m => rfl
        rw [e] at pps
        exact Evl.s_ret (Evl.ev_var rfl) fun H9 e9 => k H9 q ps (ex.trans e9) hq (e9 _ _ hqx) (pair_imp pps fun a b h => h.nl (Nl.of e9))
end
end Pk

namespace Pk
open PySem PySem.Spec PyProof.Rows L2 Ssb
open Evl (Ex Ev EvT EvL EvA EvU)
/-! ### the owners of pairs -/
theorem lc_own {K : PySem.W.Frag} {a : Addr} {ps : List V} {ts : List (D × D)} {tA tB : TE} {vs : List Nat} {σ : L2.St} {H1 : Hp} {i j : Nat} {Q : VK} (ha : H1 a = some (.lst ps)) (hw : ∀ x y, wipe (((wipe σ vs).set i (some x)).set j (some y)) vs = wipe σ vs)
    (pr : Paired (fun p z => ∃ t x y u v, z = .ref t ∧ H1 t = some (.tup [x, y]) ∧ Rep H1 4 Fs (ownD p.1) u ∧ Rep H1 4 Fs (ownD p.2) v ∧ Ev tA (((wipe σ vs).set i (some x)).set j (some y)) H1 u ∧ Ev tB (((wipe σ vs).set i (some x)).set j (some y)) H1 v) ts ps) (l : ps.length ≤ 40000)
    (k : ∀ H' L zs, Ex H1 H' → H1 L = none → H' L = some (.lst zs) → Paired (fun (p : D × D) z => Rep H' 5 Fs (.tup [ownD p.1, ownD p.2]) z) ts zs → Q (.ref L) H') :
    ∀ Dl, H1 Dl = none → ∃ W : Nat → Nat → Hp → Prop, (∃ m, W 0 m (upd H1 Dl (.lst []))) ∧ ∀ c m H, W c m H → ((Itl K a).stop c H ∧ Q (.ref Dl) H) ∨ ((Itl K a).go c H ∧ ∃ Nx : Hp → Prop, (∀ H', Nx H' → ∃ m', m' < m ∧ W (c + 1) m' H') ∧ ∀ x H', (Itl K a).yld c H x H' → gTup K 2 (gCons (gName i) (gCons (gName j) gNil)) x (wipe σ vs) H' fun σ2 H2 => wipe σ2 vs = wipe σ vs ∧ tYes σ2 H2 fun b H3 =>
        if b = true then tTup (tCons tA (tCons tB tNil)) σ2 H3 fun y H4 => ∃ acc, H4 Dl = some (.lst acc) ∧ acc.length < sizeLine ∧ Nx (upd H4 Dl (.lst (acc ++ [y]))) else Nx H3) := fun Dl hD => by
  refine lc_list (xs := ps) (fun c H' => Ex H1 H' ∧ ∃ zs, H' Dl = some (.lst zs) ∧ Paired (fun (p : D × D) z => Rep H' 5 Fs (.tup [ownD p.1, ownD p.2]) z) (ts.take c) zs) ⟨Ex.new hD, [], upd_same, .nil⟩ (fun c H' _ p => Evl.sq_of (p.1 _ _ ha)) (fun c x H' hx pv => ?_) fun H' pv => ?_
  · obtain ⟨ex, zs, hzs, pz⟩ := pv
    obtain ⟨p, hp, t, x1, y1, u, v, rfl, ht, ru, rv, eu, ev⟩ := pair_back pr hx
    refine ⟨t, [x1, y1], rfl, Evl.st_of (ex _ _ ht), rfl, _, _, rfl, _, _, rfl, rfl, hw _ _, yes_go ?_⟩
    refine eu H' ex _ fun H3 e3 => ev H3 (ex.trans e3) _ fun H4 e4 => ⟨(by show 2 ≤ sizeLine; decide), fun tp htp => ?_⟩
    have e5 := Ex.new (o := .tup [u, v]) htp
    have e35 := e3.trans (e4.trans e5)
    have hz5 := e35 _ _ hzs
    have lz : zs.length ≤ 40000 := by
      have := pair_len pz
      rw [List.length_take] at this
      have := pair_len pr
      omega
    refine ⟨zs, hz5, Evl.sz_lt (by omega), Ex.mut (ex.trans e35) hD, zs ++ [.ref tp], upd_same, ?_⟩
    rw [take_snoc hp]
    have up : ∀ {n : Nat} {d : D} {z : V}, Rep (upd H4 tp (.tup [u, v])) n Fs d z → Rep (upd (upd H4 tp (.tup [u, v])) Dl (.lst (zs ++ [.ref tp]))) n Fs d z := fun r => rep_upd hz5 (fun _ z => nomatch z) (fun b z => z.elim) r
    refine pair_snoc (pair_imp pz fun d z r => up (rep_ex e35 r)) (up ⟨tp, [u, v], rfl, upd_same, by show 2 ≤ 100000; decide, .cons (rep_ex (ex.trans e35) ru) (.cons (rep_ex (ex.trans e35) rv) .nil)⟩)
  · obtain ⟨ex, zs, hzs, pz⟩ := pv
    rw [List.take_of_length_le (by have := pair_len pr; omega)] at pz
    exact k H' Dl zs ex hD hzs pz
/-- the pairs are nodes of the trees -/
theorem pairs_nd {pl : Str} : ∀ {m : Nat} {ds es : List D}, (∀ d ∈ ds, NdD m d) → (∀ d ∈ es, NdD m d) → ∀ p ∈ pairsD pl m ds es, ∃ n, NdD n p.1 ∧ NdD n p.2
  | 0, _, _, _, _, p, hp => by cases hp
  | m + 1, ds, es, hd, he, p, hp => by
    obtain ⟨k, hk, hp⟩ := List.mem_flatMap.mp hp
    have hk := List.mem_range.mp hk
    cases hf : findD pl ds es k with
    | none => rw [hf] at hp; cases hp
    | some j =>
      rw [hf] at hp
      obtain ⟨jl, _⟩ := slotIx_lt hf
      obtain ⟨_, n1⟩ := nd_at hd jl
      obtain ⟨_, n2⟩ := nd_at he hk
      rcases List.mem_cons.mp hp with rfl | hp
      · exact ⟨m + 1, n1, n2⟩
      · exact pairs_nd (nd_below n1).2 (nd_below n2).2 p hp
theorem own_kd {n : Nat} {d : D} (h : NdD n d) : kdD 3 (ownD d) := by
  cases n with
  | zero => exact h.elim
  | succ n =>
    obtain ⟨kd, ky, ow, bl, rfl, _, _, ⟨_, _, h⟩, _⟩ := h
    exact h
section
variable {P : Program} {w : World} {K : PySem.W.Frag} {mg : Str → Option Value} {base : Heap} {C_Node C_Rule C_InvalidRule : Addr}
def spMatch (CN CR : Addr) (K : PySem.W.Frag) (m : Nat) : Sp := fun vs H Q _ => ∃ (r o n : Addr) (pl : Str) (ds es : List D) (xs ys : List V), vs = [.ref r, .ref o, .ref n] ∧ RuleAt CR H r pl ∧ H o = some (.lst xs) ∧ H n = some (.lst ys) ∧ Paired (fun d x => NodeR CN K H m d x) ds xs ∧ Paired (fun d x => NodeR CN K H m d x) es ys ∧ (∀ d ∈ ds, NdD m d) ∧ (∀ d ∈ es, NdD m d) ∧ ds.length ≤ 24 ∧ es.length ≤ 24 ∧ bnd m ≤ 30000 ∧
    ∀ H' q zs, Ex H H' → H q = none → H' q = some (.lst zs) → Paired (fun (p : D × D) z => Rep H' 5 Fs (.tup [ownD p.1, ownD p.2]) z) (pairsD pl m ds es) zs → Q (.ref q) H'
theorem ok_match (T : Txt K mg C_Node C_Rule C_InvalidRule) (R : Prg K mg C_Node C_Rule C_InvalidRule) (m : Nat) : ∃ f fd, Fn P w K mg base "match" (m + 5) ["rule", "old", "new"] (spMatch C_Node C_Rule K m) f fd := by
  obtain ⟨_, _, G_matched⟩ := ok_matched (P := P) (w := w) (base := base) T R (m + 1)
  obtain ⟨f, fd, at_, F, kp⟩ := R.«match»
  refine ⟨f, fd, F.ok sc_match (fun vs H Q E h => ?_) (fun cdv A outer s H vs Q E hr h => ?_), at_, kp, F.binds (fun _ _ _ _ _ _ us hl => match us, hl with | [_, _, _], _ => rfl)⟩
  · obtain ⟨r, o, n, pl, ds, es, xs, ys, rfl, _⟩ := h; rfl
  · obtain ⟨r, o, n, pl, ds, es, xs, ys, rfl, hr1, ho, hn, prx, pry, nds, nes, l1, l2, hb, k⟩ := h
    refine ⟨_, (pss_one (ps_ret (pe_lc (own := [("before", 3), ("after", 4)]) rfl sc_match.nd (show PI _ _ _ (iList K _) from pi_list (pcl G_matched hr (pa_cons (pv 0) (pa_cons (pv 1) (pa_cons (pv 2) pa_nil))))) (blkOk_by (own := [("before", 3), ("after", 4)]) (N := ["rule", "old", "new", "before", "after"]) (sc := defScope s_match) (by decide +kernel)) (fun _ _ _ _ _ => (show PG _ _ (gTup K 2 _) from pg_tup (n := 2) rfl (pgs_cons (pg_name (i := 3) sc_match.nd rfl (Or.inl rfl)) (pgs_cons (pg_name (i := 4) sc_match.nd rfl (Or.inl rfl)) pgs_nil)))) (fun _ _ _ _ _ => pts_nil) (fun _ _ _ _ _ => (pe_tup (pa_cons (show PE _ _ (tFld K _ _) from pe_fld (pv 3) rfl) (pa_cons (show PE _ _ (tFld K _ _) from pe_fld (pv 4) rfl) pa_nil))))))), ?_⟩
    refine ⟨_, rfl, _, rfl, _, rfl, r, o, n, pl, ds, es, xs, ys, rfl, hr1, ho, hn, prx, pry, nds, nes, l1, l2, hb, fun H1 q ps e1 hq0 hq pps => ⟨q, rfl, ⟨ps, Evl.sq_of hq⟩, ?_⟩⟩
    refine lc_own (i := 3) (j := 4) (ts := pairsD pl m ds es) hq (fun _ _ => rfl) (pair_impM pps fun p z hp _ h => ?_) ?_ fun H' L zs e2 hL hzs pz => k H' L zs (e1.trans e2) (Evl.fresh_back e1 hL) hzs pz
    · obtain ⟨t, x, y, n1, rfl, ht, r1, r2⟩ := h
      obtain ⟨n2, d1, d2⟩ := pairs_nd nds nes p hp
      cases n1 with
      | zero => exact r1.elim
      | succ n1 =>
      have k1 := own_kd d1
      have k2 := own_kd d2
      obtain ⟨p1, p2⟩ := p
      obtain ⟨_, _, ow1, _, a1, dx1, _, _, vo1, _, _, rfl, rfl, h1, _, _, ⟨_, ro1⟩, _⟩ := r1
      obtain ⟨_, _, ow2, _, a2, dx2, _, _, vo2, _, _, rfl, rfl, h2, _, _, ⟨_, ro2⟩, _⟩ := r2
      exact ⟨t, .ref a1, .ref a2, vo1, vo2, rfl, ht, rep_lv 3 (by decide) k1 ro1, rep_lv 3 (by decide) k2 ro2, ev_fld (Evl.ev_var rfl) h1 T.cl_Node T.no_Node_owner rfl, ev_fld (Evl.ev_var rfl) h2 T.cl_Node T.no_Node_owner rfl⟩
    · rw [← pair_len pps]
      have := pairs_len (pl := pl) (ds := ds) l2 nes
      omega
end
end Pk

namespace Pk
open PySem PySem.Spec PyProof.Rows L2 Ssb
open Evl (Ex Ev EvT EvL EvA EvU)
/-! ### nodes edited -/
def FrAt (H : Hp) (S c fr : Addr) : Prop := StAt H S c ∧ fr ≠ S ∧ fr ≠ c ∧ ∃ k : Int, H fr = some (.lst [.int k])
/-- the stream and the number moved, all else stands -/
structure Mf (S c fr : Addr) (H H' : Hp) : Prop where
  a : FrAt H S c fr
  z : FrAt H' S c fr
  fr : ∀ b o, b ≠ S → b ≠ c → b ≠ fr → H b = some o → H' b = some o
section
variable {S c f : Addr} {H H' H2 : Hp}
theorem FrAt.ex (e : Ex H H') (h : FrAt H S c f) : FrAt H' S c f := let ⟨a, n1, n2, k, hk⟩ := h; ⟨a.ex e, n1, n2, k, e _ _ hk⟩
theorem Mf.mv (h : FrAt H S c f) (m : Mv S c H H') : Mf S c f H H' := ⟨h, let ⟨_, n1, n2, k, hk⟩ := h; ⟨m.z, n1, n2, k, m.fr _ _ n1 n2 hk⟩, fun b o b1 b2 _ hb => m.fr b o b1 b2 hb⟩
theorem Mf.ex (h : FrAt H S c f) (e : Ex H H') : Mf S c f H H' := ⟨h, h.ex e, fun b o _ _ _ hb => e b o hb⟩
theorem Mf.trans (m : Mf S c f H H') (m2 : Mf S c f H' H2) : Mf S c f H H2 := ⟨m.a, m2.z, fun b o b1 b2 b3 hb => m2.fr b o b1 b2 b3 (m.fr b o b1 b2 b3 hb)⟩
theorem Mf.tx (m : Mf S c f H H') (e : Ex H' H2) : Mf S c f H H2 := m.trans (.ex m.z e)
theorem Mf.tm (m : Mf S c f H H') (e : Mv S c H' H2) : Mf S c f H H2 := m.trans (.mv m.z e)
theorem FrAt.some3 (a : FrAt H S c f) {b : Addr} (h : H b = none) : b ≠ S ∧ b ≠ c ∧ b ≠ f := by
  obtain ⟨a, _, _, k, hk⟩ := a
  obtain ⟨n1, n2⟩ := a.someS h
  exact ⟨n1, n2, fun e => (by rw [e, hk] at h; cases h)⟩
theorem Mf.back (m : Mf S c f H H') {b : Addr} (h : H' b = none) : H b = none := by
  obtain ⟨n1, n2, n3⟩ := m.z.some3 h
  cases e : H b with
  | none => rfl
  | some o => rw [m.fr b o n1 n2 n3 e] at h; cases h
theorem Mf.mut {p : Addr} {o : HO} (m : Mf S c f H H') (h : H p = none) : Mf S c f H (upd H' p o) := by
  obtain ⟨n1, n2, n3⟩ := m.a.some3 h
  obtain ⟨⟨n, k, cs, h1, h2, h3⟩, n4, n5, g2, h4⟩ := m.z
  refine ⟨m.a, ⟨⟨n, k, cs, by rw [upd_ne (Ne.symm n1)]; exact h1, by rw [upd_ne (Ne.symm n2)]; exact h2, h3⟩, n4, n5, g2, by rw [upd_ne (Ne.symm n3)]; exact h4⟩, fun b o' b1 b2 b3 hb => ?_⟩
  have : b ≠ p := fun e => by rw [e, h] at hb; cases hb
  rw [upd_ne this]
  exact m.fr b o' b1 b2 b3 hb
theorem Mf.num {k : Int} (h : FrAt H S c f) : Mf S c f H (upd H f (.lst [.int k])) := by
  obtain ⟨⟨n, k0, cs, h1, h2, h3⟩, n4, n5, g2, h4⟩ := id h
  exact ⟨h, ⟨⟨n, k0, cs, by rw [upd_ne n4.symm]; exact h1, by rw [upd_ne n5.symm]; exact h2, h3⟩, n4, n5, k, upd_same⟩, fun b o b1 b2 b3 hb => by rw [upd_ne b3]; exact hb⟩
theorem Mf.tup (m : Mf S c f H H') {t : Addr} {xs : List V} (h : H t = some (.tup xs)) : H' t = some (.tup xs) := by
  obtain ⟨⟨_, k, cs, h1, h2, _⟩, _, _, g2, h3⟩ := m.a
  exact m.fr _ _ (fun e => by rw [e, h1] at h; cases h) (fun e => by rw [e, h2] at h; cases h) (fun e => by rw [e, h3] at h; cases h) h
theorem rep_mf (m : Mf S c f H H') {n : Nat} {P : Addr → Prop} {d : D} {v : V} (hP : ∀ b, P b → b ≠ S ∧ b ≠ c ∧ b ≠ f) (h : Rep H n P d v) : Rep H' n P d v := by
  obtain ⟨⟨_, k, cs, h1, h2, _⟩, _, _, g2, h3⟩ := m.a
  refine rep_to (fun b o hb hp => m.fr b o (fun e => ?_) (fun e => ?_) (fun e => ?_) hb) h
  all_goals
    rw [e] at hp hb
    rcases hp with hp | ⟨xs, rfl⟩
  · exact (hP _ hp).1 rfl
  · rw [h1] at hb; cases hb
  · exact (hP _ hp).2.1 rfl
  · rw [h2] at hb; cases hb
  · exact (hP _ hp).2.2 rfl
  · rw [h3] at hb; cases hb
end
theorem pair_drop {α β : Type} {F : α → β → Prop} : ∀ {l : List α} {m : List β} (n : Nat), Paired F l m → Paired F (l.drop n) (m.drop n)
  | _, _, 0, h => h
  | _, _, _ + 1, .nil => .nil
  | _, _, n + 1, .cons h t => pair_drop n t
theorem pair_take {α β : Type} {F : α → β → Prop} : ∀ {l : List α} {m : List β} (n : Nat), Paired F l m → Paired F (l.take n) (m.take n)
  | _, _, 0, _ => .nil
  | _, _, _ + 1, .nil => .nil
  | _, _, n + 1, .cons h t => .cons h (pair_take n t)
/-! ### where the owners of an edited tree come from -/
def fr (j : Int) : D := .tup [.tup [.int 99, .int j], .tup []]
theorem fr_inj {i j : Int} (h : fr i = fr j) : i = j := by
  unfold fr at h
  injection h with h
  injection h with h _
  injection h with h
  injection h with _ h
  injection h with h _
  injection h
def Trk (g0 g1 : Int) (old es : List D) : Prop := ∃ (olds : List D) (js : List Int), es.Perm (olds ++ js.map fr) ∧ olds.Sublist old ∧ js.Nodup ∧ g0 ≤ g1 ∧ ∀ j ∈ js, g0 < j ∧ j ≤ g1
theorem Trk.nil {g : Int} : Trk g g [] [] := ⟨[], [], .refl _, .refl _, List.nodup_nil, Int.le_refl _, fun j h => nomatch h⟩
theorem Trk.skip {g0 g1 : Int} {old es more : List D} (h : Trk g0 g1 old es) : Trk g0 g1 (old ++ more) es := by
  obtain ⟨olds, js, p, sb, r⟩ := h
  exact ⟨olds, js, p, sb.trans (List.sublist_append_left _ _), r⟩
theorem Trk.node {g0 g1 g2 : Int} {old es oldb esb es' : List D} {ow : D} (h : Trk g0 g1 old es) (hb : Trk g1 g2 oldb esb) (hp : es'.Perm (es ++ (ow :: esb))) : Trk g0 g2 (old ++ (ow :: oldb)) es' := by
  obtain ⟨olds, js, p, sb, nd, le, hj⟩ := h
  obtain ⟨oldsb, jsb, pb, sbb, ndb, leb, hjb⟩ := hb
  refine ⟨olds ++ (ow :: oldsb), js ++ jsb, ?_, sb.append (sbb.cons_cons ow), ?_, by omega, fun j hm => ?_⟩
  · refine hp.trans ((p.append (pb.cons ow)).trans ?_)
    rw [List.map_append]
    have a1 : (olds ++ js.map fr ++ (ow :: (oldsb ++ jsb.map fr))).Perm (olds ++ (js.map fr ++ (ow :: oldsb)) ++ jsb.map fr) := by
      simp only [List.append_assoc, List.cons_append]; exact .refl _
    have a2 : (olds ++ (js.map fr ++ (ow :: oldsb)) ++ jsb.map fr).Perm (olds ++ ((ow :: oldsb) ++ js.map fr) ++ jsb.map fr) := (List.perm_append_comm.append_left olds).append_right _
    refine a1.trans (a2.trans ?_)
    simp only [List.append_assoc, List.cons_append]; exact .refl _
  · rw [List.nodup_append]
    refine ⟨nd, ndb, fun a ha b hb e => ?_⟩
    have := hj a ha
    have := hjb b hb
    omega
  · rcases List.mem_append.mp hm with hm | hm
    · have := hj j hm; omega
    · have := hjb j hm; omega
theorem Trk.fresh {g0 g1 : Int} {old es : List D} (h : Trk g0 g1 old es) : Trk g0 (g1 + 1) old (es ++ [fr (g1 + 1)]) := by
  obtain ⟨olds, js, p, sb, nd, le, hj⟩ := h
  refine ⟨olds, js ++ [g1 + 1], ?_, sb, ?_, by omega, fun j hm => ?_⟩
  · rw [List.map_append, ← List.append_assoc]
    exact p.append_right _
  · rw [List.nodup_append]
    refine ⟨nd, (List.pairwise_singleton _ _), fun a ha b hb e => ?_⟩
    have := hj a ha
    rw [List.mem_singleton.mp hb] at e
    omega
  · rcases List.mem_append.mp hm with hm | hm
    · have := hj j hm; omega
    · rw [List.mem_singleton.mp hm]; omega
/-- owners apart, none of them a later fresh one -/
def Own (g : Int) (os : List D) : Prop := os.Nodup ∧ ∀ o ∈ os, ∀ j, g < j → o ≠ fr j
theorem Trk.own {g0 g1 : Int} {old es : List D} (h : Trk g0 g1 old es) (o : Own g0 old) : Own g1 es := by
  obtain ⟨olds, js, p, sb, nd, le, hj⟩ := h
  obtain ⟨nd0, no⟩ := o
  constructor
  · refine p.symm.nodup ?_
    rw [List.nodup_append]
    refine ⟨nd0.sublist sb, List.Pairwise.map _ (fun a b h e => h (fr_inj e)) nd, fun a ha b hb e => ?_⟩
    obtain ⟨j, hm, rfl⟩ := List.mem_map.mp hb
    exact no a (sb.subset ha) j (hj j hm).1 e
  · intro x hx j lj e
    rcases List.mem_append.mp (p.subset hx) with hm | hm
    · exact no x (sb.subset hm) j (by omega) e
    · obtain ⟨i, hi, rfl⟩ := List.mem_map.mp hm
      have := hj i hi
      have := fr_inj e
      omega
theorem owns_ins {m a : Nat} {es es9 : List D} {d : D} (h : ownsD m (belowD d) = es9) : (ownsD (m + 1) (es.take a ++ [d] ++ es.drop a)).Perm (ownsD (m + 1) es ++ (ownD d :: es9)) := by
  rw [owns_app, owns_app, owns_one, h]
  have e : ownsD (m + 1) es = ownsD (m + 1) (es.take a) ++ ownsD (m + 1) (es.drop a) := by rw [← owns_app, List.take_append_drop]
  rw [e, List.append_assoc, List.append_assoc]
  exact (List.perm_append_comm).append_left _
section
variable {P : Program} {w : World} {K : PySem.W.Frag} {mg : Str → Option Value} {base : Heap} {C_Node C_Rule C_InvalidRule : Addr}
def spEdit : Nat → Sp
  | 0 => fun _ _ _ _ => False
  | m + 1 => fun vs H Q _ => ∃ (S c f a : Addr) (n : Nat) (P : Addr → Prop) (ds : List D) (bb : Nat) (g0 : Int), vs = [.ref S, .ref a, .ref f] ∧ FrAt H S c f ∧ H f = some (.lst [.int g0]) ∧ Rep H n P (.lst ds) (.ref a) ∧ (∀ b, P b → b ≠ S ∧ b ≠ c ∧ b ≠ f) ∧ (∀ x ∈ ds, NdB bb m x) ∧ ds.length ≤ bb ∧ bb ≤ 12 ∧
    ∀ H' q es g1, Mf S c f H H' → Rep H' (2 * m + 5) (fun b => H b = none) (.lst es) (.ref q) → es.length ≤ 2 * bb → (∀ x ∈ es, NdB (2 * bb) m x) → H' f = some (.lst [.int g1]) → Trk g0 g1 (ownsD m ds) (ownsD m es) → Q (.ref q) H'
theorem ok__law_edited (T : Txt K mg C_Node C_Rule C_InvalidRule) (R : Prg K mg C_Node C_Rule C_InvalidRule) : ∀ m, ∃ f fd, Fn P w K mg base "_law_edited" (m + 3) ["_law_stream_here", "_law_nodes", "_law_fresh"] (spEdit m) f fd
  | 0 => by
    obtain ⟨f, fd, at_, F, kp⟩ := R._law_edited
    exact ⟨f, fd, F.ok sc__law_edited (fun vs H Q E h => h.elim) (fun cdv A outer s H vs Q E hr h => h.elim), at_, kp, F.binds (fun _ _ _ _ _ _ us hl => match us, hl with | [_, _, _], _ => rfl)⟩
  | m + 1 => by
    obtain ⟨_, _, G__law_edited⟩ := ok__law_edited T R m
    obtain ⟨_, _, G__law_draw⟩ := ok__law_draw (P := P) (w := w) (base := base) T R
    obtain ⟨_, _, G__law_tree_key⟩ := ok__law_tree_key (P := P) (w := w) (base := base) T R
    obtain ⟨f, fd, at_, F, kp⟩ := R._law_edited
    refine ⟨f, fd, F.ok sc__law_edited (fun vs H Q E h => ?_) (fun cdv A outer s H vs Q E hr h => ?_), at_, kp, F.binds (fun _ _ _ _ _ _ us hl => match us, hl with | [_, _, _], _ => rfl)⟩
    · obtain ⟨S, c, f, a, n, P, ds, bb, g0, rfl, _⟩ := h; rfl
    · obtain ⟨S, c, f, a, n, P, ds, bb, g0, rfl, fa, hf0, hv, hP, nds, l12, hb12, k⟩ := h
      have nfS : f ≠ S := fa.2.1
      have nfc : f ≠ c := fa.2.2.1
      refine ⟨_, (pss_cons (ps_set (i := 3) sc__law_edited.nd rfl (Or.inl rfl) (pe_lst pa_nil))
  (pss_cons (ps_for PassesOwn.never rfl (show PI _ _ _ (iList K _) from pi_list (pv 1)) (show PG _ _ (gTup K 4 _) from pg_tup (n := 4) rfl (pgs_cons (pg_name (i := 4) sc__law_edited.nd rfl (Or.inl rfl)) (pgs_cons (pg_name (i := 5) sc__law_edited.nd rfl (Or.inl rfl)) (pgs_cons (pg_name (i := 6) sc__law_edited.nd rfl (Or.inl rfl)) (pgs_cons (pg_name (i := 7) sc__law_edited.nd rfl (Or.inl rfl)) pgs_nil)))))
    (pss_cons (ps_set (i := 8) sc__law_edited.nd rfl (Or.inl rfl) (pcl G__law_draw hr (pa_cons (pv 0) (pa_cons pe_int pa_nil))))
  (Evl.pss_cut (ps_if (pt_cmpR op_eq (pv 8) pe_int (nomark _)) (pss_one (ps_set (i := 5) sc__law_edited.nd rfl (Or.inl rfl) (pcl G__law_tree_key hr (pa_cons (pv 0) pa_nil)))) pss_nil)
  (Evl.pss_cut (ps_if (pt_cmpR op_eq (pv 8) pe_int (nomark _)) (pss_one (ps_set (i := 4) sc__law_edited.nd rfl (Or.inl rfl) (pe_ix (r := rIxT K) ix_tup (pe_tup (pa_cons pe_non (pa_cons pe_str (pa_cons pe_str pa_nil)))) (pcl G__law_draw hr (pa_cons (pv 0) (pa_cons pe_int pa_nil))) (fun _ _ => rfl)))) pss_nil)
  (pss_cons (ps_set (i := 9) sc__law_edited.nd rfl (Or.inl rfl) (pe_callB (r := rLenA K) call_len (by rfl) T.len (by decide +kernel) (pa_cons (pv 3) pa_nil)))
  (Evl.pss_cut (ps_if (pt_cmpR op_eq (pv 8) pe_int (nomark _)) (pss_one (ps_set (i := 9) sc__law_edited.nd rfl (Or.inl rfl) (pcl G__law_draw hr (pa_cons (pv 0) (pa_cons (pe_op op_add (pe_callB (r := rLenA K) call_len (by rfl) T.len (by decide +kernel) (pa_cons (pv 3) pa_nil)) pe_int) pa_nil))))) pss_nil)
  (Evl.pss_cut (ps_if (pt_cmpR op_gt (pv 8) pe_int (nomark _)) (pss_one (ps_expr (show PE _ _ (tBM K _ _ _ _) from pe_bm PySem.F.plainAttrs_list PySem.F.slot_list_insert PySem.F.type_list_insert mt_insert (pv 3) (pa_cons (pv 9) (pa_cons (pe_tup (pa_cons (pv 4) (pa_cons (pv 5) (pa_cons (pv 6) (pa_cons (pcl G__law_edited hr (pa_cons (pv 0) (pa_cons (pv 7) (pa_cons (pv 2) pa_nil)))) pa_nil))))) pa_nil))))) pss_nil)
  (pss_one (ps_if (pt_cmpR op_eq (pv 8) pe_int (nomark _)) (pss_cons (ps_asg (pe_op op_add (pe_ix (r := rIxL K) ix_list (pv 2) pe_int (fun _ _ => rfl)) pe_int) (pg_sub (pv 2) pe_int set_list))
  (pss_one (ps_expr (show PE _ _ (tBM K _ _ _ _) from pe_bm PySem.F.plainAttrs_list PySem.F.slot_list_append PySem.F.type_list_append mt_append (pv 3) (pa_cons (pe_tup (pa_cons (pv 4) (pa_cons (pv 5) (pa_cons (pe_tup (pa_cons (pe_tup (pa_cons pe_int (pa_cons (pe_ix (r := rIxL K) ix_list (pv 2) pe_int (fun _ _ => rfl)) pa_nil))) (pa_cons (pe_tup pa_nil) pa_nil))) (pa_cons (pe_lst pa_nil) pa_nil))))) pa_nil))))) pss_nil)))))))))
  (pss_one (ps_ret (pv 3))))), ?_⟩
      cases n with
      | zero => exact hv.elim
      | succ n =>
      obtain ⟨_, xs, ea, hPa, ha, l5, prx⟩ := id hv
      cases ea
      have lx := pair_len prx
      obtain ⟨aS, ac, af⟩ := hP _ hPa
      refine Evl.q_asgL (xs := []) (Evl.el_lst Evl.ea_nil (Nat.zero_le _)) fun q H1 hq e1 hq1 => ?_
      have qS := fa.some3 hq
      have m01 := Mf.ex fa e1
      have rg : ∀ b, (H b = none ∧ b ≠ q) → b ≠ S ∧ b ≠ c ∧ b ≠ f := fun b hb => fa.some3 hb.1
      refine ⟨_, rfl, a, rfl, ⟨_, Evl.sq_of (m01.fr _ _ aS ac af ha)⟩, for_list (K := K) (a := a) (xs := xs) (fun i σ' H' => ∃ (ys : List V) (es : List D) (o4 o5 o6 o7 o8 o9 : Option V), σ' = [some (.ref S), some (.ref a), some (.ref f), some (.ref q), o4, o5, o6, o7, o8, o9] ∧ Mf S c f H H' ∧ H' q = some (.lst ys) ∧ Paired (fun d y => Rep H' (2 * m + 4) (fun b => H b = none ∧ b ≠ q) d y) es ys ∧ es.length ≤ 2 * i ∧ (∀ x ∈ es, NdB (2 * bb) m x) ∧ ∃ g1, H' f = some (.lst [.int g1]) ∧ Trk g0 g1 (ownsD m (ds.take i)) (ownsD m es))
        ⟨[], [], _, _, _, _, _, _, rfl, m01, hq1, .nil, Nat.zero_le _, (fun x h => nomatch h), g0, e1 _ _ hf0, by rw [List.take_zero, owns_nil]; exact Trk.nil⟩ (fun i σ' H' _ p => ?_) (fun i x σ' H' hx pv => ?_) fun σ' H' pv => ?_⟩
      · obtain ⟨ys, es, o4, o5, o6, o7, o8, o9, rfl, mH, _⟩ := p
        exact Evl.sq_of (mH.fr _ _ aS ac af ha)
      · obtain ⟨ys, es, o4, o5, o6, o7, o8, o9, rfl, mH, hqH, pys, les, nes, g1, hf1, trk⟩ := pv
        obtain ⟨d, hd, rd⟩ := pair_back prx hx
        have hn := nds d (List.mem_of_getElem? hd)
        have il : i < 12 := by have := (List.getElem?_eq_some_iff.mp hx).1; omega
        cases m with
        | zero => exact hn.elim
        | succ m =>
        obtain ⟨kd, ky, ow, bl, rfl, hkd, hky, ⟨lo, how, hok⟩, lbl, nbl⟩ := hn
        cases n with
        | zero => exact rd.elim
        | succ n =>
        obtain ⟨t4, ws, rfl, ht4, _, pw⟩ := rd
        cases pw with
        | cons w1 pw =>
        cases pw with
        | cons w2 pw =>
        cases pw with
        | cons w3 pw =>
        cases pw with
        | cons w4 pw =>
        cases pw
        rename_i kv kyv ov bv
        cases n with
        | zero => exact w4.elim
        | succ n =>
        obtain ⟨ba, bs, rfl, _⟩ := id w4
        have ht4' := mH.tup ht4
        refine ⟨t4, _, rfl, Evl.st_of ht4', rfl, _, _, rfl, _, _, rfl, _, _, rfl, _, _, rfl, rfl, ?_⟩
        have kdF : ∀ n2 H2, Rep H2 (n2 + 1) Fs kd kv := fun n2 H2 => by
          rcases hkd with rfl | ⟨s, rfl⟩
          · have := non_of w1; subst this; rfl
          · have : kv = .str s := w1
            subst this; rfl
        have kyF : Rep H 4 Fs ky kyv := rep_lv 3 (by decide) hky.1 (rep_key hky.1 w2)
        have owF : Rep H 4 Fs ow ov := rep_lv 3 (by decide) hok (rep_key hok w3)
        have noP : ∀ b, Fs b → b ≠ S ∧ b ≠ c ∧ b ≠ f := fun b h => h.elim
        refine q_go (dr_go (m := 9) (Evl.ea_cons (Evl.ev_var rfl) (Evl.ea_cons Evl.ev_c Evl.ea_nil)) mH.z.1 (by decide) (by decide) fun H3 way m3 w0 w9 => ?_)
        have t3 := mH.tm m3
        have hf3 := m3.fr _ _ nfS nfc hf1
        have hq3 := m3.fr _ _ qS.1 qS.2.1 hqH
        have pys3 := pair_imp pys fun a b h => rep_mv m3 (fun z => (rg _ z).1 rfl) (fun z => (rg _ z).2.1 rfl) h
        clear hqH pys
        -- the key
        refine Evl.q_cut (M := fun σ' H4 => ∃ ky' kyv', σ' = [some (.ref S), some (.ref a), some (.ref f), some (.ref q), some kv, some kyv', some ov, some (.ref ba), some (.int way), o9] ∧ Mf S c f H3 H4 ∧ Rep H4 4 Fs ky' kyv' ∧ KyD ky' ∧ H4 f = some (.lst [.int g1])) ?_ ?_
        · refine Evl.s_when (Evl.et_test (Evl.ev_op (Evl.ev_var rfl) Evl.ev_c (Evl.rv_eq rfl))) (fun hb H4 e4 => ?_) fun hb H4 e4 => ?_
          · exact ⟨_, rfl, S, c, rfl, (t3.tx e4).z.1, fun H5 v d m5 r kd => ⟨d, v, rfl, (Mf.ex t3.z e4).tm m5, r, kd, m5.fr _ _ nfS nfc (e4 _ _ hf3)⟩⟩
          · exact ⟨ky, kyv, rfl, Mf.ex t3.z e4, rep_mf (t3.tx e4) noP kyF, hky, e4 _ _ hf3⟩
        rintro σ' H4 ⟨ky', kyv', rfl, t4', rk4, hky', hf4⟩
        have t14 := t3.trans t4'
        -- the kind
        refine Evl.q_cut (M := fun σ' H5 => ∃ kd' kv', σ' = [some (.ref S), some (.ref a), some (.ref f), some (.ref q), some kv', some kyv', some ov, some (.ref ba), some (.int way), o9] ∧ Mf S c f H4 H5 ∧ (∀ n2 H2, Rep H2 (n2 + 1) Fs kd' kv') ∧ (kd' = .non ∨ ∃ s, kd' = .str s) ∧ H5 f = some (.lst [.int g1])) ?_ ?_
        · refine Evl.s_when (Evl.et_test (Evl.ev_op (Evl.ev_var rfl) Evl.ev_c (Evl.rv_eq rfl))) (fun hb H5 e5 => ?_) fun hb H5 e5 => ?_
          · exact pick3 (t14.tx e5).z.1 rfl fun H6 d v m6 hd rd => ⟨d, v, rfl, (Mf.ex t14.z e5).tm m6, rd, hd, m6.fr _ _ nfS nfc (e5 _ _ hf4)⟩
          · exact ⟨kd, kv, rfl, Mf.ex t14.z e5, kdF, hkd, e5 _ _ hf4⟩
        rintro σ' H5 ⟨kd', kv', rfl, t5, kdF', hkd', hf5⟩
        have t35 := t4'.trans t5
        have t15 := t14.trans t5
        have up3 : ∀ {Hx : Hp}, Mf S c f H3 Hx → Hx q = some (.lst ys) ∧ Paired (fun d y => Rep Hx (2 * (m + 1) + 4) (fun b => H b = none ∧ b ≠ q) d y) es ys := fun t => ⟨t.fr _ _ qS.1 qS.2.1 qS.2.2 hq3, pair_imp pys3 fun a b h => rep_mf t rg h⟩
        refine Evl.q_asg (v := .int (ys.length : Int)) (ev_lenL (Evl.ev_var rfl) (.inl (Evl.sq_of (up3 t35).1))) fun H6 e6 => ?_
        have t36 := t35.tx e6
        have hf6 := e6 _ _ hf5
        have t16 := t15.tx e6
        have lys := pair_len pys3
        -- where
        refine Evl.q_cut (M := fun σ' H7 => ∃ at' : Int, 0 ≤ at' ∧ at' ≤ (ys.length : Int) ∧ σ' = [some (.ref S), some (.ref a), some (.ref f), some (.ref q), some kv', some kyv', some ov, some (.ref ba), some (.int way), some (.int at')] ∧ Mf S c f H6 H7 ∧ H7 f = some (.lst [.int g1])) ?_ ?_
        · refine Evl.s_when (Evl.et_test (Evl.ev_op (Evl.ev_var rfl) Evl.ev_c (Evl.rv_eq rfl))) (fun hb H7 e7 => ?_) fun hb H7 e7 => ?_
          · refine dr_go (m := (ys.length : Int) + 1) (Evl.ea_cons (Evl.ev_var rfl) (Evl.ea_cons (Evl.ev_op (ev_lenL (Evl.ev_var rfl) (.inl (Evl.sq_of (up3 (t36.tx e7)).1))) Evl.ev_c Evl.rv_I0) Evl.ea_nil)) (t16.tx e7).z.1 (by omega) (by omega) fun H8 z m8 z0 z1 => ⟨z, z0, by omega, rfl, (Mf.ex t16.z e7).tm m8, m8.fr _ _ nfS nfc (e7 _ _ hf6)⟩
          · exact ⟨(ys.length : Int), by omega, Int.le_refl _, rfl, Mf.ex t16.z e7, e7 _ _ hf6⟩
        rintro σ' H7 ⟨at', a0, a1, rfl, t7, hf7⟩
        have t37 := t36.trans t7
        have t17 := t16.trans t7
        -- the node itself
        refine Evl.q_cut (M := fun σ' H8 => ∃ ys' es', σ' = [some (.ref S), some (.ref a), some (.ref f), some (.ref q), some kv', some kyv', some ov, some (.ref ba), some (.int way), some (.int at')] ∧ Mf S c f H H8 ∧ Rep H8 4 Fs ky' kyv' ∧ H8 q = some (.lst ys') ∧ Paired (fun d y => Rep H8 (2 * (m + 1) + 4) (fun b => H b = none ∧ b ≠ q) d y) es' ys' ∧ es'.length ≤ 2 * i + 1 ∧ (∀ x ∈ es', NdB (2 * bb) (m + 1) x) ∧ ∃ g2, H8 f = some (.lst [.int g2]) ∧ Trk g0 g2 (ownsD (m + 1) (ds.take (i + 1))) (ownsD (m + 1) es')) ?_ ?_
        · refine Evl.s_when (Evl.et_test (Evl.ev_op (Evl.ev_var rfl) Evl.ev_c Evl.rv_I0)) (fun hb H8 e8 => ?_) fun hb H8 e8 => ?_
          · have t18 := t17.tx e8
            obtain ⟨hq8, pys8⟩ := up3 (t37.tx e8)
            refine ⟨_, rfl, .inl ⟨rfl, _, Evl.sq_of hq8⟩, _, rfl, _, rfl, _, rfl, _, rfl, _, rfl, _, rfl, _, rfl, S, c, f, ba, _, P, bl, bb, g1, rfl, t18.z, e8 _ _ hf7, rep_mf t18 hP w4, hP, nbl, lbl, hb12, fun H9 q9 es9 g2 t9 r9 l9 n9 hf9 trk9 => ⟨(by show 4 ≤ sizeLine; decide), fun tp htp => ?_⟩⟩
            have e10 := Ex.new (o := .tup [kv', kyv', ov, .ref q9]) htp
            have t8F := t9.tx e10
            have tF := t18.trans t8F
            have rk8 := rep_mf (((t5.tx e6).trans t7).tx e8) noP rk4
            have hqF := t8F.fr _ _ qS.1 qS.2.1 qS.2.2 hq8
            have htF := (upd_same (H := H9) (a := tp) (o := .tup [kv', kyv', ov, .ref q9]))
            have pysF := pair_imp pys8 fun a b h => rep_mf t8F rg h
            have rlF := rep_ex e10 r9
            have rkF := rep_mf t8F noP rk8
            have roF := rep_mf tF noP owF
            have hfF := e10 _ _ hf9
            generalize (upd H9 tp (.tup [kv', kyv', ov, .ref q9])) = HF at hqF htF pysF rlF rkF roF tF hfF ⊢
            refine ⟨q, ys, at', .ref tp, rfl, rfl, hqF, Evl.sz_lt (by omega), a0, by omega, ?_⟩
            have noq : ∀ xs, HO.lst ys ≠ .tup xs := fun _ e => nomatch e
            have up : ∀ {n : Nat} {d : D} {v : V} {o : HO}, Rep HF n (fun b => H b = none ∧ b ≠ q) d v → Rep (upd HF q o) n (fun b => H b = none ∧ b ≠ q) d v := fun r => rep_upd hqF noq (fun b hb => hb.2) r
            have rt : Rep HF (2 * (m + 1) + 4) (fun b => H b = none ∧ b ≠ q) (.tup [kd', ky', ow, .lst es9]) (.ref tp) := by
              refine ⟨tp, _, rfl, htF, by show 4 ≤ 100000; decide, .cons (rep_S (fun b hb => hb.elim) (kdF' (2 * m + 4) HF)) (.cons (rep_S (fun b hb => hb.elim) (rep_le (by omega) rkF)) (.cons (rep_S (fun b hb => hb.elim) (rep_le (by omega) roF)) (.cons (rep_S (fun b hb => ⟨t18.back hb, fun e => ?_⟩) rlF) .nil)))⟩
              rw [e, hq8] at hb; cases hb
            refine ⟨_, es.take at'.toNat ++ [.tup [kd', ky', ow, .lst es9]] ++ es.drop at'.toNat, rfl, tF.mut hq, rep_upd hqF noq (fun b hb => hb.elim) rkF, upd_same, pair_app (pair_app (pair_imp (pair_take _ pysF) fun a b h => up h) (.cons (up rt) .nil)) (pair_imp (pair_drop _ pysF) fun a b h => up h), ?_, fun x hx => ?_, g2, by rw [upd_ne (Ne.symm qS.2.2)]; exact hfF, by rw [take_snoc hd, owns_app, owns_one]; exact Trk.node trk trk9 (owns_ins rfl)⟩
            · rw [List.length_append, List.length_append, List.length_take, List.length_drop]
              show min at'.toNat es.length + 1 + (es.length - at'.toNat) ≤ 2 * i + 1
              omega
            · rcases List.mem_append.mp hx with hx | hx
              · rcases List.mem_append.mp hx with hx | hx
                · exact nes x (List.mem_of_mem_take hx)
                · rw [List.mem_singleton.mp hx]
                  exact ⟨kd', ky', ow, es9, rfl, hkd', hky', ⟨lo, how, hok⟩, l9, n9⟩
              · exact nes x (List.mem_of_mem_drop hx)
          · obtain ⟨h1, h2⟩ := up3 (t37.tx e8)
            exact ⟨ys, es, rfl, t17.tx e8, rep_mf (((t5.tx e6).trans t7).tx e8) noP rk4, h1, h2, by omega, nes, g1, e8 _ _ hf7, by rw [take_snoc hd, owns_app]; exact trk.skip⟩
        rintro σ' H8 ⟨ys', es', rfl, t8, rk8, hq8, pys8, les8, nes8, g2, hf8, trk8⟩
        refine Evl.s_when (Evl.et_test (Evl.ev_op (Evl.ev_var rfl) Evl.ev_c (Evl.rv_eq rfl))) (fun hb H9 e9 => ?_) fun hb H9 e9 => ?_
        · have t19 := t8.tx e9
          have hf2 := e9 _ _ hf8
          refine q_seq ?_
          refine Evl.ev_op (Evl.ev_op (Evl.ev_var rfl) Evl.ev_c (Evl.rv_ixL (i := 0) (Evl.sq_of hf2) rfl)) Evl.ev_c Evl.rv_I0 H9 (Ex.refl _) _ fun H10 e10 => ⟨_, rfl, f, [.int g2], 0, 0, rfl, rfl, e10 _ _ hf2, rfl, ?_⟩
          have tn := (t19.tx e10).trans (Mf.num (k := g2 + 1) (t19.tx e10).z)
          have t8n := ((Mf.ex t8.z e9).tx e10).trans (Mf.num (k := g2 + 1) (t19.tx e10).z)
          have hfn : (upd H10 f (.lst [.int (g2 + 1)])) f = some (.lst [.int (g2 + 1)]) := upd_same
          dsimp only [List.set]
          generalize (upd H10 f (.lst [.int (g2 + 1)])) = Hn at tn t8n hfn ⊢
          have hqn := t8n.fr _ _ qS.1 qS.2.1 qS.2.2 hq8
          refine ⟨_, rfl, .inl ⟨rfl, _, Evl.sq_of hqn⟩, _, rfl, _, rfl, _, rfl, f, _, 0, .int (g2 + 1), rfl, rfl, Evl.sq_of hfn, rfl, (by show 2 ≤ sizeLine; decide), fun t1 h1 => ⟨(by show 0 ≤ sizeLine; decide), fun t2 h2 => ⟨(by show 2 ≤ sizeLine; decide), fun t3 h3 => ⟨(by show 0 ≤ sizeLine; decide), fun l4 h4 => ⟨(by show 4 ≤ sizeLine; decide), fun t5 h5 => ?_⟩⟩⟩⟩⟩
          have e1 := Ex.new (o := .tup [.int 99, .int (g2 + 1)]) h1
          have e2 := Ex.new (o := .tup []) h2
          have e3 := Ex.new (o := .tup [.ref t1, .ref t2]) h3
          have e4 := Ex.new (o := .lst []) h4
          have e5 := Ex.new (o := .tup [kv', kyv', .ref t3, .ref l4]) h5
          have e15 := (((e1.trans e2).trans e3).trans e4).trans e5
          have hqF := e15 _ _ hqn
          have f1 := (((e2.trans e3).trans e4).trans e5) _ _ (upd_same (H := Hn) (a := t1) (o := .tup [.int 99, .int (g2 + 1)]))
          have f2 := ((e3.trans e4).trans e5) _ _ (upd_same (a := t2) (o := .tup []))
          have f3 := (e4.trans e5) _ _ (upd_same (a := t3) (o := .tup [.ref t1, .ref t2]))
          have f4 := e5 _ _ (upd_same (a := l4) (o := .lst []))
          have n4 := Evl.fresh_back ((e1.trans e2).trans e3) h4
          have n4H : H l4 = none := tn.back n4
          have lq : l4 ≠ q := fun e => by rw [e, hqn] at n4; cases n4
          have f5 := (upd_same (H := (upd (upd (upd (upd Hn t1 (.tup [.int 99, .int (g2 + 1)])) t2 (.tup [])) t3 (.tup [.ref t1, .ref t2])) l4 (.lst []))) (a := t5) (o := .tup [kv', kyv', .ref t3, .ref l4]))
          have tF := tn.tx e15
          have t8F := t8n.tx e15
          have hfF := e15 _ _ hfn
          generalize (upd (upd (upd (upd (upd Hn t1 (.tup [.int 99, .int (g2 + 1)])) t2 (.tup [])) t3 (.tup [.ref t1, .ref t2])) l4 (.lst [])) t5 (.tup [kv', kyv', .ref t3, .ref l4])) = HF at hqF f1 f2 f3 f4 f5 tF t8F hfF ⊢
          have lys' := pair_len pys8
          refine ⟨q, ys', .ref t5, rfl, rfl, hqF, Evl.sz_lt (by omega), ?_⟩
          have up : ∀ {n : Nat} {d : D} {v : V} {o : HO}, Rep HF n (fun b => H b = none ∧ b ≠ q) d v → Rep (upd HF q o) n (fun b => H b = none ∧ b ≠ q) d v := fun r => rep_upd hqF (fun _ e => nomatch e) (fun b hb => hb.2) r
          have rt : Rep HF (2 * (m + 1) + 4) (fun b => H b = none ∧ b ≠ q) (.tup [kd', ky', .tup [.tup [.int 99, .int (g2 + 1)], .tup []], .lst []]) (.ref t5) :=
            ⟨t5, _, rfl, f5, by show 4 ≤ 100000; decide, .cons (rep_S (fun b hb => hb.elim) (kdF' (2 * m + 4) HF)) (.cons (rep_S (fun b hb => hb.elim) (rep_le (by omega) (rep_mf t8F noP rk8))) (.cons ⟨t3, _, rfl, f3, by show 2 ≤ 100000; decide, .cons ⟨t1, _, rfl, f1, by show 2 ≤ 100000; decide, .cons rfl (.cons rfl .nil)⟩ (.cons ⟨t2, _, rfl, f2, by show 0 ≤ 100000; decide, .nil⟩ .nil)⟩ (.cons ⟨l4, [], rfl, ⟨n4H, lq⟩, f4, by show 0 ≤ 100000; decide, .nil⟩ .nil)))⟩
          refine ⟨ys' ++ [.ref t5], es' ++ [.tup [kd', ky', .tup [.tup [.int 99, .int (g2 + 1)], .tup []], .lst []]], _, _, _, _, _, _, rfl, tF.mut hq, upd_same, pair_app (pair_imp pys8 fun a b h => up (rep_mf t8F rg h)) (.cons (up rt) .nil), by rw [List.length_append]; show es'.length + 1 ≤ 2 * (i + 1); omega, fun x hx => ?_, g2 + 1, by rw [upd_ne (Ne.symm qS.2.2)]; exact hfF, by rw [owns_app, owns_one]; have := trk8.fresh; rw [← owns_nil m] at this; exact this⟩
          rcases List.mem_append.mp hx with hx | hx
          · exact nes8 x hx
          · rw [List.mem_singleton.mp hx]
            refine ⟨kd', ky', _, [], rfl, hkd', hky', ⟨_, rfl, fun y hy => ?_⟩, Nat.zero_le _, fun x h => nomatch h⟩
            rcases List.mem_cons.mp hy with rfl | hy
            · intro z hz
              rcases List.mem_cons.mp hz with rfl | hz
              · trivial
              · rw [List.mem_singleton.mp hz]; trivial
            · rw [List.mem_singleton.mp hy]
              intro z hz; cases hz
        · exact ⟨ys', es', _, _, _, _, _, _, rfl, t8.tx e9, e9 _ _ hq8, pair_imp pys8 fun a b h => rep_ex e9 h, by omega, nes8, g2, e9 _ _ hf8, trk8⟩
      · obtain ⟨ys, es, o4, o5, o6, o7, o8, o9, rfl, mH, hqH, pys, les, nes, g1, hf1, trk⟩ := pv
        exact Evl.s_ret (Evl.ev_var rfl) fun H9 e9 => k H9 q es g1 (mH.tx e9) (rep_ex e9 ⟨q, ys, rfl, hq, hqH, by omega, pair_imp pys fun a b h => rep_S (fun b hb => hb.1) h⟩) (by omega) nes (e9 _ _ hf1) (by rw [← lx, List.take_length] at trk; exact trk)
end
end Pk

namespace Pk
open PySem PySem.Spec PyProof.Rows L2 Ssb
open Evl (Ex Ev EvT EvL EvA EvU)
/-! ### addresses of nodes, and what is matched by them -/
theorem nd_atS {pl : Str} {ds : List D} {m i : Nat} (h : ∀ d ∈ ds, NdD m d) (hi : i < ds.length) : kdD 4 (slotD pl ds i (ds.getD i .non)) := by
  refine slot_kd (pl := pl) h _ ?_
  unfold slotsD
  exact List.mem_map.mpr ⟨i, List.mem_range.mpr hi, rfl⟩
theorem nkL_map : ∀ (l : List D), nkL l = l.map nkD
  | [] => by rw [nkL]; rfl
  | d :: l => by rw [nkL, nkL_map l]; rfl
theorem nk_tup {l : List D} : nkD (.tup l) = .tup (l.map nkD) := by rw [nkD, nkL_map]
theorem tup_pre {at_ r1 r2 : List D} {x y : D} (h : nkD (.tup (at_ ++ x :: r1)) = nkD (.tup (at_ ++ y :: r2))) : nkD x = nkD y ∧ r1.map nkD = r2.map nkD := by
  rw [nk_tup, nk_tup] at h
  injection h with h
  rw [List.map_append, List.map_append, List.map_cons, List.map_cons] at h
  have h := List.append_cancel_left h
  injection h with h1 h2
  exact ⟨h1, h2⟩
/-- owners and addresses in order; at_ = the slots above -/
def addrD (pl : Str) : Nat → List D → List D → List (D × D)
  | 0, _, _ => []
  | m + 1, ds, at_ => (List.range ds.length).flatMap fun i => (ownD (ds.getD i .non), .tup (at_ ++ [slotD pl ds i (ds.getD i .non)])) :: addrD pl m (belowD (ds.getD i .non)) (at_ ++ [slotD pl ds i (ds.getD i .non)])
theorem addr_form {pl : Str} : ∀ {m : Nat} {ds at_ : List D} {p : D × D}, p ∈ addrD pl m ds at_ → ∃ i r, i < ds.length ∧ p.2 = .tup (at_ ++ slotD pl ds i (ds.getD i .non) :: r)
  | 0, _, _, _, h => nomatch h
  | m + 1, ds, at_, p, h => by
    obtain ⟨i, hi, h⟩ := List.mem_flatMap.mp h
    rcases List.mem_cons.mp h with rfl | h
    · exact ⟨i, [], List.mem_range.mp hi, rfl⟩
    · obtain ⟨j, r, _, e⟩ := addr_form h
      exact ⟨i, _, List.mem_range.mp hi, by rw [e, List.append_assoc]; rfl⟩
theorem addr_ne {pl : Str} : ∀ {m : Nat} {ds at_ : List D}, (∀ d ∈ ds, NdD m d) → (addrD pl m ds at_).Pairwise fun p q => nkD p.2 ≠ nkD q.2
  | 0, _, _, _ => List.Pairwise.nil
  | m + 1, ds, at_, hd => by
    show List.Pairwise _ (List.flatMap _ _)
    rw [List.pairwise_flatMap]
    constructor
    · intro i hi
      have il := List.mem_range.mp hi
      refine List.Pairwise.cons (fun q hq e => ?_) (addr_ne (nd_below (nd_at hd il).2).2)
      obtain ⟨j, r, _, eq⟩ := addr_form hq
      rw [eq, List.append_assoc] at e
      have := (tup_pre (r1 := []) e).2
      cases this
    · refine List.Pairwise.imp_of_mem ?_ List.pairwise_lt_range
      intro a b ha hb lt x hx y hy e
      have bl := List.mem_range.mp hb
      have form : ∀ {i : Nat} {x : D × D}, x ∈ (ownD (ds.getD i .non), D.tup (at_ ++ [slotD pl ds i (ds.getD i .non)])) :: addrD pl m (belowD (ds.getD i .non)) (at_ ++ [slotD pl ds i (ds.getD i .non)]) → ∃ r, x.2 = .tup (at_ ++ slotD pl ds i (ds.getD i .non) :: r) := fun {i x} h => by
        rcases List.mem_cons.mp h with rfl | h
        · exact ⟨[], rfl⟩
        · obtain ⟨j, r, _, e⟩ := addr_form h
          exact ⟨_, by rw [e, List.append_assoc]; rfl⟩
      obtain ⟨r1, e1⟩ := form hx
      obtain ⟨r2, e2⟩ := form hy
      rw [e1, e2] at e
      exact slots_ne hd lt bl (tup_pre e).1
theorem fm_range {g : D → List D} {ds : List D} : (List.range ds.length).flatMap (fun i => g (ds.getD i .non)) = ds.flatMap g := by
  have key : ∀ n, n ≤ ds.length → (List.range n).flatMap (fun i => g (ds.getD i .non)) = (ds.take n).flatMap g := fun n => by
    induction n with
    | zero => intro _; rfl
    | succ n ih =>
      intro h
      have gd : ds[n]? = some (ds.getD n .non) := by rw [List.getD_eq_getElem?_getD, List.getElem?_eq_getElem (by omega)]; rfl
      rw [List.range_succ, List.flatMap_append, ih (by omega), take_snoc gd, List.flatMap_append]
      rfl
  have := key ds.length (Nat.le_refl _)
  rw [List.take_length] at this
  exact this
theorem owns_addr {pl : Str} : ∀ {m : Nat} {ds at_ : List D}, (addrD pl m ds at_).map (·.1) = ownsD m ds
  | 0, _, _ => rfl
  | m + 1, ds, at_ => by
    show List.map _ (List.flatMap _ _) = List.flatMap _ _
    rw [List.map_flatMap, ← fm_range]
    refine congrArg (fun f => List.flatMap f (List.range ds.length)) (funext fun i => ?_)
    show ownD _ :: List.map _ _ = _
    rw [owns_addr (m := m)]
theorem findD_of {pl : Str} {A B : List D} {m i k : Nat} (hA : ∀ d ∈ A, NdD m d) (hi : i < A.length) (e : nkD (slotD pl A i (A.getD i .non)) = nkD (slotD pl B k (B.getD k .non))) : findD pl A B k = some i := by
  have hs : (findD pl A B k).isSome = true := by
    unfold findD slotIx
    rw [List.find?_isSome]
    exact ⟨i, List.mem_range.mpr hi, by simpa using e⟩
  obtain ⟨j, hj⟩ := Option.isSome_iff_exists.mp hs
  obtain ⟨jl, ej⟩ := slotIx_lt hj
  rw [hj]
  have : j = i := by
    rcases Nat.lt_trichotomy j i with c | c | c
    · exact absurd (ej.trans e.symm) (slots_ne hA c hi)
    · exact c
    · exact absurd (e.trans ej.symm) (slots_ne hA c jl)
  rw [this]
/-- matched nodes have one address -/
theorem pairs_addr {pl : Str} : ∀ {m : Nat} {A B at_ : List D} {p : D × D}, (∀ d ∈ A, NdD m d) → (∀ d ∈ B, NdD m d) → p ∈ pairsD pl m A B → ∃ a, (ownD p.1, a) ∈ addrD pl m A at_ ∧ (ownD p.2, a) ∈ addrD pl m B at_
  | 0, _, _, _, _, _, _, h => nomatch h
  | m + 1, A, B, at_, p, hA, hB, h => by
    obtain ⟨k, hk, h⟩ := List.mem_flatMap.mp h
    have kl := List.mem_range.mp hk
    cases hf : findD pl A B k with
    | none => rw [hf] at h; cases h
    | some j =>
      rw [hf] at h
      obtain ⟨jl, ej⟩ := slotIx_lt hf
      have es : slotD pl A j (A.getD j .non) = slotD pl B k (B.getD k .non) := nk_inj (nd_atS hA jl) (nd_atS hB kl) ej
      rcases List.mem_cons.mp h with rfl | h
      · exact ⟨.tup (at_ ++ [slotD pl A j (A.getD j .non)]), List.mem_flatMap.mpr ⟨j, List.mem_range.mpr jl, List.mem_cons_self⟩, List.mem_flatMap.mpr ⟨k, hk, by rw [es]; exact List.mem_cons_self⟩⟩
      · obtain ⟨a, h1, h2⟩ := pairs_addr (at_ := at_ ++ [slotD pl A j (A.getD j .non)]) (nd_below (nd_at hA jl).2).2 (nd_below (nd_at hB kl).2).2 h
        exact ⟨a, List.mem_flatMap.mpr ⟨j, List.mem_range.mpr jl, List.mem_cons_of_mem _ h1⟩, List.mem_flatMap.mpr ⟨k, hk, List.mem_cons_of_mem _ (by rw [← es]; exact h2)⟩⟩
/-- nodes of one address are matched -/
theorem addr_pairs {pl : Str} : ∀ {m : Nat} {A B at_ : List D} {o1 o2 a a2 : D}, (∀ d ∈ A, NdD m d) → (∀ d ∈ B, NdD m d) → (o1, a) ∈ addrD pl m A at_ → (o2, a2) ∈ addrD pl m B at_ → nkD a = nkD a2 → ∃ p ∈ pairsD pl m A B, ownD p.1 = o1 ∧ ownD p.2 = o2
  | 0, _, _, _, _, _, _, _, _, _, h, _, _ => nomatch h
  | m + 1, A, B, at_, o1, o2, a, a2, hA, hB, h1, h2, e => by
    obtain ⟨i, hi, h1⟩ := List.mem_flatMap.mp h1
    obtain ⟨k, hk, h2⟩ := List.mem_flatMap.mp h2
    have il := List.mem_range.mp hi
    have kl := List.mem_range.mp hk
    have go : nkD (slotD pl A i (A.getD i .non)) = nkD (slotD pl B k (B.getD k .non)) → ∀ {p : D × D}, p ∈ (A.getD i .non, B.getD k .non) :: pairsD pl m (belowD (A.getD i .non)) (belowD (B.getD k .non)) → p ∈ pairsD pl (m + 1) A B := fun es {p} hp =>
      List.mem_flatMap.mpr ⟨k, hk, by rw [findD_of hA il es]; exact hp⟩
    rcases List.mem_cons.mp h1 with h1 | h1
    · rcases List.mem_cons.mp h2 with h2 | h2
      · injection h1 with e1 e2
        injection h2 with e3 e4
        rw [e2, e4] at e
        obtain ⟨es, _⟩ := tup_pre (r1 := []) (r2 := []) e
        exact ⟨_, go es List.mem_cons_self, e1.symm, e3.symm⟩
      · injection h1 with e1 e2
        obtain ⟨j, r, _, eq⟩ := addr_form h2
        have eq : a2 = _ := eq
        rw [e2, eq, List.append_assoc] at e
        have := (tup_pre (r1 := []) e).2
        cases this
    · rcases List.mem_cons.mp h2 with h2 | h2
      · injection h2 with e1 e2
        obtain ⟨j, r, _, eq⟩ := addr_form h1
        have eq : a = _ := eq
        rw [e2, eq, List.append_assoc] at e
        have := (tup_pre (r2 := []) e).2
        cases this
      · obtain ⟨j, r, _, eq⟩ := addr_form h1
        obtain ⟨j2, r2, _, eq2⟩ := addr_form h2
        have eq : a = _ := eq
        have eq2 : a2 = _ := eq2
        have es : nkD (slotD pl A i (A.getD i .non)) = nkD (slotD pl B k (B.getD k .non)) := by
          have e := e
          rw [eq, eq2, List.append_assoc, List.append_assoc] at e
          exact (tup_pre e).1
        have esD := nk_inj (nd_atS hA il) (nd_atS hB kl) es
        rw [← esD] at h2
        obtain ⟨p, hp, r⟩ := addr_pairs (nd_below (nd_at hA il).2).2 (nd_below (nd_at hB kl).2).2 h1 h2 e
        exact ⟨p, go es (List.mem_cons_of_mem _ hp), r⟩
/-! ### pairs of owners -/
def ownP (p : D × D) : D × D := (ownD p.1, ownD p.2)
def tsD (pl : Str) (m : Nat) (A B : List D) : List (D × D) := (pairsD pl m A B).map ownP
theorem nd_in {α β : Type} {l : List (α × β)} (h : (l.map (·.1)).Nodup) {a : α} {b c : β} (h1 : (a, b) ∈ l) (h2 : (a, c) ∈ l) : b = c := by
  induction l with
  | nil => cases h1
  | cons x l ih =>
    rw [List.map_cons, List.nodup_cons] at h
    rcases List.mem_cons.mp h1 with h1 | h1
    · rcases List.mem_cons.mp h2 with h2 | h2
      · rw [← h1] at h2; exact (Prod.mk.inj h2).2.symm
      · exact absurd (List.mem_map.mpr ⟨_, h2, by rw [← h1]⟩) h.1
    · rcases List.mem_cons.mp h2 with h2 | h2
      · exact absurd (List.mem_map.mpr ⟨_, h1, by rw [← h2]⟩) h.1
      · exact ih h.2 h1 h2
theorem pw_in {α : Type} {R : α → α → Prop} {l : List α} (h : l.Pairwise R) {a b : α} (h1 : a ∈ l) (h2 : b ∈ l) : a = b ∨ R a b ∨ R b a := by
  induction h with
  | nil => cases h1
  | cons hx _ ih =>
    rcases List.mem_cons.mp h1 with e1 | k1
    · rcases List.mem_cons.mp h2 with e2 | k2
      · exact .inl (e1.trans e2.symm)
      · rw [e1]; exact .inr (.inl (hx _ k2))
    · rcases List.mem_cons.mp h2 with e2 | k2
      · rw [e2]; exact .inr (.inr (hx _ k1))
      · exact ih k1 k2
section
variable {pl : Str} {m : Nat} {A B C : List D}
theorem ts_addr (hA : ∀ d ∈ A, NdD m d) (hB : ∀ d ∈ B, NdD m d) {o1 o2 : D} (h : (o1, o2) ∈ tsD pl m A B) : ∃ a, (o1, a) ∈ addrD pl m A [] ∧ (o2, a) ∈ addrD pl m B [] := by
  obtain ⟨p, hp, e⟩ := List.mem_map.mp h
  obtain ⟨a, h1, h2⟩ := pairs_addr (at_ := []) hA hB hp
  obtain ⟨e1, e2⟩ := Prod.mk.inj e
  exact ⟨a, e1 ▸ h1, e2 ▸ h2⟩
theorem addr_ts (hA : ∀ d ∈ A, NdD m d) (hB : ∀ d ∈ B, NdD m d) {o1 o2 a : D} (h1 : (o1, a) ∈ addrD pl m A []) (h2 : (o2, a) ∈ addrD pl m B []) : (o1, o2) ∈ tsD pl m A B := by
  obtain ⟨p, hp, e1, e2⟩ := addr_pairs hA hB h1 h2 rfl
  exact List.mem_map.mpr ⟨p, hp, by unfold ownP; rw [e1, e2]⟩
theorem addr_own (hA : ∀ d ∈ A, NdD m d) {o1 o2 a : D} (h1 : (o1, a) ∈ addrD pl m A []) (h2 : (o2, a) ∈ addrD pl m A []) : o1 = o2 := by
  rcases pw_in (addr_ne hA) h1 h2 with e | e | e
  · exact (Prod.mk.inj e).1
  · exact absurd rfl e
  · exact absurd rfl e
theorem own_addr (h : (ownsD m A).Nodup) {o a b : D} (h1 : (o, a) ∈ addrD pl m A []) (h2 : (o, b) ∈ addrD pl m A []) : a = b := nd_in (by rw [owns_addr]; exact h) h1 h2
theorem ts_on (hA : ∀ d ∈ A, NdD m d) (hB : ∀ d ∈ B, NdD m d) (hC : ∀ d ∈ C, NdD m d) (uB : (ownsD m B).Nodup) {o x r : D} (h1 : (o, x) ∈ tsD pl m A B) (h2 : (x, r) ∈ tsD pl m B C) : (o, r) ∈ tsD pl m A C := by
  obtain ⟨a, p1, p2⟩ := ts_addr hA hB h1
  obtain ⟨b, q1, q2⟩ := ts_addr hB hC h2
  have := own_addr uB p2 q1
  subst this
  exact addr_ts hA hC p1 q2
theorem ts_back (hA : ∀ d ∈ A, NdD m d) (hB : ∀ d ∈ B, NdD m d) (hC : ∀ d ∈ C, NdD m d) (uA : (ownsD m A).Nodup) {o x r : D} (h1 : (o, x) ∈ tsD pl m A B) (h2 : (o, r) ∈ tsD pl m A C) : (x, r) ∈ tsD pl m B C := by
  obtain ⟨a, p1, p2⟩ := ts_addr hA hB h1
  obtain ⟨b, q1, q2⟩ := ts_addr hA hC h2
  have := own_addr uA p1 q1
  subst this
  exact addr_ts hB hC p2 q2
end
theorem ts_right {pl : Str} : ∀ {m : Nat} {A B : List D}, ((tsD pl m A B).map (·.2)).Sublist (ownsD m B)
  | 0, _, _ => List.nil_sublist _
  | m + 1, A, B => by
    have e : (tsD pl (m + 1) A B).map (·.2) = (List.range B.length).flatMap fun k => ((pairAt (pairsD pl m) A B k (findD pl A B k)).map ownP).map (·.2) := by
      show List.map _ (List.map _ (List.flatMap _ _)) = _
      rw [List.map_flatMap, List.map_flatMap]
    rw [e]
    show List.Sublist _ (List.flatMap _ B)
    rw [← fm_range]
    have key : ∀ l : List Nat, (l.flatMap fun k => ((pairAt (pairsD pl m) A B k (findD pl A B k)).map ownP).map (·.2)).Sublist (l.flatMap fun i => ownD (B.getD i .non) :: ownsD m (belowD (B.getD i .non))) := fun l => by
      induction l with
      | nil => exact List.Sublist.refl _
      | cons k l ih =>
        rw [List.flatMap_cons, List.flatMap_cons]
        refine List.Sublist.append ?_ ih
        cases findD pl A B k with
        | none => exact List.nil_sublist _
        | some j => exact (ts_right (pl := pl) (A := belowD (A.getD j .non)) (B := belowD (B.getD k .non))).cons_cons _
    exact key _
theorem ts_nd {pl : Str} {m : Nat} {A B : List D} (hA : ∀ d ∈ A, NdD m d) (hB : ∀ d ∈ B, NdD m d) (uA : (ownsD m A).Nodup) (uB : (ownsD m B).Nodup) : ((tsD pl m A B).map (·.1)).Nodup ∧ ((tsD pl m A B).map (·.2)).Nodup := by
  have r := uB.sublist (ts_right (pl := pl) (A := A))
  refine ⟨?_, r⟩
  have r2 : (tsD pl m A B).Pairwise fun p q => p.2 ≠ q.2 := by
    rw [List.Nodup, List.pairwise_map] at r; exact r
  rw [List.Nodup, List.pairwise_map]
  refine r2.imp_of_mem fun {p q} hp hq ne e => ne ?_
  obtain ⟨o1, x1⟩ := p
  obtain ⟨o2, x2⟩ := q
  have e : o1 = o2 := e
  subst e
  obtain ⟨a, p1, p2⟩ := ts_addr hA hB hp
  obtain ⟨b, q1, q2⟩ := ts_addr hA hB hq
  have := own_addr uA p1 q1
  subst this
  exact addr_own hB p2 q2
/-! ### owners of a generated tree are apart -/
theorem place_ne {pl r1 r2 : List Int} {a b z1 z2 : Int} (h : D.tup [.tup ((pl ++ a :: r1).map D.int), .tup [.int z1]] = .tup [.tup ((pl ++ b :: r2).map D.int), .tup [.int z2]]) : a = b ∧ r1 = r2 := by
  injection h with h
  injection h with h _
  injection h with h
  have inj : Function.Injective D.int := fun x y e => by injection e
  have h := List.map_inj_right (fun x y e => inj e) |>.mp h
  have h := List.append_cancel_left h
  injection h with h1 h2
  exact ⟨h1, h2⟩
theorem pl_form : ∀ {m : Nat} {pl : List Int} {ds : List D}, PlD m pl ds → ∀ o ∈ ownsD m ds, ∃ (i : Nat) (r : List Int) (z : Int), i < ds.length ∧ o = .tup [.tup ((pl ++ (0 + (i : Int)) :: r).map D.int), .tup [.int z]]
  | 0, _, _, _, o, h => nomatch h
  | m + 1, pl, ds, hp, o, h => by
    obtain ⟨d, hd, h⟩ := List.mem_flatMap.mp h
    obtain ⟨i, hi⟩ := List.mem_iff_getElem?.mp hd
    have il := (List.getElem?_eq_some_iff.mp hi).1
    obtain ⟨⟨z, ez⟩, hb⟩ := hp i d hi
    rcases List.mem_cons.mp h with rfl | h
    · exact ⟨i, [], z, il, ez⟩
    · obtain ⟨j, r, z2, _, e⟩ := pl_form hb o h
      exact ⟨i, _, z2, il, by rw [e, List.append_assoc]; rfl⟩
theorem pl_nd : ∀ {m : Nat} {pl : List Int} {ds : List D}, PlD m pl ds → (ownsD m ds).Nodup
  | 0, _, _, _ => List.nodup_nil
  | m + 1, pl, ds, hp => by
    show (List.flatMap _ ds).Nodup
    rw [← fm_range, List.Nodup, List.pairwise_flatMap]
    have at_ : ∀ {i : Nat}, i < ds.length → ds[i]? = some (ds.getD i .non) := fun h => by rw [List.getD_eq_getElem?_getD, List.getElem?_eq_getElem h]; rfl
    have form : ∀ {i : Nat} {o : D}, i < ds.length → o ∈ ownD (ds.getD i .non) :: ownsD m (belowD (ds.getD i .non)) → ∃ (r : List Int) (z : Int), o = .tup [.tup ((pl ++ (0 + (i : Int)) :: r).map D.int), .tup [.int z]] := fun {i o} hi h => by
      obtain ⟨⟨z, ez⟩, hb⟩ := hp i _ (at_ hi)
      rcases List.mem_cons.mp h with rfl | h
      · exact ⟨[], z, ez⟩
      · obtain ⟨j, r, z2, _, e⟩ := pl_form hb o h
        exact ⟨_, z2, by rw [e, List.append_assoc]; rfl⟩
    constructor
    · intro i hi
      have il := List.mem_range.mp hi
      obtain ⟨⟨z, ez⟩, hb⟩ := hp i _ (at_ il)
      refine List.Pairwise.cons (fun o ho e => ?_) (pl_nd hb)
      obtain ⟨j, r, z2, _, e2⟩ := pl_form hb o ho
      rw [ez, e2, List.append_assoc] at e
      have := (place_ne (r1 := []) e).2
      cases this
    · refine List.Pairwise.imp_of_mem ?_ List.pairwise_lt_range
      intro a b ha hb lt x hx y hy e
      obtain ⟨r1, z1, e1⟩ := form (List.mem_range.mp ha) hx
      obtain ⟨r2, z2, e2⟩ := form (List.mem_range.mp hb) hy
      rw [e1, e2] at e
      have := (place_ne e).1
      omega
theorem pl_own {m : Nat} {pl : List Int} {ds : List D} (h : PlD m pl ds) {g : Int} : Own g (ownsD m ds) := ⟨pl_nd h, fun o ho j _ e => by
  obtain ⟨i, r, z, _, e2⟩ := pl_form h o ho
  rw [e2] at e
  unfold fr at e
  injection e with e
  injection e with _ e
  injection e with e _
  injection e with e
  cases e⟩
theorem owns_le {b : Nat} : ∀ {m n : Nat} {ds : List D}, m ≤ n → (∀ d ∈ ds, NdB b m d) → ownsD n ds = ownsD m ds
  | 0, n, ds, _, h => by
    cases ds with
    | nil => exact owns_nil n
    | cons d ds => exact (h d List.mem_cons_self).elim
  | m + 1, 0, _, l, _ => absurd l (by omega)
  | m + 1, n + 1, ds, l, h => by
    show List.flatMap _ ds = List.flatMap _ ds
    induction ds with
    | nil => rfl
    | cons d ds ih =>
      rw [List.flatMap_cons, List.flatMap_cons, ih fun x hx => h x (List.mem_cons_of_mem _ hx)]
      obtain ⟨kd, ky, ow, bl, rfl, _, _, _, _, hb⟩ := h d List.mem_cons_self
      have := owns_le (b := b) (m := m) (n := n) (ds := bl) (by omega) hb
      rw [show belowD (.tup [kd, ky, ow, .lst bl]) = bl from rfl, this]
end Pk

namespace Pk
open PySem PySem.Spec PyProof.Rows L2 Ssb
open Evl (Ex Ev EvT EvL EvA EvU)
/-! ### tables of pairs of owners -/
/-- an entry that says what goes with a key -/
def EnP (H : Hp) (p : D × D) (e : XEnt) : Prop := e.1 = p.1 ∧ KeyV H e.1 e.2.1 ∧ Rep H 5 Fs p.2 e.2.2
theorem EnP.ex {H H' : Hp} {p : D × D} {e : XEnt} (x : Ex H H') (h : EnP H p e) : EnP H' p e := ⟨h.1, h.2.1.ex x, rep_ex x h.2.2⟩
theorem EnP.upd {H : Hp} {w : World} {q : Addr} {xs : List XEnt} {u : HO} {p : D × D} {e : XEnt} (hq : H q = some (DkO w q xs)) (h : EnP H p e) : EnP (L2.upd H q u) p e :=
  have no : ∀ ys, DkO w q xs ≠ .tup ys := fun ys z => by unfold DkO at z; cases z
  ⟨h.1, h.2.1.tk (Tk.upd hq no), rep_upd hq no (fun b z => z.elim) h.2.2⟩
theorem putX_none {xs : List XEnt} {d : D} {a v : V} (h : valX xs d = none) : putX xs d a v = xs ++ [(d, a, v)] := by
  unfold putX
  rw [if_neg (by rw [h]; exact fun z => nomatch z)]
theorem valX_at {xs : List XEnt} (nd : ((xs.map xk).map (·.1)).Nodup) {j : Nat} {e : XEnt} (h : xs[j]? = some e) : valX xs e.1 = some e.2.2 := valN_at (y := xk e) nd (by rw [List.getElem?_map, h]; rfl)
theorem valX_none {xs : List XEnt} {d : D} (h : ∀ y ∈ xs, nkD y.1 ≠ nkD d) : valX xs d = none := valN_none.mpr fun y hy e => by
  obtain ⟨x, hx, rfl⟩ := List.mem_map.mp hy
  exact h x hx e
/-- keys that may be owners -/
def OwnK (d : D) : Prop := kdD 3 d ∧ ∃ l, d = .tup l
section
variable {H : Hp} {ts : List (D × D)} {es : List XEnt}
theorem en_keys (h : Paired (EnP H) ts es) : Keys H es := fun e he => by
  obtain ⟨p, _, r⟩ := Paired.mem2 h e he
  exact r.2.1
theorem en_nd (h : Paired (EnP H) ts es) (hk : ∀ p ∈ ts, OwnK p.1) (nd : (ts.map (·.1)).Nodup) : ((es.map xk).map (·.1)).Nodup := by
  have e : (es.map xk).map (·.1) = (ts.map (·.1)).map nkD := by
    clear hk nd
    induction h with
    | nil => rfl
    | cons h0 t ih =>
      rw [List.map_cons, List.map_cons, List.map_cons, List.map_cons, ih]
      show nkD _ :: _ = _
      rw [h0.1]
  rw [e, List.Nodup, List.pairwise_map]
  refine List.Pairwise.imp_of_mem ?_ nd
  intro a b ha hb ne z
  obtain ⟨p, hp, rfl⟩ := List.mem_map.mp ha
  obtain ⟨q, hq, rfl⟩ := List.mem_map.mp hb
  exact ne (nk_inj (hk p hp).1 (hk q hq).1 z)
theorem en_of (h : Paired (EnP H) ts es) (hk : ∀ p ∈ ts, OwnK p.1) (nd : (ts.map (·.1)).Nodup) {a b : D} (hm : (a, b) ∈ ts) : ∃ v, valX es a = some v ∧ Rep H 5 Fs b v := by
  obtain ⟨i, hi⟩ := List.mem_iff_getElem?.mp hm
  obtain ⟨e, he, r⟩ := pair_at h hi
  exact ⟨e.2.2, by rw [show a = e.1 from r.1.symm]; exact valX_at (en_nd h hk nd) he, r.2.2⟩
theorem en_val (h : Paired (EnP H) ts es) (hk : ∀ p ∈ ts, OwnK p.1) {a : D} {n : Nat} (ka : kdD n a) {v : V} (hv : valX es a = some v) : ∃ b, (a, b) ∈ ts ∧ Rep H 5 Fs b v := by
  obtain ⟨e, he, e1, e2⟩ : ∃ e ∈ es, nkD e.1 = nkD a ∧ e.2.2 = v := by
    unfold valX valN at hv
    cases hf : (es.map xk).find? fun x => decide (x.1 = nkD a) with
    | none => rw [hf] at hv; cases hv
    | some y =>
      rw [hf] at hv
      obtain ⟨e, he, rfl⟩ := List.mem_map.mp (List.mem_of_find?_eq_some hf)
      have := List.find?_some hf
      exact ⟨e, he, of_decide_eq_true this, Option.some.inj hv⟩
  obtain ⟨p, hp, r⟩ := Paired.mem2 h e he
  obtain ⟨p1, p2⟩ := p
  have e3 : e.1 = p1 := r.1
  have : p1 = a := nk_inj (hk _ hp).1 ka (by rw [← e3]; exact e1)
  subst this
  exact ⟨p2, hp, e2 ▸ r.2.2⟩
end
section
variable {P : Program} {w : World} {K : PySem.W.Frag} {mg : Str → Option Value} {base : Heap} {C_Node C_Rule C_InvalidRule : Addr}
def spTable (w : World) : Sp := fun vs H Q _ => ∃ (a : Addr) (ts : List (D × D)) (zs : List V), vs = [.ref a] ∧ H a = some (.lst zs) ∧ Paired (fun (p : D × D) z => Rep H 5 Fs (.tup [p.1, p.2]) z) ts zs ∧ (∀ p ∈ ts, OwnK p.1 ∧ OwnK p.2) ∧ (ts.map (·.1)).Nodup ∧ (ts.map (·.2)).Nodup ∧ ts.length ≤ 30000 ∧
  ∀ H' q es, Ex H H' → H q = none → H' q = some (DkO w q es) → Paired (EnP H') ts es → Q (.ref q) H'
theorem ok__law_table (T : Txt K mg C_Node C_Rule C_InvalidRule) (R : Prg K mg C_Node C_Rule C_InvalidRule) : ∃ f fd, Fn P w K mg base "_law_table" 2 ["_law_pairs"] (spTable w) f fd := by
  obtain ⟨f, fd, at_, F, kp⟩ := R._law_table
  refine ⟨f, fd, F.ok sc__law_table (fun vs H Q E h => ?_) (fun cdv A outer s H vs Q E hr h => ?_), at_, kp, F.binds (fun _ _ _ _ _ _ us hl => match us, hl with | [_], _ => rfl)⟩
  · obtain ⟨a, ts, zs, rfl, _⟩ := h; rfl
  · obtain ⟨a, ts, zs, rfl, ha, pz, okd, nd1, nd2, l1, k⟩ := h
    refine ⟨_, (pss_cons (ps_set (i := 1) sc__law_table.nd rfl (Or.inl rfl) (show PE _ _ (tNNew w) from pe_nnew))
  (pss_cons (ps_set (i := 2) sc__law_table.nd rfl (Or.inl rfl) (show PE _ _ (tNNew w) from pe_nnew))
  (pss_cons (ps_for PassesOwn.never rfl (show PI _ _ _ (iList K _) from pi_list (pv 0)) (show PG _ _ (gTup K 2 _) from pg_tup (n := 2) rfl (pgs_cons (pg_name (i := 3) sc__law_table.nd rfl (Or.inl rfl)) (pgs_cons (pg_name (i := 4) sc__law_table.nd rfl (Or.inl rfl)) pgs_nil)))
    (pss_cons (ps_if (PW.pt (pw_or (pt_cmpR (r := rNIn w) (op_nin (hu20 hr)) (pv 3) (pv 1) (by rfl)) (pw_or1 (pt_cmpR (r := rNIn w) (op_nin (hu20 hr)) (pv 4) (pv 2) (by rfl))))) pss_never pss_nil)
  (pss_cons (show PS _ _ (sNPut w _ _ _) from ps_nput (hu20 hr) (pv 1) (pv 3) (pv 4) rfl)
  (pss_one (show PS _ _ (sNPut w _ _ _) from ps_nput (hu20 hr) (pv 2) (pv 4) pe_bl rfl)))))
  (pss_one (ps_ret (pv 1)))))), ?_⟩
    refine q_go (fun q hq => ?_)
    have e1 := Ex.new (o := DkO w q []) hq
    refine q_go (fun r hr0 => ?_)
    have e2 := Ex.new (o := DkO w r []) hr0
    have e02 := e1.trans e2
    have qr : q ≠ r := fun e => by rw [← e, upd_same] at hr0; cases hr0
    have hr00 : H r = none := Evl.fresh_back e1 hr0
    have pz2 := pair_imp pz fun p z h => rep_ex e02 h
    have ha2 := e02 _ _ ha
    have lz := pair_len pz
    refine q_seq ⟨_, rfl, a, rfl, ⟨_, Evl.sq_of ha2⟩, for_list (K := K) (a := a) (xs := zs) (fun i σ' Hx => ∃ (es rs : List XEnt) (o3 o4 : Option V), σ' = [some (.ref a), some (.ref q), some (.ref r), o3, o4] ∧ Ex H Hx ∧ Hx q = some (DkO w q es) ∧ Hx r = some (DkO w r rs) ∧ Paired (EnP Hx) (ts.take i) es ∧ Paired (fun (p : D × D) (e : XEnt) => e.1 = p.2 ∧ KeyV Hx e.1 e.2.1) (ts.take i) rs)
      ⟨[], [], _, _, rfl, e02, by rw [upd_ne qr]; exact upd_same, upd_same, by rw [List.take_zero]; exact .nil, by rw [List.take_zero]; exact .nil⟩ (fun i σ' Hx _ p => ?_) (fun i x σ' Hx hx pv => ?_) fun σ' Hx pv => ?_⟩
    · obtain ⟨es, rs, o3, o4, rfl, ex, _⟩ := p
      exact Evl.sq_of (ex _ _ ha)
    · obtain ⟨es, rs, o3, o4, rfl, ex, hqx, hrx, pe, pr⟩ := pv
      obtain ⟨p, hp, rz⟩ := pair_back pz hx
      obtain ⟨⟨k1, l1', el1⟩, k2, l2', el2⟩ := okd p (List.mem_of_getElem? hp)
      have il : i < ts.length := (List.getElem?_eq_some_iff.mp hp).1
      have rz := rep_ex ex rz
      obtain ⟨t, ws, rfl, ht, _, pw⟩ := rz
      cases pw with
      | cons w1 pw =>
      cases pw with
      | cons w2 pw =>
      cases pw
      rename_i v1 v2
      refine ⟨t, _, rfl, Evl.st_of ht, rfl, _, _, rfl, _, _, rfl, rfl, ?_⟩
      have kv1 : KeyV Hx p.1 v1 := ⟨kd_le (by decide) k1, .inr ⟨l1', el1⟩, 4, Fs, w1⟩
      have kv2 : KeyV Hx p.2 v2 := ⟨kd_le (by decide) k2, .inr ⟨l2', el2⟩, 4, Fs, w2⟩
      have kes := en_keys pe
      have krs : Keys Hx rs := fun e he => by
        obtain ⟨p, _, r⟩ := Paired.mem2 pr e he
        exact r.2
      have fresh : ∀ {f : D × D → D} {xs : List XEnt}, (∀ p ∈ ts, kdD 3 (f p)) → (ts.map f).Nodup → Paired (fun (p : D × D) (e : XEnt) => e.1 = f p) (ts.take i) xs → valX xs (f p) = none := fun {f xs} hk nd px => valX_none fun y hy z => by
        obtain ⟨p', hp', e'⟩ := Paired.mem2 px y hy
        have hpi : (ts.map f)[i]? = some (f p) := by rw [List.getElem?_map, hp]; rfl
        refine not_take nd hpi ?_
        rw [← nk_inj (hk p' (List.mem_of_mem_take hp')) (hk p (List.mem_of_getElem? hp)) (by rw [← e']; exact z), ← List.map_take]
        exact List.mem_map.mpr ⟨p', hp', rfl⟩
      have n1 : valX es p.1 = none := fresh (f := fun p => p.1) (fun p hp => (okd p hp).1.1) nd1 (pair_imp pe fun _ _ h => h.1)
      have n2 : valX rs p.2 = none := fresh (f := fun p => p.2) (fun p hp => (okd p hp).2.1) nd2 (pair_imp pr fun _ _ h => h.1)
      have le := pair_len pe
      have lr := pair_len pr
      rw [List.length_take] at le lr
      refine Evl.q_when (b := false) (Evl.et_or (a := false) (b := false) (Evl.et_is (Evl.et_test (Evl.ev_op (Evl.ev_var rfl) (Evl.ev_var rfl) (fun Hz ez Q q0 => ⟨q, none, rfl, ⟨es, p.1, .inl (ez _ _ hqx), fun x hx => (kes x hx).ex ez, kv1.ex ez, n1.symm⟩, q0 Hz (Ex.refl _)⟩))) rfl) fun _ => Evl.et_is (Evl.et_test (Evl.ev_op (Evl.ev_var rfl) (Evl.ev_var rfl) (fun Hz ez Q q0 => ⟨r, none, rfl, ⟨rs, p.2, .inl (ez _ _ hrx), fun x hx => (krs x hx).ex ez, kv2.ex ez, n2.symm⟩, q0 Hz (Ex.refl _)⟩))) rfl) (fun h => nomatch h) fun _ Hy ey => ?_
      have hqy := ey _ _ hqx
      have hry := ey _ _ hrx
      refine q_seq ⟨_, rfl, _, rfl, _, rfl, q, es, p.1, rfl, hqy, fun x hx => (kes x hx).ex ey, kv1.ex ey, Evl.sz_lt (by omega), ?_⟩
      rw [putX_none n1]
      have tk1 := Tk.upd (u := DkO w q (es ++ [(p.1, v1, v2)])) hqy (fun ys z => by unfold DkO at z; cases z)
      have hr1 : (upd Hy q (DkO w q (es ++ [(p.1, v1, v2)]))) r = some (DkO w r rs) := by rw [upd_ne (Ne.symm qr)]; exact hry
      have hq1 : (upd Hy q (DkO w q (es ++ [(p.1, v1, v2)]))) q = some (DkO w q (es ++ [(p.1, v1, v2)])) := upd_same
      have pe1 : Paired (EnP (upd Hy q (DkO w q (es ++ [(p.1, v1, v2)])))) (ts.take (i + 1)) (es ++ [(p.1, v1, v2)]) := by
        rw [take_snoc hp]
        exact pair_snoc (pair_imp pe fun a b h => EnP.upd hqy (EnP.ex ey h)) ⟨rfl, (kv1.ex ey).tk tk1, rep_lv 3 (by decide) k2 (rep_upd hqy (fun ys z => by unfold DkO at z; cases z) (fun b z => z.elim) (rep_ex ey w2))⟩
      have ex1 := Ex.mut (o := DkO w q (es ++ [(p.1, v1, v2)])) (ex.trans ey) hq
      generalize (upd Hy q (DkO w q (es ++ [(p.1, v1, v2)]))) = H1 at tk1 hr1 hq1 pe1 ex1 ⊢
      have tkx := (Tk.of ey).trans tk1
      refine ⟨_, rfl, _, rfl, r, rs, p.2, rfl, hr1, fun x hx => (krs x hx).tk tkx, kv2.tk tkx, Evl.sz_lt (by omega), ?_⟩
      rw [putX_none n2]
      refine ⟨es ++ [(p.1, v1, v2)], rs ++ [(p.2, v2, .bl true)], _, _, rfl, Ex.mut ex1 hr00, by rw [upd_ne qr]; exact hq1, upd_same, pair_imp pe1 fun a b h => EnP.upd hr1 h, ?_⟩
      have tk2 := Tk.upd (u := DkO w r (rs ++ [(p.2, v2, V.bl true)])) hr1 (fun ys z => by unfold DkO at z; cases z)
      rw [take_snoc hp]
      exact pair_snoc (pair_imp pr fun a b h => ⟨h.1, h.2.tk (tkx.trans tk2)⟩) ⟨rfl, kv2.tk (tkx.trans tk2)⟩
    · obtain ⟨es, rs, o3, o4, rfl, ex, hqx, hrx, pe, pr⟩ := pv
      rw [← lz, List.take_length] at pe
      exact Evl.s_ret (Evl.ev_var rfl) fun H9 e9 => k H9 q es (ex.trans e9) hq (e9 _ _ hqx) (pair_imp pe fun a b h => EnP.ex e9 h)
end
end Pk

namespace Pk
open PySem PySem.Spec PyProof.Rows L2 Ssb
open Evl (Ex Ev EvT EvL EvA EvU)
/-! ### the law -/
theorem hu64 {A : Around} {k : Nat} (hr : Room k A) : A.units + 64 < cLine := Nat.lt_of_le_of_lt (by omega) hr.units
theorem kd_kN : ∀ {k n : Nat} {d : D}, kdD k d → k < n → kN n d
  | k, n + 1, .non, _, _ => by unfold kN; trivial
  | k, n + 1, .int _, _, _ => by unfold kN; trivial
  | k, n + 1, .str _, _, _ => by unfold kN; trivial
  | 0, n + 1, .tup _, h, _ => h.elim
  | k + 1, n + 1, .tup l, h, hn => fun x hx => kd_kN (h x hx) (by omega)
  | k, n + 1, .lst _, h, _ => by cases k <;> exact h.elim
  | k, n + 1, .bl _, h, _ => by cases k <;> exact h.elim
  | k, n + 1, .dic _, h, _ => by cases k <;> exact h.elim
theorem pair_map {α β γ : Type} {f : α → β} {F : β → γ → Prop} : ∀ {l : List α} {m : List γ}, Paired (fun a c => F (f a) c) l m → Paired F (l.map f) m
  | _, _, .nil => .nil
  | _, _, .cons h t => .cons h (pair_map t)
/-- a rule made of a place -/
theorem mk_rule {C : Addr} {t : TA} {σ : L2.St} {H : Hp} {pl : Str} {Q : VK} (h : EvA t σ H [.str pl]) (hp : pl = "all" ∨ pl = "plain") (k : ∀ H1 p, Ex H H1 → RuleAt C H1 p pl → Q (.ref p) H1) : tMake C (spRInit C) [] E0 t σ H Q :=
  h H (Ex.refl _) _ fun H1 e1 x dx hx hd ne => by
    refine ⟨x, dx, pl, rfl, hp, upd_same, fun H' fr hr => ⟨rfl, k H' x (fun b o hb => ?_) hr⟩⟩
    have hb1 := e1 _ _ hb
    have n1 : b ≠ x := fun z => by rw [z, hx] at hb1; cases hb1
    have n2 : b ≠ dx := fun z => by rw [z, hd] at hb1; cases hb1
    exact fr b o n1 (by rw [upd_ne n1, upd_ne n2]; exact hb1)
theorem ownK_nd {n : Nat} {d : D} (h : NdD n d) : OwnK (ownD d) := by
  cases n with
  | zero => exact h.elim
  | succ n =>
    obtain ⟨kd, ky, ow, bl, rfl, _, _, ⟨l, e, h⟩, _⟩ := h
    exact ⟨h, l, e⟩
theorem ts_ok {pl : Str} {m : Nat} {A B : List D} (hA : ∀ d ∈ A, NdD m d) (hB : ∀ d ∈ B, NdD m d) : ∀ p ∈ tsD pl m A B, OwnK p.1 ∧ OwnK p.2 := fun p hp => by
  obtain ⟨q, hq, rfl⟩ := List.mem_map.mp hp
  obtain ⟨n, d1, d2⟩ := pairs_nd hA hB q hq
  exact ⟨ownK_nd d1, ownK_nd d2⟩
section
variable {P : Program} {w : World} {K : PySem.W.Frag} {mg : Str → Option Value} {base : Heap} {C_Node C_Rule C_InvalidRule : Addr}
def spTree3 : Sp := fun vs H Q E => ∃ m, 1 ≤ m ∧ m ≤ 3 ∧ spTree m vs H Q E
theorem ok_tree3 (T : Txt K mg C_Node C_Rule C_InvalidRule) (R : Prg K mg C_Node C_Rule C_InvalidRule) : ∃ f fd, Fn P w K mg base "_law_tree" 6 ["_law_stream_here", "_law_most", "_law_deep", "_law_place"] spTree3 f fd := by
  obtain ⟨f, fd, at_, F, kp⟩ := R._law_tree
  have G := ok_treeF (P := P) (w := w) (base := base) T R at_ F kp
  refine ⟨f, fd, ⟨fun vs H Q E h => ?_, fun A outer s H args us vs Q E hr he hb hv hs => ?_⟩, at_, kp, (G 1).bd⟩
  · obtain ⟨m, h1, h2, h⟩ := h
    exact (G m).ok.len _ _ _ _ h
  · obtain ⟨m, h1, h2, h⟩ := hs
    exact (G m).ok.run A outer s H args us vs Q E (hr.mono (by omega)) he hb hv h
theorem tree_go {Q : VK} {E : XK} {S c pa : Addr} {t : Int} {H : Hp} (ht : 1 ≤ t ∧ t ≤ 3) (st : StAt H S c) (hpa : H pa = some (.tup [])) (k : ∀ H' q ds, Mv S c H H' → Rep H' 11 (fun b => H b = none) (.lst ds) (.ref q) → ds.length ≤ 6 → (∀ x ∈ ds, NdB 6 3 x) → (∀ g, Own g (ownsD 3 ds)) → Q (.ref q) H') : spTree3 [.ref S, .int 5, .int t, .ref pa] H Q E := by
  obtain ⟨m, rfl⟩ : ∃ m : Nat, t = (m : Int) := ⟨t.toNat, by omega⟩
  have h1 : 1 ≤ m := by omega
  have h2 : m ≤ 3 := by omega
  exact ⟨m, h1, h2, S, c, pa, 5, [], rfl, st, by decide, by decide, hpa, by show 0 + 2 * m ≤ 50; omega, h1, fun H' q ds mv r l n pd => k H' q ds mv (rep_le (by omega) r) l (fun x hx => NdB.le (Nat.le_refl _) h2 (n x hx)) fun g => by rw [owns_le h2 n]; exact pl_own pd⟩
theorem table_go {σ : L2.St} {H : Hp} {r v1 v2 : Addr} {j1 j2 : Nat} {pl : Str} {A B : List D} {xs ys : List V} {Q : VK} (h11 : σ[11]? = some (some (.ref r))) (h1 : σ[j1]? = some (some (.ref v1))) (h2 : σ[j2]? = some (some (.ref v2))) (hr : RuleAt C_Rule H r pl) (hv1 : H v1 = some (.lst xs)) (hv2 : H v2 = some (.lst ys))
    (n1 : Paired (fun d x => NodeR C_Node K H 3 d x) A xs) (n2 : Paired (fun d x => NodeR C_Node K H 3 d x) B ys) (hA : ∀ d ∈ A, NdD 3 d) (hB : ∀ d ∈ B, NdD 3 d) (l1 : A.length ≤ 24) (l2 : B.length ≤ 24) (uA : (ownsD 3 A).Nodup) (uB : (ownsD 3 B).Nodup)
    (k : ∀ H' q es, Ex H H' → H q = none → H' q = some (DkO w q es) → Paired (EnP H') (tsD pl 3 A B) es → Q (.ref q) H') :
    tCall (spTable w) [] E0 (tCons (tCall (spMatch C_Node C_Rule K 3) [] E0 (tCons (tVar 11) (tCons (tVar j1) (tCons (tVar j2) tNil)))) tNil) σ H Q := by
  refine ⟨_, h11, _, h1, _, h2, r, v1, v2, pl, A, B, xs, ys, rfl, hr, hv1, hv2, n1, n2, hA, hB, l1, l2, by decide, fun H3 q3 zs3 e3 h0 hq3 p3 => ?_⟩
  obtain ⟨d1, d2⟩ := ts_nd (pl := pl) hA hB uA uB
  have len : (tsD pl 3 A B).length ≤ 30000 := by
    unfold tsD
    rw [List.length_map]
    exact Nat.le_trans (pairs_len l2 hB) (by decide)
  exact ⟨q3, tsD pl 3 A B, zs3, rfl, hq3, pair_map (F := fun (p : D × D) z => Rep H3 5 Fs (.tup [p.1, p.2]) z) p3, ts_ok hA hB, d1, d2, len, fun H4 q4 es e4 h0' h4 pe => k H4 q4 es (e3.trans e4) (Evl.fresh_back e3 h0') h4 pe⟩
end
theorem main_ok {l : PySem.W.OpenLaw} {w : World} {K : PySem.W.Frag} {mg : Str → Option Value} {fa C_Node C_Rule C_InvalidRule : Addr} (T : Txt K mg C_Node C_Rule C_InvalidRule) (R : Prg K mg C_Node C_Rule C_InvalidRule) (hfa : mg "law" = some (.ref fa)) :
    ∃ fd : FuncData, (∀ (s : Shared) (v : Value), BindsTo s fd ⟨[v], []⟩ [("_law_script", v)]) ∧ ∀ base : Heap, K.In base → base.Ns mainGlobals mg → FnOk l.prog w K mg base CX0 60 fa fd ["_law_script"] (spLaw K) := by
  obtain ⟨f, fd, at_, F, kp⟩ := R.law
  have e := hfa.symm.trans at_
  cases e
  obtain ⟨oc, od, kV, doc, pm, an, cdv0, ct, osl, rfl, lk, hcd⟩ := F.ex
  refine ⟨PySem.W.fnOf "law" "law" (defArgs s_law) (defBody s_law) (defScope s_law) .none kV doc pm an cdv0 ct, fun s v => .of_eq rfl, fun base _ _ => ?_⟩
  obtain ⟨_, _, G__law_stream⟩ := ok__law_stream (P := l.prog) (w := w) (base := base) T R
  obtain ⟨_, _, G__law_draw⟩ := ok__law_draw (P := l.prog) (w := w) (base := base) T R
  obtain ⟨_, _, G__law_tree⟩ := ok_tree3 (P := l.prog) (w := w) (base := base) T R
  obtain ⟨_, _, G__law_edited⟩ := ok__law_edited (P := l.prog) (w := w) (base := base) T R 4
  obtain ⟨_, _, G__law_built⟩ := ok__law_built (P := l.prog) (w := w) (base := base) T R 3
  obtain ⟨_, _, G__law_table⟩ := ok__law_table (P := l.prog) (w := w) (base := base) T R
  obtain ⟨_, _, G_match⟩ := ok_match (P := l.prog) (w := w) (base := base) T R 3
  obtain ⟨_, _, G_Rule⟩ := ok_Rule_init (P := l.prog) (w := w) (base := base) T R
  refine F.ok sc_law (fun vs H Q E h => ?_) (fun cdv A outer s H vs Q E hr h => ?_)
  · obtain ⟨a, ns, rfl, _⟩ := h; rfl
  · obtain ⟨a, ns, rfl, hs, ns63, k⟩ := h
    refine ⟨_, (pss_cons (ps_set (i := 1) sc_law.nd rfl (Or.inl rfl) (pcl G__law_stream hr (pa_cons (pv 0) pa_nil)))
  (pss_cons (ps_set (i := 2) sc_law.nd rfl (Or.inl rfl) (pe_cmpR op_eq (pcl G__law_draw hr (pa_cons (pv 1) (pa_cons pe_int pa_nil))) pe_int (nomark _)))
  (pss_cons (ps_set (i := 3) sc_law.nd rfl (Or.inl rfl) (pe_lst (pa_cons pe_int pa_nil)))
  (pss_cons (ps_set (i := 4) sc_law.nd rfl (Or.inl rfl) (pcl G__law_tree hr (pa_cons (pv 1) (pa_cons pe_int (pa_cons (pe_op op_add pe_int (pcl G__law_draw hr (pa_cons (pv 1) (pa_cons pe_int pa_nil)))) (pa_cons (pe_tup pa_nil) pa_nil))))))
  (pss_cons (ps_set (i := 5) sc_law.nd rfl (Or.inl rfl) (pcl G__law_edited hr (pa_cons (pv 1) (pa_cons (pv 4) (pa_cons (pv 3) pa_nil)))))
  (pss_cons (ps_set (i := 6) sc_law.nd rfl (Or.inl rfl) (pcl G__law_edited hr (pa_cons (pv 1) (pa_cons (pv 5) (pa_cons (pv 3) pa_nil)))))
  (Evl.pss_cut (ps_if (pt_val (pv 2)) (pss_one (ps_set (i := 6) sc_law.nd rfl (Or.inl rfl) (pcl G__law_edited hr (pa_cons (pv 1) (pa_cons (pv 4) (pa_cons (pv 3) pa_nil)))))) pss_nil)
  (pss_cons (ps_set (i := 7) sc_law.nd rfl (Or.inl rfl) (pcl G__law_built hr (pa_cons (pv 4) pa_nil)))
  (pss_cons (ps_set (i := 8) sc_law.nd rfl (Or.inl rfl) (pcl G__law_built hr (pa_cons (pv 5) pa_nil)))
  (pss_cons (ps_set (i := 9) sc_law.nd rfl (Or.inl rfl) (pcl G__law_built hr (pa_cons (pv 6) pa_nil)))
  (pss_cons (ps_for PassesOwn.never rfl (show PI _ _ _ (iTup K _) from pi_tup (pe_tup (pa_cons pe_str (pa_cons pe_str pa_nil)))) (pg_name (i := 10) sc_law.nd rfl (Or.inl rfl))
    (pss_cons (ps_set (i := 11) sc_law.nd rfl (Or.inl rfl) (pmkF G_Rule T.mk_Rule T.kp_Rule T.at_Rule hr (pa_cons (pv 10) pa_nil)))
  (pss_cons (ps_set (i := 12) sc_law.nd rfl (Or.inl rfl) (pcl G__law_table hr (pa_cons (pcl G_match hr (pa_cons (pv 11) (pa_cons (pv 7) (pa_cons (pv 8) pa_nil)))) pa_nil)))
  (pss_cons (ps_set (i := 13) sc_law.nd rfl (Or.inl rfl) (pcl G__law_table hr (pa_cons (pcl G_match hr (pa_cons (pv 11) (pa_cons (pv 8) (pa_cons (pv 9) pa_nil)))) pa_nil)))
  (pss_cons (ps_set (i := 14) sc_law.nd rfl (Or.inl rfl) (pcl G__law_table hr (pa_cons (pcl G_match hr (pa_cons (pv 11) (pa_cons (pv 7) (pa_cons (pv 9) pa_nil)))) pa_nil)))
  (pss_cons (ps_if (PW.pt (pw_or (pt_cmpR op_isN (pv 12) pe_non (nomark _)) (pw_or (pt_cmpR op_isN (pv 13) pe_non (nomark _)) (pw_or1 (pt_cmpR op_isN (pv 14) pe_non (nomark _)))))) pss_never pss_nil)
  (pss_one (ps_lock (ps_for PassesOwn.never rfl (show PI _ _ _ (iNKeys w _) from pi_nkeys (pv 12)) (pg_name (i := 15) sc_law.nd rfl (Or.inl rfl))
    (pss_cons (ps_set (i := 16) sc_law.nd rfl (Or.inl rfl) (show PE _ _ (tNGet w _ _) from pe_nget (hu20 hr) (pv 12) (pv 15) (fun _ _ => rfl)))
  (pss_cons (ps_if (PW.pt (pw_and (pt_cmpR (r := rNIn w) (op_nin (hu20 hr)) (pv 16) (pv 13) (by rfl)) (pw_and1 (pt_cmpR (r := rNeT) (op_neT (hu64 hr)) (show PE _ _ (tNGet1 w _ _) from pe_nget1 (hu20 hr) (pv 14) (pa_cons (pv 15) pa_nil)) (show PE _ _ (tNGet w _ _) from pe_nget (hu20 hr) (pv 13) (pv 16) (fun _ _ => rfl)) (nomark _))))) pss_never pss_nil)
  (pss_one (ps_if (PW.pt (pw_and (pt_cmpR (r := rNIn w) (op_nin (hu20 hr)) (pv 15) (pv 14) (by rfl)) (pw_and1 (pt_cmpR (r := rNeT) (op_neT (hu64 hr)) (show PE _ _ (tNGet1 w _ _) from pe_nget1 (hu20 hr) (pv 13) (pa_cons (pv 16) pa_nil)) (show PE _ _ (tNGet w _ _) from pe_nget (hu20 hr) (pv 14) (pv 15) (fun _ _ => rfl)) (nomark _))))) pss_never pss_nil)))))))))))))
  (pss_one (ps_ret pe_bl))))))))))))), ?_⟩
    refine q_go ⟨_, rfl, a, ns, rfl, hs, fun H1 S c st => ?_⟩
    refine q_go ?_
    refine dr_go (m := 2) (Evl.ea_cons (Evl.ev_var rfl) (Evl.ea_cons Evl.ev_c Evl.ea_nil)) st (by decide) (by decide) fun H2 ap m2 _ _ => ⟨rfl, ?_⟩
    refine q_go ⟨(by show 1 ≤ sizeLine; decide), fun pf hpf => ?_⟩
    obtain ⟨nS, nc⟩ := m2.z.someS hpf
    have st2 := m2.z.ex (Ex.new (o := .lst [.int 0]) hpf)
    have hf2 : (upd H2 pf (.lst [.int 0])) pf = some (.lst [.int 0]) := upd_same
    generalize (upd H2 pf (.lst [.int 0])) = H2' at st2 hf2 ⊢
    refine q_go ⟨_, rfl, ?_⟩
    refine dr_go (m := 3) (Evl.ea_cons (Evl.ev_var rfl) (Evl.ea_cons Evl.ev_c Evl.ea_nil)) st2 (by decide) (by decide) fun H3 z m3 z0 z1 => ⟨_, _, rfl, rfl, (by show 0 ≤ sizeLine; decide), fun pt hpt => ?_⟩
    have m3t := Mv.new (o := .tup []) m3.z hpt
    have hf3 := m3t.fr _ _ nS nc (m3.fr _ _ nS nc hf2)
    refine tree_go ⟨by omega, by omega⟩ m3t.z upd_same fun H4 q4 ds m4 rds lds nds ods => ?_
    have hf4 := m4.fr _ _ nS nc hf3
    have fa4 : FrAt H4 S c pf := ⟨m4.z, nS, nc, 0, hf4⟩
    have hP1 : ∀ b, (upd H3 pt (.tup [])) b = none → b ≠ S ∧ b ≠ c ∧ b ≠ pf := fun b hb => ⟨(m3t.z.someS hb).1, (m3t.z.someS hb).2, fun e => by rw [e, hf3] at hb; cases hb⟩
    have nds24 : ∀ x ∈ ds, NdD 3 x := fun x hx => NdB.le (by decide) (Nat.le_refl _) (nds x hx)
    refine q_go ⟨_, rfl, _, rfl, _, rfl, S, c, pf, q4, 11, _, ds, 6, 0, rfl, fa4, hf4, rds, hP1, nds, lds, by decide, fun H6 q6 es g1 m6 res les nes hf6 tr1 => ?_⟩
    have rds6 := rep_mf m6 hP1 rds
    have hP2 : ∀ b, H4 b = none → b ≠ S ∧ b ≠ c ∧ b ≠ pf := fun b hb => fa4.some3 hb
    have oes := tr1.own (ods 0)
    refine q_go ⟨_, rfl, _, rfl, _, rfl, S, c, pf, q6, 11, _, es, 12, g1, rfl, m6.z, hf6, res, hP2, nes, les, by decide, fun H8 q8 fs g2 m8 rfs lfs nfs hf8 tr2 => ?_⟩
    have rds8 := rep_mf m8 hP1 rds6
    have res8 := rep_mf m8 hP2 res
    have nes24 : ∀ x ∈ es, NdD 3 x := fun x hx => NdB.le (by decide) (Nat.le_refl _) (nes x hx)
    refine Evl.q_cut (M := fun σ' Hx => ∃ (q9 : Addr) (fs : List D) (S2 : Addr → Prop) (n2 : Nat), σ' = [some (.ref a), some (.ref S), some (.bl (decide (V.int ap = V.int 1))), some (.ref pf), some (.ref q4), some (.ref q6), some (.ref q9), none, none, none, none, none, none, none, none, none, none] ∧ Rep Hx 11 (fun b => (upd H3 pt (.tup [])) b = none) (.lst ds) (.ref q4) ∧ Rep Hx 11 (fun b => H4 b = none) (.lst es) (.ref q6) ∧ Rep Hx n2 S2 (.lst fs) (.ref q9) ∧ fs.length ≤ 24 ∧ (∀ x ∈ fs, NdD 3 x) ∧ (ownsD 3 fs).Nodup) ?_ ?_
    · refine Evl.s_when (b := decide (V.int ap = V.int 1)) (Evl.et_B (Evl.ev_var rfl)) (fun hb H9 e9 => ?_) fun hb H9 e9 => ⟨q8, fs, _, _, rfl, rep_ex e9 rds8, rep_ex e9 res8, rep_ex e9 rfs, lfs, nfs, (tr2.own oes).1⟩
      refine ⟨_, rfl, _, rfl, _, rfl, S, c, pf, q4, 11, _, ds, 6, g2, rfl, m8.z.ex e9, e9 _ _ hf8, rep_ex e9 rds8, hP1, nds, lds, by decide, fun H10 q10 gs g3 m10 rgs lgs ngs hf10 tr3 => ?_⟩
      exact ⟨q10, gs, _, _, rfl, rep_mf m10 hP1 (rep_ex e9 rds8), rep_mf m10 hP2 (rep_ex e9 res8), rgs, by omega, fun x hx => NdB.le (by decide) (Nat.le_refl _) (ngs x hx), (tr3.own (ods g2)).1⟩
    have ods1 := (ods 0).1
    have oes1 := oes.1
    clear nds ods oes tr1 tr2 lfs nfs rfs
    rintro σ' H0 ⟨q9, fs, S3, n3, rfl, r1, r2, r3, lfs, nfs, ofs⟩
    have lds : ds.length ≤ 24 := by omega
    have les : es.length ≤ 24 := by omega
    refine q_go ⟨_, rfl, q4, 11, _, ds, rfl, r1, nds24, by omega, by decide, fun Ha qa xs ea hqa0 hqa nA => ?_⟩
    refine q_go ⟨_, rfl, q6, 11, _, es, rfl, rep_ex ea r2, nes24, by omega, by decide, fun Hb qb ys eb hqb0 hqb nB => ?_⟩
    refine q_go ⟨_, rfl, q9, n3, S3, fs, rfl, rep_ex (ea.trans eb) r3, nfs, by omega, by decide, fun Hc qc zs ec hqc0 hqc nC => ?_⟩
    have hqa := (eb.trans ec) _ _ hqa
    have hqb := ec _ _ hqb
    have nA := pair_imp nA fun a b h => NodeR.ex (eb.trans ec) h
    have nB := pair_imp nB fun a b h => NodeR.ex ec h
    clear r1 r2 r3 ea eb ec hqc0 hqb0 hqa0
    refine q_seq ⟨(by show 2 ≤ sizeLine; decide), fun pp hpp => ⟨pp, rfl, ⟨_, Evl.st_of upd_same⟩, ?_⟩⟩
    have ep := Ex.new (o := .tup [.str "all", .str "plain"]) hpp
    refine for_tup (xs := [.str "all", .str "plain"]) (fun i σ' Hx => ∃ o10 o11 o12 o13 o14 o15 o16 : Option V, σ' = [some (.ref a), some (.ref S), some (.bl (decide (V.int ap = V.int 1))), some (.ref pf), some (.ref q4), some (.ref q6), some (.ref q9), some (.ref qa), some (.ref qb), some (.ref qc), o10, o11, o12, o13, o14, o15, o16] ∧ Ex (upd Hc pp (.tup [.str "all", .str "plain"])) Hx) ⟨_, _, _, _, _, _, _, rfl, Ex.refl _⟩ (fun i σ' Hx _ h => ?_) (fun i v σ' Hx hv pv => ?_) fun σ' Hx pv => ?_
    · obtain ⟨_, _, _, _, _, _, _, _, ex⟩ := h
      exact Evl.st_of (ex _ _ upd_same)
    · obtain ⟨o10, o11, o12, o13, o14, o15, o16, rfl, ex⟩ := pv
      have exb := ep.trans ex
      obtain ⟨pl, rfl, hpl⟩ : ∃ pl, v = .str pl ∧ (pl = "all" ∨ pl = "plain") := by
        have hm := List.mem_of_getElem? hv
        rcases List.mem_cons.mp hm with rfl | hm
        · exact ⟨_, rfl, .inl rfl⟩
        · rw [List.mem_singleton.mp hm]; exact ⟨_, rfl, .inr rfl⟩
      refine gname_go ?_
      refine q_go (mk_rule (pl := pl) (Evl.ea_cons (Evl.ev_var rfl) Evl.ea_nil) hpl fun H1 r e1 hr1 => ?_)
      have ex1 := exb.trans e1
      obtain ⟨dx, hr1⟩ := hr1
      refine q_go (table_go (pl := pl) rfl rfl rfl ⟨dx, hr1⟩ (ex1 _ _ hqa) (ex1 _ _ hqb) (pair_imp nA fun a b h => NodeR.ex ex1 h) (pair_imp nB fun a b h => NodeR.ex ex1 h) nds24 nes24 lds les ods1 oes1 fun H2 td es12 e2 htd0 htd pe12 => ?_)
      have ex2 := ex1.trans e2
      refine q_go (table_go (pl := pl) rfl rfl rfl ⟨dx, e2 _ _ hr1⟩ (ex2 _ _ hqb) (ex2 _ _ hqc) (pair_imp nB fun a b h => NodeR.ex ex2 h) (pair_imp nC fun a b h => NodeR.ex ex2 h) nes24 nfs les lfs oes1 ofs fun H3 on es23 e3 hon0 hon pe23 => ?_)
      have ex3 := ex2.trans e3
      refine q_go (table_go (pl := pl) rfl rfl rfl ⟨dx, (e2.trans e3) _ _ hr1⟩ (ex3 _ _ hqa) (ex3 _ _ hqc) (pair_imp nA fun a b h => NodeR.ex ex3 h) (pair_imp nC fun a b h => NodeR.ex ex3 h) nds24 nfs lds lfs ods1 ofs fun H4 ac es13 e4 hac0 hac pe13 => ?_)
      have no : ∀ {x y : Addr} {Hx : Hp} {u : HO}, Hx x = some u → Hx y = none → x ≠ y := fun h1 h2 e => by rw [e, h2] at h1; cases h1
      have n1 : on ≠ td := (no htd hon0).symm
      have n2 : ac ≠ td := (no (e3 _ _ htd) hac0).symm
      refine Evl.q_when (b := false) (Evl.et_or (a := false) (b := false) (Evl.et_is (Evl.et_test (Evl.ev_op (Evl.ev_var rfl) Evl.ev_c rv_isN)) (by simp)) fun _ => Evl.et_or (a := false) (b := false) (Evl.et_is (Evl.et_test (Evl.ev_op (Evl.ev_var rfl) Evl.ev_c rv_isN)) (by simp)) fun _ => Evl.et_is (Evl.et_test (Evl.ev_op (Evl.ev_var rfl) Evl.ev_c rv_isN)) (by simp)) (fun h => nomatch h) fun _ H5 e5 => ?_
      have htd5 := ((e3.trans e4).trans e5) _ _ htd
      have hon5 := (e4.trans e5) _ _ hon
      have hac5 := e5 _ _ hac
      have pe12 := pair_imp pe12 fun a b h => EnP.ex ((e3.trans e4).trans e5) h
      have pe23 := pair_imp pe23 fun a b h => EnP.ex (e4.trans e5) h
      have pe13 := pair_imp pe13 fun a b h => EnP.ex e5 h
      have k12 := ts_ok (pl := pl) nds24 nes24
      have k23 := ts_ok (pl := pl) nes24 nfs
      have k13 := ts_ok (pl := pl) nds24 nfs
      have d12 := (ts_nd (pl := pl) nds24 nes24 ods1 oes1).1
      have d23 := (ts_nd (pl := pl) nes24 nfs oes1 ofs).1
      have d13 := (ts_nd (pl := pl) nds24 nfs ods1 ofs).1
      refine for_lockN htd5 (fun od => Evl.ev_var rfl) (fun od c σ' G => ∃ o15 o16 : Option V, σ' = [some (.ref a), some (.ref S), some (.bl (decide (V.int ap = V.int 1))), some (.ref pf), some (.ref q4), some (.ref q6), some (.ref q9), some (.ref qa), some (.ref qb), some (.ref qc), some (.str pl), some (.ref r), some (.ref td), some (.ref on), some (.ref ac), o15, o16] ∧ Ex (upd H5 td (.frz od (DkO w td es12))) G)
        (fun od G e => ⟨_, _, rfl, e⟩) (fun od c σ' G _ p => by obtain ⟨_, _, _, e⟩ := p; exact e _ _ upd_same) (fun od c e σ' G he pv => ?_) fun od σ' G pv => ?_
      · obtain ⟨o15, o16, rfl, eG⟩ := pv
        have up : ∀ {ts : List (D × D)} {xs : List XEnt}, Paired (EnP H5) ts xs → Paired (EnP G) ts xs := fun h => pair_imp h fun a b h => EnP.ex eG (EnP.upd htd5 h)
        have p12 := up pe12
        have p23 := up pe23
        have p13 := up pe13
        have htG := eG _ _ (upd_same (H := H5) (a := td) (o := .frz od (DkO w td es12)))
        have hoG := eG _ _ (show (upd H5 td (.frz od (DkO w td es12))) on = _ by rw [upd_ne n1]; exact hon5)
        have haG := eG _ _ (show (upd H5 td (.frz od (DkO w td es12))) ac = _ by rw [upd_ne n2]; exact hac5)
        obtain ⟨p, hp, ep1, kvo, rp⟩ := pair_back p12 he
        obtain ⟨o, x⟩ := p
        have ep1 : e.1 = o := ep1
        have rp : Rep G 5 Fs x e.2.2 := rp
        rw [ep1] at kvo
        have hm12 := List.mem_of_getElem? hp
        obtain ⟨ko, kx, lx, elx⟩ := k12 _ hm12
        have kvx : KeyV G x e.2.2 := ⟨kd_le (by decide) kx, .inr ⟨lx, elx⟩, 5, Fs, rp⟩
        have v12 : valX es12 o = some e.2.2 := by rw [← ep1]; exact valX_at (en_nd p12 (fun p h => (k12 p h).1) d12) he
        have y12 := en_keys p12
        have y23 := en_keys p23
        have y13 := en_keys p13
        have kx3 : kdD 3 x := kx
        have ko3 : kdD 3 o := ko.1
        refine gname_go ?_
        refine q_go ⟨_, rfl, _, rfl, td, e.2.2, rfl, ⟨es12, o, .inr ⟨od, htG⟩, y12, kvo, v12.symm⟩, ?_⟩
        have ne : ∀ {b : D} {u v : V} {Hy : Hp}, (∃ l, b = .tup l) → kdD 3 b → Rep Hy 5 Fs b u → Rep Hy 5 Fs b v → Evl.RV rNeT u v Hy (.bl false) := fun {b u v Hy} hb kb ru rv Hz ez Q q => by
          obtain ⟨l, rfl⟩ := hb
          exact ⟨5, 5, Fs, Fs, l, by decide, rep_ex ez ru, rep_ex ez rv, kd_kN kb (by decide), q Hz (Ex.refl _)⟩
        have inE : ∀ {Hy : Hp} {t : Addr} {xs : List XEnt} {d : D} {y : V} {b : Option V}, Hy t = some (DkO w t xs) → Keys Hy xs → KeyV Hy d y → valX xs d = b → Evl.RV (rNIn w) y (.ref t) Hy (.bl b.isSome) := fun {Hy t xs d y b} ht hk hd hv Hz ez Q q => ⟨t, b, rfl, ⟨xs, d, .inl (ez _ _ ht), fun x hx => (hk x hx).ex ez, hd.ex ez, hv.symm⟩, q Hz (Ex.refl _)⟩
        have getE : ∀ {Hy : Hp} {σ : L2.St} {i j : Nat} {t : Addr} {xs : List XEnt} {d : D} {y v : V}, σ[i]? = some (some (.ref t)) → σ[j]? = some (some y) → Hy t = some (DkO w t xs) → Keys Hy xs → KeyV Hy d y → valX xs d = some v → Ev (tNGet w (tVar i) (tVar j)) σ Hy v := fun {Hy σ i j t xs d y v} hi hj ht hk hd hv Hz ez Q q => ⟨_, hi, _, hj, t, v, rfl, ⟨xs, d, .inl (ez _ _ ht), fun x hx => (hk x hx).ex ez, hd.ex ez, hv.symm⟩, q Hz (Ex.refl _)⟩
        have get1 : ∀ {Hy : Hp} {σ : L2.St} {i j : Nat} {t : Addr} {xs : List XEnt} {d : D} {y v : V}, σ[i]? = some (some (.ref t)) → σ[j]? = some (some y) → Hy t = some (DkO w t xs) → Keys Hy xs → KeyV Hy d y → valX xs d = some v → Ev (tNGet1 w (tVar i) (tCons (tVar j) tNil)) σ Hy v := fun {Hy σ i j t xs d y v} hi hj ht hk hd hv Hz ez Q q => ⟨_, hi, ⟨t, rfl, xs, .inl (ez _ _ ht), fun x hx => (hk x hx).ex ez⟩, _, hj, t, y, some v, rfl, rfl, ⟨xs, d, .inl (ez _ _ ht), fun x hx => (hk x hx).ex ez, hd.ex ez, hv.symm⟩, q Hz (Ex.refl _)⟩
        refine Evl.q_when (b := false) ?_ (fun h => nomatch h) fun _ Hy ey => ?_
        · cases hv : valX es23 x with
          | none => exact Evl.et_is (Evl.et_and (a := false) (b := true) (Evl.et_test (Evl.ev_op (Evl.ev_var rfl) (Evl.ev_var rfl) (inE hoG y23 kvx hv))) fun h => nomatch h) rfl
          | some v =>
            obtain ⟨b, hb, rb⟩ := en_val p23 (fun p h => (k23 p h).1) kx3 hv
            have h13 := ts_on (pl := pl) (m := 3) (A := ds) (B := es) (C := fs) nds24 nes24 nfs oes1 hm12 hb
            obtain ⟨u, hu, ru⟩ := en_of p13 (fun p h => (k13 p h).1) d13 h13
            exact Evl.et_is (Evl.et_and (a := true) (b := false) (Evl.et_test (Evl.ev_op (Evl.ev_var rfl) (Evl.ev_var rfl) (inE hoG y23 kvx hv))) fun _ => Evl.et_test (Evl.ev_op (get1 rfl rfl haG y13 kvo hu) (getE rfl rfl hoG y23 kvx hv) (ne (k23 _ hb).2.2 (k23 _ hb).2.1 ru rb))) rfl
        · have hoY := ey _ _ hoG
          have haY := ey _ _ haG
          have y23 : Keys Hy es23 := fun x hx => (y23 x hx).ex ey
          have y13 : Keys Hy es13 := fun x hx => (y13 x hx).ex ey
          have kvo := kvo.ex ey
          have kvx := kvx.ex ey
          refine Evl.s_when (b := false) ?_ (fun h => nomatch h) fun _ Hz ez => ⟨_, _, rfl, eG.trans (ey.trans ez)⟩
          cases hv : valX es13 o with
          | none => exact Evl.et_is (Evl.et_and (a := false) (b := true) (Evl.et_test (Evl.ev_op (Evl.ev_var rfl) (Evl.ev_var rfl) (inE haY y13 kvo hv))) fun h => nomatch h) rfl
          | some v =>
            obtain ⟨b, hb, rb⟩ := en_val p13 (fun p h => (k13 p h).1) ko3 hv
            have h23 := ts_back (pl := pl) (m := 3) (A := ds) (B := es) (C := fs) nds24 nes24 nfs ods1 hm12 hb
            obtain ⟨u, hu, ru⟩ := en_of p23 (fun p h => (k23 p h).1) d23 h23
            exact Evl.et_is (Evl.et_and (a := true) (b := false) (Evl.et_test (Evl.ev_op (Evl.ev_var rfl) (Evl.ev_var rfl) (inE haY y13 kvo hv))) fun _ => Evl.et_test (Evl.ev_op (get1 rfl rfl hoY y23 kvx hu) (getE rfl rfl haY y13 kvo hv) (ne (k13 _ hb).2.2 (k13 _ hb).2.1 (rep_ex ey ru) (rep_ex ey rb)))) rfl
      · obtain ⟨o15, o16, rfl, eG⟩ := pv
        exact ⟨_, _, _, _, _, _, _, rfl, ex.trans (((e1.trans e2).trans ((e3.trans e4).trans e5)).trans (unlock htd5 eG))⟩
    · obtain ⟨o10, o11, o12, o13, o14, o15, o16, rfl, ex⟩ := pv
      dsimp only
      exact Evl.s_ret Evl.ev_c fun H9 e9 => k H9
end Pk

namespace Pk
open PySem PySem.Spec PyProof.Rows L2 Ssb
theorem all_mk {t_c1 t_c2 : Tok} {l : PySem.W.OpenLaw} {w : World} {K : PySem.W.Frag} {h : Heap} {mg : Str → Option Value} {fa C_Node C_Rule C_InvalidRule : Addr} (X : K.In h) (G : h.Ns mainGlobals mg) (hfa : mg "law" = some (.ref fa))
    (aNode : PySem.W.nsIn K mainGlobals "Node" = some (some (.ref C_Node)))
    (pgNode : PySem.W.plainGet K C_Node Str.empty = true)
    (hdNode : PySem.W.hasDictIn K C_Node = true)
    (poNode : PySem.W.plainOver K C_Node = true)
    (saNode : PySem.W.findIn K (.ref C_Node) "__setattr__" = some (some (.builtin "object.__setattr__")))
    (mkNode : PySem.W.makesIn K C_Node = true)
    (kcNode : PySem.W.keepIn K (.ref C_Node) = true)
    (nNodekind : PySem.W.findIn K (.ref C_Node) "kind" = some none)
    (nNodekey : PySem.W.findIn K (.ref C_Node) "key" = some none)
    (nNodeowner : PySem.W.findIn K (.ref C_Node) "owner" = some none)
    (nNodeinside : PySem.W.findIn K (.ref C_Node) "inside" = some none)
    (aRule : PySem.W.nsIn K mainGlobals "Rule" = some (some (.ref C_Rule)))
    (pgRule : PySem.W.plainGet K C_Rule Str.empty = true)
    (hdRule : PySem.W.hasDictIn K C_Rule = true)
    (poRule : PySem.W.plainOver K C_Rule = true)
    (saRule : PySem.W.findIn K (.ref C_Rule) "__setattr__" = some (some (.builtin "object.__setattr__")))
    (mkRule : PySem.W.makesIn K C_Rule = true)
    (kcRule : PySem.W.keepIn K (.ref C_Rule) = true)
    (nRuleplace : PySem.W.findIn K (.ref C_Rule) "place" = some none)
    (aInvalidRule : PySem.W.nsIn K mainGlobals "InvalidRule" = some (some (.ref C_InvalidRule)))
    (ovInvalidRule : PySem.W.excOver K C_InvalidRule exBm = true)
    (mdInvalidRule : PySem.W.excInitIn K C_InvalidRule exBm "Exception.__new__" = true)
    (hdInvalidRule : PySem.W.hasDictIn K C_InvalidRule = true)
    (saInvalidRule : PySem.W.findIn K (.ref C_InvalidRule) "__setattr__" = some (some (.builtin "object.__setattr__")))
    (ecInvalidRule : PySem.W.subIn K (.ref C_InvalidRule) (.type "BaseException") = some true)
    (tyInvalidRule : PySem.W.typeIn K (.ref C_InvalidRule) = some (.type "type"))
    (kcInvalidRule : PySem.W.keepIn K (.ref C_InvalidRule) = true)
    (gaInvalidRule : PySem.W.findIn K (.ref C_InvalidRule) "__getattribute__" = some (some (.builtin "BaseException.__getattribute__")))
    (ggInvalidRule : PySem.W.findIn K (.ref C_InvalidRule) "__getattr__" = some none)
    (owInvalidRule : PySem.W.exmOne K (.ref C_InvalidRule) (.ref C_InvalidRule) = some true)
    (klInvalidRule : PySem.W.findIn K (.ref C_InvalidRule) "__class__" = some (some (.builtin "object.__class__")))
    (knInvalidRule : PySem.W.specialIn K (.builtin "object.__class__") "__get__" = some (some (.builtin "getset_descriptor.__get__")))
    (ktInvalidRule : PySem.W.takesIn K (.builtin "object.__class__") = some true)
    (kmInvalidRule : PySem.W.mroIn K C_InvalidRule (.type "object") = some true)
    (nInvalidRuleplace : PySem.W.findIn K (.ref C_InvalidRule) "place" = some none)
    (seInvalidRule : PySem.W.kitOne K (.ref C_InvalidRule) (.ref C_InvalidRule) = some true)
    (r1 : PySem.W.readsIn K C_Rule (.type "type") = true)
    (r2 : PySem.W.specialIn K (.ref C_Rule) "__getattribute__" = some (some (.builtin "type.__getattribute__")))
    (c1 : PySem.W.findCls K (.ref C_Rule) (.type "type") "ALL" = some (.val (.str "all" t_c1)))
    (c2 : PySem.W.findCls K (.ref C_Rule) (.type "type") "PLAIN" = some (.val (.str "plain" t_c2)))
    (z_enumerate : PySem.W.nsIn K mainGlobals "enumerate" = some none)
    (z_int : PySem.W.nsIn K mainGlobals "int" = some none)
    (z_len : PySem.W.nsIn K mainGlobals "len" = some none)
    (z_list : PySem.W.nsIn K mainGlobals "list" = some none)
    (z_range : PySem.W.nsIn K mainGlobals "range" = some none)
    (z_zip : PySem.W.nsIn K mainGlobals "zip" = some none)
    (z_tuple : PySem.W.nsIn K mainGlobals "tuple" = some none)
    (d_Node_init : ∃ t0 : Addr, (∃ o n, K.lookup t0 = some o ∧ o.cls = .type "tuple" ∧ o.data = .seq #[] n) ∧ HereMD K C_Node "__init__" "Node.__init__" s_Node_init [.ref t0])
    (d_Node_below : HereM K C_Node "below" "Node.below" s_Node_below)
    (d_Rule_init : HereMD K C_Rule "__init__" "Rule.__init__" s_Rule_init [.str "all"])
    (d_Rule___call__ : HereM K C_Rule "__call__" "Rule.__call__" s_Rule___call__)
    (d_match : Here K mg "match" s_match)
    (d_matched : Here K mg "matched" s_matched)
    (d__law_stream : Here K mg "_law_stream" s__law_stream)
    (d__law_draw : Here K mg "_law_draw" s__law_draw)
    (d__law_tree_key : Here K mg "_law_tree_key" s__law_tree_key)
    (d__law_tree : Here K mg "_law_tree" s__law_tree)
    (d__law_edited : Here K mg "_law_edited" s__law_edited)
    (d__law_built : Here K mg "_law_built" s__law_built)
    (d__law_table : Here K mg "_law_table" s__law_table)
    (d_law : Here K mg "law" s_law) :
    ∃ fd : FuncData, (∀ (s : Shared) (v : Value), BindsTo s fd ⟨[v], []⟩ [("_law_script", v)]) ∧ ∀ base : Heap, K.In base → base.Ns mainGlobals mg → FnOk l.prog w K mg base CX0 60 fa fd ["_law_script"] (spLaw K) := by
  have T : Txt K mg C_Node C_Rule C_InvalidRule := { enumerate := PySem.W.mg_none_of X G z_enumerate, int := PySem.W.mg_none_of X G z_int, len := PySem.W.mg_none_of X G z_len, list := PySem.W.mg_none_of X G z_list, range := PySem.W.mg_none_of X G z_range, zip := PySem.W.mg_none_of X G z_zip, tuple := PySem.W.mg_none_of X G z_tuple, cl_Node := ⟨pgNode, hdNode, poNode, saNode⟩, mk_Node := mkNode, kp_Node := kcNode, at_Node := PySem.W.mg_of X G aNode, no_Node_kind := nNodekind, no_Node_key := nNodekey, no_Node_owner := nNodeowner, no_Node_inside := nNodeinside, cl_Rule := ⟨pgRule, hdRule, poRule, saRule⟩, mk_Rule := mkRule, kp_Rule := kcRule, at_Rule := PySem.W.mg_of X G aRule, cr_Rule := r1, cg_Rule := r2, all_Rule := ⟨_, c1⟩, pl_Rule := ⟨_, c2⟩, no_Rule_place := nRuleplace, ox_InvalidRule := ⟨ovInvalidRule, mdInvalidRule, hdInvalidRule, saInvalidRule, ecInvalidRule, tyInvalidRule, kcInvalidRule⟩, at_InvalidRule := PySem.W.mg_of X G aInvalidRule, xk_InvalidRule := ⟨⟨gaInvalidRule, ggInvalidRule, ecInvalidRule, hdInvalidRule⟩, exk_cl hdInvalidRule, klInvalidRule, knInvalidRule, ktInvalidRule, kmInvalidRule⟩, own_InvalidRule := owInvalidRule, no_InvalidRule_place := nInvalidRuleplace, se_InvalidRule := seInvalidRule }
  have R : Prg K mg C_Node C_Rule C_InvalidRule := { Node_init := d_Node_init, Node_below := d_Node_below, Rule_init := d_Rule_init, Rule___call__ := d_Rule___call__, «match» := d_match, matched := d_matched, _law_stream := d__law_stream, _law_draw := d__law_draw, _law_tree_key := d__law_tree_key, _law_tree := d__law_tree, _law_edited := d__law_edited, _law_built := d__law_built, _law_table := d__law_table, law := d_law }
  exact main_ok T R hfa
theorem walk {l : PySem.W.OpenLaw} {q : Program} {loose : List Str} {XP : (Str → Option Value) → Heap → Prop} {YP : World → Heap → Prop} {d : DefRec} {K : Params → PySem.W.Frag} (hn : l.most = some 63) (hdf : d.params.defaults = [])
    (hY : ∀ (w : World) (h : Heap), YP w h → (K w.params).In h)
    (F : ∀ (w : World) (mg : Str → Option Value) (fa : Addr) (h : Heap), (K w.params).In h → h.Ns mainGlobals mg → mg d.name = some (.ref fa) →
      ∃ fd : FuncData, (∀ (s : Shared) (u : Value), BindsTo s fd ⟨[u], []⟩ [("_law_script", u)]) ∧ ∀ base : Heap, (K w.params).In base → base.Ns mainGlobals mg → FnOk l.prog w (K w.params) mg base CX0 60 fa fd ["_law_script"] (spLaw (K w.params))) :
    PySem.W.WalkO q loose XP YP l.row.toRowW d [] (fun f vs => PySem.call f vs) :=
  L2.walk_of (n := 63) (k := 60) (x := "_law_script") (CX := fun _ => CX0) (sp := fun w => spLaw (K w.params)) hn (by decide) hdf ⟨rfl, by decide, by decide⟩ hY F (fun _ _ a ns hl _ hS => ⟨a, ns, rfl, hS, hl, fun _ => rfl⟩) fun _ _ _ _ _ z => z
end Pk
open PySem PySem.W PyProof.Rows
set_option maxRecDepth 100000 in
set_option maxHeartbeats 0 in
theorem PySem.Challenge.cw_statestay_k26_whole_three_drawings_holds : PySem.Challenge.rw_statestay_k26_whole_three_drawings.Holds := by
  w_on; o_law; k_head; (case hw => w_witness2)
  k_fill
  refine Pk.walk (l := PySem.Challenge.rw_statestay_k26_whole_three_drawings) rfl rfl (fun w h Y => PySem.W.kIn_of Y) ?F
  case F =>
    intro w mg fa h KX G hmg
    refine' Pk.all_mk KX G hmg ?aNode ?pgNode ?hdNode ?poNode ?saNode ?mkNode ?kcNode ?nNodekind ?nNodekey ?nNodeowner ?nNodeinside ?aRule ?pgRule ?hdRule ?poRule ?saRule ?mkRule ?kcRule ?nRuleplace ?aInvalidRule ?ovInvalidRule ?mdInvalidRule ?hdInvalidRule ?saInvalidRule ?ecInvalidRule ?tyInvalidRule ?kcInvalidRule ?gaInvalidRule ?ggInvalidRule ?owInvalidRule ?klInvalidRule ?knInvalidRule ?ktInvalidRule ?kmInvalidRule ?nInvalidRuleplace ?seInvalidRule ?r1 ?r2 ?c1 ?c2 ?z_enumerate ?z_int ?z_len ?z_list ?z_range ?z_zip ?z_tuple ?d_Node_init ?d_Node_below ?d_Rule_init ?d_Rule___call__ ?d_match ?d_matched ?d__law_stream ?d__law_draw ?d__law_tree_key ?d__law_tree ?d__law_edited ?d__law_built ?d__law_table ?d_law
    (case aNode => k_is)
    (case pgNode => k_is)
    (case hdNode => k_is)
    (case poNode => k_is)
    (case saNode => k_is)
    (case mkNode => k_is)
    (case kcNode => k_is)
    (case nNodekind => k_is)
    (case nNodekey => k_is)
    (case nNodeowner => k_is)
    (case nNodeinside => k_is)
    (case aRule => k_is)
    (case pgRule => k_is)
    (case hdRule => k_is)
    (case poRule => k_is)
    (case saRule => k_is)
    (case mkRule => k_is)
    (case kcRule => k_is)
    (case nRuleplace => k_is)
    (case aInvalidRule => k_is)
    (case ovInvalidRule => first | k_is | kx_is)
    (case mdInvalidRule => first | k_is | kx_is)
    (case hdInvalidRule => k_is)
    (case saInvalidRule => k_is)
    (case ecInvalidRule => first | k_is | kx_is)
    (case tyInvalidRule => first | k_is | kx_is)
    (case kcInvalidRule => k_is)
    (case gaInvalidRule => k_is)
    (case ggInvalidRule => k_is)
    (case owInvalidRule => kts_exm)
    (case klInvalidRule => k_is)
    (case knInvalidRule => k_is)
    (case ktInvalidRule => k_is)
    (case kmInvalidRule => k_is)
    (case nInvalidRuleplace => k_is)
    (case seInvalidRule => kit_is)
    (case r1 => k_is)
    (case r2 => k_is)
    (case c1 => k_is)
    (case c2 => k_is)
    (case z_enumerate => k_is)
    (case z_int => k_is)
    (case z_len => k_is)
    (case z_list => k_is)
    (case z_range => k_is)
    (case z_zip => k_is)
    (case z_tuple => k_is)
    (case d_Node_init => (refine' Pk.nodeD_mk ?nz ?nq1 ?nq2 ?nq3; (case nz => (refine' Pk.hereMD_mk ?a ?i ?l ?c ?k ?lT ?oT ?r; (case a => k_is); (case i => k_is); (case l => k_is); (case c => k_is); (case k => k_is); (case lT => k_is); (case oT => rfl); (case r => exact rfl))); (case nq1 => k_is); (case nq2 => rfl); (case nq3 => rfl)))
    (case d_Node_below => (refine' Pk.hereM_mk ?a ?i ?l ?c ?k; (case a => k_is); (case i => k_is); (case l => k_is); (case c => k_is); (case k => k_is)))
    (case d_Rule_init => (refine' Pk.hereMD_mk ?a ?i ?l ?c ?k ?lT ?oT ?r; (case a => k_is); (case i => k_is); (case l => k_is); (case c => k_is); (case k => k_is); (case lT => k_is); (case oT => rfl); (case r => exact ⟨_, rfl⟩)))
    (case d_Rule___call__ => (refine' Pk.hereM_mk ?a ?i ?l ?c ?k; (case a => k_is); (case i => k_is); (case l => k_is); (case c => k_is); (case k => k_is)))
    (case d_match => (refine' Pk.here_mk KX G ?a ?l ?c ?k; (case a => k_is); (case l => k_is); (case c => k_is); (case k => k_is)))
    (case d_matched => (refine' Pk.here_mk KX G ?a ?l ?c ?k; (case a => k_is); (case l => k_is); (case c => k_is); (case k => k_is)))
    (case d__law_stream => (refine' Pk.here_mk KX G ?a ?l ?c ?k; (case a => k_is); (case l => k_is); (case c => k_is); (case k => k_is)))
    (case d__law_draw => (refine' Pk.here_mk KX G ?a ?l ?c ?k; (case a => k_is); (case l => k_is); (case c => k_is); (case k => k_is)))
    (case d__law_tree_key => (refine' Pk.here_mk KX G ?a ?l ?c ?k; (case a => k_is); (case l => k_is); (case c => k_is); (case k => k_is)))
    (case d__law_tree => (refine' Pk.here_mk KX G ?a ?l ?c ?k; (case a => k_is); (case l => k_is); (case c => k_is); (case k => k_is)))
    (case d__law_edited => (refine' Pk.here_mk KX G ?a ?l ?c ?k; (case a => k_is); (case l => k_is); (case c => k_is); (case k => k_is)))
    (case d__law_built => (refine' Pk.here_mk KX G ?a ?l ?c ?k; (case a => k_is); (case l => k_is); (case c => k_is); (case k => k_is)))
    (case d__law_table => (refine' Pk.here_mk KX G ?a ?l ?c ?k; (case a => k_is); (case l => k_is); (case c => k_is); (case k => k_is)))
    (case d_law => (refine' Pk.here_mk KX G ?a ?l ?c ?k; (case a => k_is); (case l => k_is); (case c => k_is); (case k => k_is)))
