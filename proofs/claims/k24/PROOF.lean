import PyProof.Rows.All
import Wide.All
import OpenK.AllK
import Wide.FinOn
import KE.KDictKeyed
import KE.KeyNested
import KE.KCallOwn
import PyProof.P3Eq
import KE.KExcInit
import KE.KExcIs
import PyProof.Rows.StrIntSpec
import PyProof.ListStr
import PyProof.EqAt
import PyProof.StrOps2
import PyProof.EqKinds
import PyProof.FactsAll.dict
import KE.KDictPairs
import KE.KDictCopyH
import KE.KEqNest
import KE.KFmtOwn
import PyProof.GenQ
import PyProof.ListNew
import KE.KExcLine
import KE.RegKIsAll
import KE.RegKTryMore
import PyProof.NeKinds
import HandS.ForMost
import HandS.Evl
import HandS.IsInst
import HandS.DictComp
import HandS.SetKeys
import HandS.Strs
import HandS.Wide
import HandS.Walk
import HandS.Conv
import HandS.More
import HandS.TupAny
import HandS.Rev
import HandS.SetBool
import HandS.ClsMeth
import HandS.Defaults
import HandS.MakeKw
import HandS.CallLocal
import HandS.Exc
import HandS.ExcInit
import HandS.ExcField
import HandS.CallSlots
import HandS.WordsExc
import HandS.RevTup
import HandS.TupLe
import HandS.FStr
import HandS.Deep
import HandS.TupLen
import HandS.Finally
import HandS.DeepEq
import HandS.OwnEq
import HandS.GenOver
import HandS.EndBits
import HandS.GenList
import HandS.Keys
import HandS.Comp
import HandS.Zip
import PySem.Challenge.RW_statestay_k24_faults_found
set_option Elab.async false
set_option linter.all false
set_option maxRecDepth 100000
set_option maxHeartbeats 3100000
/-! Sets of texts of any size: set(xs) of a list or a tuple, and their length. -/
namespace Ssb
open PySem PySem.Spec PyProof.Rows L2

/-- acc and, behind it, what of the list was not met before -/
def met : List Str → List Str → List Str
  | acc, [] => acc
  | acc, x :: r => met (if x ∈ acc then acc else acc ++ [x]) r
theorem met_len : ∀ (l acc : List Str), (met acc l).length ≤ acc.length + l.length
  | [], acc => Nat.le_refl _
  | x :: r, acc => by
    have h := met_len r (if x ∈ acc then acc else acc ++ [x])
    show (met (if x ∈ acc then acc else acc ++ [x]) r).length ≤ acc.length + (r.length + 1)
    refine Nat.le_trans h ?_
    by_cases hx : x ∈ acc
    · rw [if_pos hx]; omega
    · rw [if_neg hx, List.length_append, List.length_singleton]; omega
theorem met_nodup : ∀ (l acc : List Str), (acc ++ l).Nodup → met acc l = acc ++ l
  | [], acc, _ => by rw [List.append_nil]; rfl
  | x :: r, acc, h => by
    have hx : ¬ x ∈ acc := fun hm => by
      have := (List.nodup_append.mp h).2.2 x hm x List.mem_cons_self
      exact this rfl
    show met (if x ∈ acc then acc else acc ++ [x]) r = acc ++ x :: r
    rw [if_neg hx, met_nodup r (acc ++ [x]) (by rw [List.append_assoc]; exact h), List.append_assoc]
    rfl
theorem met_in (acc : List Str) (x k : Str) : (decide (k ∈ acc) || decide (k = x)) = decide (k ∈ (if x ∈ acc then acc else acc ++ [x])) := by
  by_cases hx : x ∈ acc
  · rw [if_pos hx]
    by_cases e : k = x
    · rw [e, decide_eq_true hx]; rfl
    · rw [decide_eq_false e, Bool.or_false]
  · rw [if_neg hx]
    by_cases e : k = x
    · rw [e, decide_eq_true rfl, Bool.or_true, decide_eq_true (List.mem_append_right _ List.mem_cons_self)]
    · by_cases h2 : k ∈ acc
      · rw [decide_eq_true h2, decide_eq_true (List.mem_append_left _ h2)]; rfl
      · rw [decide_eq_false h2, decide_eq_false e, decide_eq_false]; rfl
        intro z
        rcases List.mem_append.mp z with z | z
        · exact h2 z
        · exact e (List.mem_singleton.mp z)
theorem met_size (acc : List Str) (x : Str) : (if decide (x ∈ acc) = true then acc.length else acc.length + 1) = (if x ∈ acc then acc else acc ++ [x]).length := by
  by_cases hx : x ∈ acc
  · rw [if_pos hx, decide_eq_true hx, if_pos rfl]
  · rw [if_neg hx, decide_eq_false hx, if_neg Bool.false_ne_true, List.length_append]; rfl
theorem cod_some {xs : List Str} {i : Nat} (h : i < xs.length) : xs.drop i = xs.getD i Str.empty :: xs.drop (i + 1) := by
  rw [List.drop_eq_getElem_cons h, List.getD_eq_getElem?_getD, List.getElem?_eq_getElem h, Option.getD_some]

section
variable {prog : Program} {w : World} {A : Around} {R : Result → Shared → Prop} {I S : Addr} {fp wr : List Addr} {G : Array GenState → Array GenState → Prop} {n : Nat} {P : Nat → Value → Prop} {St : Nat → Shared → Prop}
/-- set.update's own loop over texts -/
theorem upd_loop (W : WalksS prog w A.in1 I fp wr G n P St) (nS : S ∉ fp) {xs : List Str} (len : xs.length = n) (val : ∀ i v, P i v → ∃ t, v = .str (xs.getD i Str.empty) t) (few : n + 1 < scanBound) :
    ∀ (m i : Nat) (acc : List Str) (s : Shared), i + m = n → acc.length ≤ i → St i s → s.heap.SetOf (PySem.strKind prog w) S (fun k => decide (k ∈ acc)) acc.length →
      (∀ s2, Moved (S :: wr) G s s2 → s2.heap.SetOf (PySem.strKind prog w) S (fun k => decide (k ∈ met acc (xs.drop i))) (met acc (xs.drop i)).length → R (.ok (.ret .none)) s2) →
      codeAny (model prog w) A (.builtin "set.update.loop" ⟨[.ref S, .ref I], []⟩) R s := by
  have nw : S ∉ wr := fun hm => nS (W.sub S hm)
  have up : ∀ b, b ∈ wr → b ∈ S :: wr := fun b => List.mem_cons_of_mem S
  have stays : ∀ {s s2 : Shared} {T : Str → Bool} {c : Nat}, Moved wr G s s2 → s.heap.SetOf (PySem.strKind prog w) S T c → s2.heap.SetOf (PySem.strKind prog w) S T c := fun mv ⟨o, a1, a2, a3, q, r⟩ => ⟨o, a1, a2, a3, mv.heap S o nw q, r⟩
  intro m
  induction m with
  | zero =>
    intro i acc s e _ st so k
    obtain rfl : i = n := e
    refine codeAny_builtin PyProof.Rows.F.entry_set_update_loop ?_
    rw [Around.under_plainId PyProof.Rows.F.plain_set_update_loop]
    refine wpAny_bind (W.done s _ _ st fun s2 mv => wpAny_pure (k s2 (mv.mono up) ?_))
    rw [List.drop_of_length_le (Nat.le_of_eq len)]
    exact stays mv so
  | succ m ih =>
    intro i acc s e la st so k
    have lt : i < n := by omega
    refine codeAny_builtin PyProof.Rows.F.entry_set_update_loop ?_
    rw [Around.under_plainId PyProof.Rows.F.plain_set_update_loop]
    refine wpAny_bind (W.item i s _ _ lt st fun v s2 pv st2 mv => ?_)
    obtain ⟨t, rfl⟩ := val i v pv
    have so2 := stays mv so
    refine wpAny_bind (wpAny_holding ?_)
    unfold setAdd
    refine wpAny_holding (wpAny_bind ((PySem.strKind prog w).pyHash (k := xs.getD i Str.empty) (strKind_is _ _ _ _) ?_))
    refine wpAny_setAddHashed_of (knd := PySem.strKind prog w) (s := { s2 with toks := s2.toks + 1 }) (strKind_is _ _ _ _) rfl so2 (by omega) fun h3 sb so3 => ?_
    have out : ∀ b, b ≠ S → ∀ o, s2.heap.get? b = some o → h3.get? b = some o := fun b hb o q => (sb.2 b hb).trans q
    have so4 : h3.SetOf (PySem.strKind prog w) S (fun k' => decide (k' ∈ (if xs.getD i Str.empty ∈ acc then acc else acc ++ [xs.getD i Str.empty]))) (if xs.getD i Str.empty ∈ acc then acc else acc ++ [xs.getD i Str.empty]).length :=
      SetOf_congr so3 (fun k' => met_in _ _ _) (met_size _ _)
    have len4 : (if xs.getD i Str.empty ∈ acc then acc else acc ++ [xs.getD i Str.empty]).length ≤ i + 1 := by
      by_cases hx : xs.getD i Str.empty ∈ acc
      · rw [if_pos hx]; omega
      · rw [if_neg hx, List.length_append, List.length_singleton]; omega
    refine wpAny_pure ⟨plainId_quiet PyProof.Rows.F.plain_set_update_loop _, ih (i + 1) _ { s2 with heap := h3, toks := s2.toks + 1 } (by omega) len4 (W.frame _ s2 _ _ st2 (Nat.le_succ _) fun b hb o q => out b (fun z => nS (z ▸ hb)) o q) so4 fun s5 mv5 so5 => k s5 ?_ ?_⟩
    · exact Moved.trans W.gtrans ((mv.mono up).then_heap (Nat.le_succ _) fun b o hb q => out b (fun z => hb (z ▸ List.mem_cons_self)) o q) mv5
    · rw [cod_some (by omega)]
      exact so5
end

/-- what stands at the new set's place at first -/
abbrev bare (led : Bool) : Obj := { cls := .type "set", dict := none, data := .set #[] 0 (.fresh 0 0 led) }
section
variable {prog : Program} {w : World} {A : Around} {E : Value → Shared → Prop} {s : Shared} {src : Addr} {items : Array Value} {xs : List Str}
set_option maxHeartbeats 3200000 in
/-- set(list of texts) -/
theorem set_list {Q : Value → Shared → Prop} (calm : A.handled = none) (at_ : s.heap.IsList src items) (are : PyProof.Rows.StrsAre items.toList xs) (few : xs.length + 1 < scanBound)
    (k : ∀ (h2 : Heap) (tk : Nat), h2.SetOf (PySem.strKind prog w) s.heap.objs.size (fun k' => decide (k' ∈ met [] xs)) (met [] xs).length → (∀ b o, s.heap.get? b = some o → h2.get? b = some o) → Q (.ref s.heap.objs.size) { s with heap := h2, toks := tk }) :
    wpAny (model prog w) A (call (.type "set") [.ref src]) Q E s := by
  have m1 := PySem.F.called_set.mro
  obtain ⟨_, _, hm⟩ := m1
  have made := PySem.F.called_set.made
  have below := PySem.F.called_set.sub
  refine wpAny_call (codeAny_of_tree ?_)
  show wpAny _ _ (callAny (Value.type "set") ⟨[Value.ref src], []⟩) _ _ _
  refine wpAny_pure (And.intro (Code.quiet_builtin _ (by decide +kernel)) (codeAny_builtin PySem.F.entry_type_call ?_))
  rw [Around.under_plain (weight_type_call_type "set" [Value.ref src] []) rfl]
  have n1 := PySem.F.called_set.notType
  have n2 := PySem.F.called_set.canCreate
  have n3 := PySem.F.typeCall_set_1 (Value.ref src)
  repeat any_goals first | wp_step | assumption
  refine codeAny_mono (code_set_new_1 (Value.ref src) (E := E) (Q₁ := fun x s1 => ∃ led, x = .ref s.heap.objs.size ∧ s1 = { s with heap := s.heap.push (bare led) }) fun led => ⟨led, rfl, rfl⟩) fun r s1 back => ?_
  cases r with
  | error e => exact back
  | ok fl =>
    cases fl with
    | next => exact back.elim
    | brk => exact back.elim
    | cont => exact back.elim
    | ret x =>
      obtain ⟨led, rfl, rfl⟩ := back
      have gS : (s.heap.push (bare led)).get? s.heap.objs.size = some (bare led) := Heap.get?_push_size _ rfl
      have tS : Shared.TypeIs { s with heap := s.heap.push (bare led) } (.ref s.heap.objs.size) "set" := ⟨_, gS, rfl⟩
      have i1 := PySem.F.called_set.init.lookup
      have i2 := PySem.F.called_set.init.bind (.ref s.heap.objs.size)
      repeat any_goals first | wp_step | assumption
      refine codeAny_mono (codeAny_call_builtin (R := wants (fun r s2 => r = .none ∧ ∃ h2 tk, s2 = { s with heap := h2, toks := tk } ∧ h2.SetOf (PySem.strKind prog w) s.heap.objs.size (fun k' => decide (k' ∈ met [] xs)) (met [] xs).length ∧
        ∀ b o, s.heap.get? b = some o → h2.get? b = some o) E) PySem.F.called_set.init.plain PySem.F.entry_set_init (check_set_init_1 tS ?_)) fun r2 s2 back2 => ?_
      · obtain ⟨ol, gl, cl, nl, dl⟩ := at_
        obtain ⟨ocls, odict, odata, oslots⟩ := ol
        simp only at cl dl
        subst cl; subst dl
        have gl' : (s.heap.push (bare led)).get? src = some { cls := .type "list", dict := odict, data := .seq items nl, slots := oslots } := Heap.get?_push_of_some _ gl
        have u1 := PySem.F.sub_list_set
        have u2 := PySem.F.sub_list_frozenset
        have u3 : (Value.type "list" == Value.type "dict") = false := by decide
        have at2 : (s.heap.push (bare led)).IsList src items := ⟨_, gl', rfl, nl, rfl⟩
        unfold Builtin.«set.__init__» noKeywords Builtin.Frozenset.updateFrom
        generalize hide : pyIter = PI
        wp_walk
        subst hide
        refine wpAny_pyIter_list at2 (wpAny_bind (wpAny_runValue ?_))
        have small : src < s.heap.objs.size := Heap.lt_size gl
        have calm3 : A.in1.in1.in1.handled = none := by simp [calm]
        have z1 : (s.heap.push (bare led)).objs.size = s.heap.objs.size + 1 := Heap.size_push ..
        have d1 : src ≠ (s.heap.push (bare led)).objs.size := by rw [z1]; exact Nat.ne_of_lt (Nat.lt_succ_of_lt small)
        have d2 : s.heap.objs.size ∉ [(s.heap.push (bare led)).objs.size, src] := by
          rw [z1]
          intro hm2
          rcases List.mem_cons.mp hm2 with e | hm2
          · exact Nat.ne_of_lt (Nat.lt_succ_self _) e
          · exact Nat.ne_of_gt small (List.mem_singleton.mp hm2)
        have sz : xs.length = items.size := by rw [← StrsAre.len_eq are, Array.length_toList]
        have vals : ∀ (i : Nat) (v : Value), items[i]? = some v → ∃ t, v = .str (xs.getD i Str.empty) t := fun i v hv => SS.strs_at are i v (by rw [Array.getElem?_toList]; exact hv)
        refine upd_loop (S := s.heap.objs.size) ((Walks.list calm3 _ src d1 items).toS) d2 sz vals (by omega) items.size 0 [] _ (Nat.zero_add _) (Nat.le_refl _) ⟨⟨_, Heap.get?_push_size _ rfl, rfl, rfl⟩, (at2.push _)⟩ ?first ?last
        case first =>
          exact SetOf_congr ((setObjOf_fresh (knd := PySem.strKind prog w) led).setOf (Heap.get?_push_of_some _ gS) (by decide)) (fun _ => rfl) rfl
        case last =>
          intro s' mv so
          obtain ⟨h', g', d', tk', os'⟩ := s'
          obtain rfl : g' = s.gens := mv.gens
          obtain rfl : d' = s.drawn := mv.drawn
          obtain rfl : os' = s.os := mv.os
          refine wpAny_pure (wpAny_pure ⟨rfl, h', tk', rfl, so, fun b o q => ?_⟩)
          have lb : b < s.heap.objs.size := Heap.lt_size q
          refine mv.heap b o (fun hm2 => ?_) (Heap.get?_push_of_some _ (Heap.get?_push_of_some _ q))
          rcases List.mem_cons.mp hm2 with e | hm2
          · exact Nat.ne_of_lt lb e
          · have e2 := List.mem_singleton.mp hm2
            rw [z1] at e2
            exact Nat.ne_of_lt (Nat.lt_succ_of_lt lb) e2
      · cases r2 with
        | error e => exact back2
        | ok fl2 =>
          cases fl2 with
          | next => exact back2.elim
          | brk => exact back2.elim
          | cont => exact back2.elim
          | ret r =>
            obtain ⟨rfl, h2, tk, rfl, so, kp⟩ := back2
            repeat any_goals first | wp_step | assumption
            exact k _ _ so kp
set_option maxHeartbeats 3200000 in
/-- set(tuple of texts) -/
theorem set_tuple {Q : Value → Shared → Prop} (calm : A.handled = none) (at_ : s.heap.IsTuple src items) (are : PyProof.Rows.StrsAre items.toList xs) (few : xs.length + 1 < scanBound)
    (k : ∀ (h2 : Heap) (tk : Nat), h2.SetOf (PySem.strKind prog w) s.heap.objs.size (fun k' => decide (k' ∈ met [] xs)) (met [] xs).length → (∀ b o, s.heap.get? b = some o → h2.get? b = some o) → Q (.ref s.heap.objs.size) { s with heap := h2, toks := tk }) :
    wpAny (model prog w) A (call (.type "set") [.ref src]) Q E s := by
  have m1 := PySem.F.called_set.mro
  obtain ⟨_, _, hm⟩ := m1
  have made := PySem.F.called_set.made
  have below := PySem.F.called_set.sub
  refine wpAny_call (codeAny_of_tree ?_)
  show wpAny _ _ (callAny (Value.type "set") ⟨[Value.ref src], []⟩) _ _ _
  refine wpAny_pure (And.intro (Code.quiet_builtin _ (by decide +kernel)) (codeAny_builtin PySem.F.entry_type_call ?_))
  rw [Around.under_plain (weight_type_call_type "set" [Value.ref src] []) rfl]
  have n1 := PySem.F.called_set.notType
  have n2 := PySem.F.called_set.canCreate
  have n3 := PySem.F.typeCall_set_1 (Value.ref src)
  repeat any_goals first | wp_step | assumption
  refine codeAny_mono (code_set_new_1 (Value.ref src) (E := E) (Q₁ := fun x s1 => ∃ led, x = .ref s.heap.objs.size ∧ s1 = { s with heap := s.heap.push (bare led) }) fun led => ⟨led, rfl, rfl⟩) fun r s1 back => ?_
  cases r with
  | error e => exact back
  | ok fl =>
    cases fl with
    | next => exact back.elim
    | brk => exact back.elim
    | cont => exact back.elim
    | ret x =>
      obtain ⟨led, rfl, rfl⟩ := back
      have gS : (s.heap.push (bare led)).get? s.heap.objs.size = some (bare led) := Heap.get?_push_size _ rfl
      have tS : Shared.TypeIs { s with heap := s.heap.push (bare led) } (.ref s.heap.objs.size) "set" := ⟨_, gS, rfl⟩
      have i1 := PySem.F.called_set.init.lookup
      have i2 := PySem.F.called_set.init.bind (.ref s.heap.objs.size)
      repeat any_goals first | wp_step | assumption
      refine codeAny_mono (codeAny_call_builtin (R := wants (fun r s2 => r = .none ∧ ∃ h2 tk, s2 = { s with heap := h2, toks := tk } ∧ h2.SetOf (PySem.strKind prog w) s.heap.objs.size (fun k' => decide (k' ∈ met [] xs)) (met [] xs).length ∧
        ∀ b o, s.heap.get? b = some o → h2.get? b = some o) E) PySem.F.called_set.init.plain PySem.F.entry_set_init (check_set_init_1 tS ?_)) fun r2 s2 back2 => ?_
      · obtain ⟨ol, gl, cl, nl, dl⟩ := at_
        obtain ⟨ocls, odict, odata, oslots⟩ := ol
        simp only at cl dl
        subst cl; subst dl
        have gl' : (s.heap.push (bare led)).get? src = some { cls := .type "tuple", dict := odict, data := .seq items nl, slots := oslots } := Heap.get?_push_of_some _ gl
        have u1 := PySem.F.sub_tuple_set
        have u2 := PySem.F.sub_tuple_frozenset
        have u3 : (Value.type "tuple" == Value.type "dict") = false := by decide
        have at2 : (s.heap.push (bare led)).IsTuple src items := ⟨_, gl', rfl, nl, rfl⟩
        unfold Builtin.«set.__init__» noKeywords Builtin.Frozenset.updateFrom
        generalize hide : pyIter = PI
        wp_walk
        subst hide
        refine wpAny_pyIter_tuple at2 (wpAny_bind (wpAny_runValue ?_))
        have small : src < s.heap.objs.size := Heap.lt_size gl
        have calm3 : A.in1.in1.in1.handled = none := by simp [calm]
        have z1 : (s.heap.push (bare led)).objs.size = s.heap.objs.size + 1 := Heap.size_push ..
        have d1 : src ≠ (s.heap.push (bare led)).objs.size := by rw [z1]; exact Nat.ne_of_lt (Nat.lt_succ_of_lt small)
        have d2 : s.heap.objs.size ∉ [(s.heap.push (bare led)).objs.size, src] := by
          rw [z1]
          intro hm2
          rcases List.mem_cons.mp hm2 with e | hm2
          · exact Nat.ne_of_lt (Nat.lt_succ_self _) e
          · exact Nat.ne_of_gt small (List.mem_singleton.mp hm2)
        have sz : xs.length = items.size := by rw [← StrsAre.len_eq are, Array.length_toList]
        have vals : ∀ (i : Nat) (v : Value), items[i]? = some v → ∃ t, v = .str (xs.getD i Str.empty) t := fun i v hv => SS.strs_at are i v (by rw [Array.getElem?_toList]; exact hv)
        refine upd_loop (S := s.heap.objs.size) ((Walks.tuple calm3 _ src d1 items).toS) d2 sz vals (by omega) items.size 0 [] _ (Nat.zero_add _) (Nat.le_refl _) ⟨⟨_, Heap.get?_push_size _ rfl, rfl, rfl⟩, (at2.push _)⟩ ?first ?last
        case first =>
          exact SetOf_congr ((setObjOf_fresh (knd := PySem.strKind prog w) led).setOf (Heap.get?_push_of_some _ gS) (by decide)) (fun _ => rfl) rfl
        case last =>
          intro s' mv so
          obtain ⟨h', g', d', tk', os'⟩ := s'
          obtain rfl : g' = s.gens := mv.gens
          obtain rfl : d' = s.drawn := mv.drawn
          obtain rfl : os' = s.os := mv.os
          refine wpAny_pure (wpAny_pure ⟨rfl, h', tk', rfl, so, fun b o q => ?_⟩)
          have lb : b < s.heap.objs.size := Heap.lt_size q
          refine mv.heap b o (fun hm2 => ?_) (Heap.get?_push_of_some _ (Heap.get?_push_of_some _ q))
          rcases List.mem_cons.mp hm2 with e | hm2
          · exact Nat.ne_of_lt lb e
          · have e2 := List.mem_singleton.mp hm2
            rw [z1] at e2
            exact Nat.ne_of_lt (Nat.lt_succ_of_lt lb) e2
      · cases r2 with
        | error e => exact back2
        | ok fl2 =>
          cases fl2 with
          | next => exact back2.elim
          | brk => exact back2.elim
          | cont => exact back2.elim
          | ret r =>
            obtain ⟨rfl, h2, tk, rfl, so, kp⟩ := back2
            repeat any_goals first | wp_step | assumption
            exact k _ _ so kp
end
end Ssb

/-! Sets of texts as tracked things: set(xs), {text for ..}, their len. -/
namespace Ssb
open PySem PySem.Spec PyProof.Rows L2

/-- at a: the set of the texts of l -/
def Txs (P : Program) (w : World) (a : Addr) (l : List Str) : HO := .ext fun h => h.SetOf (PySem.strKind P w) a (fun k => decide (k ∈ l)) l.length
/-- l with x at its end, if it is not there -/
def put1 (l : List Str) (x : Str) : List Str := if x ∈ l then l else l ++ [x]
theorem put1_len (l : List Str) (x : Str) : (put1 l x).length ≤ l.length + 1 := by
  unfold put1
  by_cases h : x ∈ l
  · rw [if_pos h]; omega
  · rw [if_neg h, List.length_append]; exact Nat.le_refl _
section
variable {P : Program} {w : World} {X : Cx}
theorem txs_ok {H : Hp} {h : Heap} {a : Addr} {l : List Str} (r : h.SetOf (PySem.strKind P w) a (fun k => decide (k ∈ l)) l.length) : ObjOk P w H h a (Txs P w a l) := by
  refine ⟨r, ?_, fun g1 g2 p k => ?_⟩
  · obtain ⟨o, _, _, _, q, _⟩ := r; exact ⟨o, q⟩
  · obtain ⟨o, b1, b2, b3, q, r2⟩ := p; exact ⟨o, b1, b2, b3, k o q, r2⟩
theorem txs_at {pins : List (Addr × Obj)} {σ : L2.St} {H : Hp} {s : Shared} {a : Addr} {l : List Str} (I : Inv X pins σ H s) (e : H a = some (Txs X.prog X.w a l)) : s.heap.SetOf (PySem.strKind X.prog X.w) a (fun k => decide (k ∈ l)) l.length := by
  have z : ObjOk X.prog X.w H s.heap a (.ext fun h => h.SetOf (PySem.strKind X.prog X.w) a (fun k => decide (k ∈ l)) l.length) := I.hok a _ e
  exact z.1
/-- one text more -/
theorem txs_add {pins : List (Addr × Obj)} {σ : L2.St} {H : Hp} {s : Shared} {E : Value → Shared → Prop} {a : Addr} {l : List Str} {x : Str} {t : Tok} {Q : Value → Shared → Prop} (I : Inv X pins σ H s) (e : H a = some (Txs X.prog X.w a l)) (few : l.length + 1 < scanBound)
    (k : ∀ s2, Inv X pins σ (upd H a (Txs X.prog X.w a (put1 l x))) s2 → Q .none s2) : wpAny (model X.prog X.w) X.A (call (.builtin "set.add") [.ref a, .str x t]) Q E s := by
  refine PySem.call_set_add (knd := PySem.strKind X.prog X.w) (strKind_is _ _ _ _) rfl (txs_at I e) few fun h2 sb so => ?_
  have so2 : h2.SetOf (PySem.strKind X.prog X.w) a (fun k' => decide (k' ∈ put1 l x)) (put1 l x).length := SetOf_congr so (fun k' => met_in l x k') (met_size l x)
  have there : ∃ u, h2.get? a = some u := by
    obtain ⟨o, _, _, _, q, _⟩ := so2; exact ⟨o, q⟩
  exact k _ (I.write (t' := s.toks + 1) (x := a) (e := a) (by rw [e]; trivial) (.inl rfl) (fun b u hb q => (sb.2 b hb).trans q) there (txs_ok so2))

/-! ### set(xs) -/
def rSetS (K : PySem.W.Frag) (P : Program) (w : World) : List V → Hp → VK → Prop := fun vs H Q => ∃ (a : Addr) (xs : List Str), vs = [.ref a] ∧ (SqL K H a (xs.map V.str) ∨ SqT K H a (xs.map V.str)) ∧ xs.length + 1 < scanBound ∧
  ∀ p, H p = none → Q (.ref p) (upd H p (Txs P w p (met [] xs)))
theorem cr_setS (hc : X.calm = true) : CallR X (.type "set") (rSetS X.K X.prog X.w) := by
  intro pins s σ H vs us Q I r q
  obtain ⟨a, xs, rfl, sq, few, k⟩ := q
  rw [Vals.ref1 r]
  have new : H s.heap.objs.size = none := I.hok.fresh (Nat.le_refl _)
  have done : ∀ (h2 : Heap) (tk : Nat), h2.SetOf (PySem.strKind X.prog X.w) s.heap.objs.size (fun k' => decide (k' ∈ met [] xs)) (met [] xs).length → (∀ b o, s.heap.get? b = some o → h2.get? b = some o) → EP X pins σ Q (.ref s.heap.objs.size) { s with heap := h2, toks := tk } :=
    fun h2 tk so kp => ⟨.ref s.heap.objs.size, upd H s.heap.objs.size (Txs X.prog X.w s.heap.objs.size (met [] xs)), I.laid (t' := tk) kp (Nat.le_refl _) (txs_ok so), rfl, k _ new⟩
  rcases sq with sq | sq
  · obtain ⟨its, rv, pl, _⟩ := I.list sq
    exact set_list (I.ok.hd hc) pl.isList (by simpa using strsAre_of rv) few done
  · obtain ⟨its, rv, pl, _⟩ := I.tuple sq
    exact set_tuple (I.ok.hd hc) pl (by simpa using strsAre_of rv) few done
/-! ### len of it -/
def rLenTxs (P : Program) (w : World) : List V → Hp → VK → Prop := fun vs H Q => ∃ (a : Addr) (l : List Str), vs = [.ref a] ∧ H a = some (Txs P w a l) ∧ l.length < 1000000 ∧ Q (.int l.length) H
theorem call_lenTxs : CallR X (.builtin "len") (rLenTxs X.prog X.w) := by
  intro pins s σ H vs us Q I r q
  obtain ⟨a, l, rfl, e, few, k⟩ := q
  rw [Vals.ref1 r]
  obtain ⟨o, es, ep, t, ho, ex, dt, _, _, _, fits, n⟩ := txs_at I e
  refine PySem.call_len_set ho ex dt fits (by rw [n]; omega) ⟨.int l.length, H, I.tok _, ⟨_, by rw [n]⟩, k⟩
end

/-! ### {text for ..} -/
/-- the reading: D, the new set -/
def tTxs (P : Program) (w : World) (wi : TI) (g : TG) (tt : TT) (te : TE) (vs : List Nat) : TE := fun σ H Q => wi σ H fun J H1 => ∀ D, H1 D = none → ∃ W : Nat → Nat → Hp → Prop, (∃ m, W 0 m (upd H1 D (Txs P w D []))) ∧ ∀ i m H, W i m H →
  (J.stop i H ∧ Q (.ref D) H) ∨ (J.go i H ∧ ∃ Nx : Hp → Prop, (∀ H', Nx H' → ∃ m', m' < m ∧ W (i + 1) m' H') ∧ ∀ x H', J.yld i H x H' → g x (wipe σ vs) H' fun σ2 H2 => wipe σ2 vs = wipe σ vs ∧ tt σ2 H2 fun b H3 =>
    if b = true then te σ2 H3 fun y H4 => ∃ (z : Str) (l : List Str), y = .str z ∧ H4 D = some (Txs P w D l) ∧ l.length + 1 < scanBound ∧ Nx (upd H4 D (Txs P w D (put1 l z))) else Nx H3)
section
variable {X : Cx} {elt tg iter : Expr} {ifs : List Expr} {scope : Scope} {own : List (PySem.Str × Nat)} {pos pos' : Pos} {wi : TI} {g : TG} {tt : TT} {te : TE}
theorem pe_scT (hc : X.calm = true) (hN : X.N.Nodup) (hi : PI X tg iter wi) (ok : BlkOk X.N X.env.scope scope own)
    (hg : ∀ (u : Shared) (B : Hp) (C : Addr) (cl : List (PySem.Str × Addr)) (fp : List Addr), PG (X.blk u B scope (compEnvC scope cl C X.env) fp) tg g)
    (ht : ∀ (u : Shared) (B : Hp) (C : Addr) (cl : List (PySem.Str × Addr)) (fp : List Addr), PTs (X.blk u B scope (compEnvC scope cl C X.env) fp) ifs tt)
    (he : ∀ (u : Shared) (B : Hp) (C : Addr) (cl : List (PySem.Str × Addr)) (fp : List Addr), PE (X.blk u B scope (compEnvC scope cl C X.env) fp) elt te)
    (hf : ∀ x, foldedSetIterable iter X.env x = pure x := by intro _; rfl) :
    PE X (.SetComp elt [⟨tg, iter, ifs, 0⟩] scope pos) (tTxs X.prog X.w wi g tt te (own.map (·.2))) := by
  refine ⟨fun pins s σ H Q I red => ?_⟩
  rw [PpSet.eval_SetComp]
  have caught : ∀ y ∈ scope.names, y.2 = .free → ∃ c, X.env.cells.lookup y.1 = some c := fun y hy e => (ok.free y hy e).elim (fun k => I.ok.has _ (.inl k)) fun k => I.ok.has _ (.inr k)
  refine wpAny_comprehension_free rfl hf (closure_ok caught) ok.kind (fun y hy e => by rw [ok.uniq y hy, e]) (thn (hi.run pins s σ H _ I red) fun _ s1 r1 => thn r1 fun _ s2 r2 => ?_)
  obtain ⟨it, fp, at_, J, H2, rfl, I2, T, now, apart, rest⟩ := r2
  refine PpSet.newSet_ok (newEnv_comp ?_)
  have noD : H2 s2.heap.objs.size = none := I2.hok.fresh (Nat.le_refl _)
  obtain ⟨W, ⟨m0, w0⟩, turn⟩ := rest _ noD
  generalize eD : s2.heap.objs.size = D at noD w0 turn ⊢
  generalize e3 : ({ s2 with heap := s2.heap.push (bare (!X.w.params.followText "set-order")) } : Shared) = s3
  have g3 : s3.heap = s2.heap.push (bare (!X.w.params.followText "set-order")) := by rw [← e3]
  generalize eH3 : upd H2 D (Txs X.prog X.w D []) = H3 at w0
  have I3 : Inv X pins σ H3 s3 := by
    rw [← e3, ← eH3]
    refine I2.laid (t' := s2.toks) (fun b o q => Heap.get?_push_of_some _ q) (Nat.le_of_eq eD) (txs_ok ?_)
    rw [← eD]
    exact SetOf_congr ((setObjOf_fresh (knd := PySem.strKind X.prog X.w) _).setOf (Heap.get?_push_size _ rfl) (by decide)) (fun _ => rfl) rfl
  have low : ∀ b ∈ fp, b < s2.heap.objs.size := fun b hb => by
    obtain ⟨o, q, _⟩ := T.obj _ _ now b hb; exact Heap.lt_size q
  have fp3 : ∀ b ∈ fp, FpOk X pins H3 b ∧ b < s3.heap.objs.size := fun b hb => by
    refine ⟨⟨?_, (apart b hb).2⟩, by rw [g3, Heap.size_push]; exact Nat.lt_succ_of_lt (low b hb)⟩
    rw [← eH3, upd_ne (by rw [← eD]; exact Nat.ne_of_lt (low b hb))]
    exact (apart b hb).1
  have now3 : at_ 0 s3.heap := T.keep _ _ _ now fun b _ o q => by rw [g3]; exact Heap.get?_push_of_some _ q
  have B4 := block_start I3 ok hN fp3
  generalize eC : compEnvC scope (cellsFrom (s3.heap.objs.size + 1) scope.names (cloFrom X.env.cells scope.names [])) s3.heap.objs.size X.env = ce at B4
  have pG : PG (X.blk s3 H3 scope ce fp) tg g := by rw [← eC]; exact hg _ _ _ _ _
  have pT : PTs (X.blk s3 H3 scope ce fp) ifs tt := by rw [← eC]; exact ht _ _ _ _ _
  have pE : PE (X.blk s3 H3 scope ce fp) elt te := by rw [← eC]; exact he _ _ _ _ _
  have eL : ce.locals = s3.heap.objs.size := by rw [← eC]; rfl
  have fpN : ∀ b ∈ fp, H3 b = none := fun b hb => (fp3 b hb).1.1
  generalize e4 : ({ s3 with heap := pushCells (s3.heap.push { cls := .type "dict", data := .dict #[] }) scope.names } : Shared) = s4 at B4
  have now4 : at_ 0 s4.heap := T.keep _ _ _ now3 fun b _ o q => by rw [← e4]; exact pushCells_keeps _ _ _ _ (Heap.get?_push_of_some _ q)
  show codeAny _ _ (.compStart (.SetComp elt [⟨tg, iter, ifs, 0⟩] scope pos) 0 (.ref it) (.ref D) (compEnvC scope (cellsFrom (s3.heap.objs.size + 1) scope.names (cloFrom X.env.cells scope.names [])) s3.heap.objs.size X.env)) (compPost _ _ _ none _ (.ref D) s3.heap.objs.size) s4
  rw [eC]
  have fpOk : ∀ {σ' : L2.St} {H' : Hp} {s' : Shared}, Inv (X.blk s3 H3 scope ce fp) [] σ' H' s' → (∀ b ∈ fp, H' b = none) → ∀ b ∈ fp, FpOk (X.blk s3 H3 scope ce fp) [] H' b := fun {_ _ _} J' no b hb =>
    ⟨no b hb, (J'.ok.exf b hb).1, J'.ok.exfs b hb, .inl hb, fun x c q => (J'.ok.exf b hb).2 x c q, fun p hp => nomatch (show p ∈ ([] : List (Addr × Obj)) from hp)⟩
  refine PpSet.codeAny_compStart_set ?_ (T.self X.A 0 _ _ _ now4 ?_)
  all_goals
    refine PpSet.compLoopS_any (fun m u => ∃ i G, Inv (X.blk s3 H3 scope ce fp) [] (wipe σ (own.map (·.2))) G u ∧ at_ i u.heap ∧ (∀ b ∈ fp, G b = none) ∧ W i m G) ?_ m0 ⟨0, H3, B4, now4, fpN, w0⟩
    rintro m u ⟨i, G, B5, now5, no5, w5⟩
    rcases turn i m G w5 with ⟨stop, fin⟩ | ⟨go, Nx, less, step⟩
    · refine thnF (T.done (X.blk s3 H3 scope ce fp) rfl rfl rfl hc i [] u _ G (fun _ _ => False) B5 (fpOk B5 no5) now5 stop) fun r s6 ⟨er, B6⟩ => ?_
      subst er
      have I7 : Inv X pins σ G s6 := I3.call' (ch := fp) B6.os B6.base B6.hok B6.bare fun b hb => ⟨(fp3 b hb).1.2.2.2.1, (fp3 b hb).1.2.1, (fp3 b hb).1.2.2.2.2.1, (fp3 b hb).1.2.2.2.2.2⟩
      obtain ⟨mm, ns, _⟩ := B6.loc
      have ns : s6.heap.Ns ce.locals mm := ns
      have noC : G ce.locals = none := B6.free
      rw [eL] at ns noC
      obtain ⟨f0, f1, f2, f3, f4, f5⟩ := I3.fpOk (Nat.le_refl _) noC
      exact ⟨mm, ns, fun h'' sb => ⟨.ref D, G, I7.turned (t' := s6.toks) (fun b o hb q => (sb.2 b hb).trans q) f0 f1 f3 f4 f5, rfl, fin⟩⟩
    · refine thnF (T.item (X.blk s3 H3 scope ce fp) rfl rfl rfl hc i [] u _ G (fun _ _ => False) B5 (fpOk B5 no5) now5 go) fun r s6 ⟨v, er, r6⟩ => ?_
      subst er
      refine thnF r6 fun _ s7 ⟨x, G7, B7, rx, y7, now7, no7⟩ => ?_
      refine thnF (pG.run _ s7 _ G7 x v _ (B7.pinned (fpOk B7 no7) (T.obj _ _ now7)) rx (step x G7 y7)) fun _ s8 ⟨σ8, G8, B8, wp8, q8⟩ => ?_
      refine thnF (pT.run _ s8 σ8 G8 _ B8 q8) fun b s9 ⟨G9, B9, q9⟩ => ?_
      have close : ∀ {u' : Shared} {G' : Hp}, Inv (X.blk s3 H3 scope ce fp) ([] ++ pinsAt fp s7.heap) σ8 G' u' → Nx G' → ∃ m', m' < m ∧ ∃ i' G2, Inv (X.blk s3 H3 scope ce fp) [] (wipe σ (own.map (·.2))) G2 u' ∧ at_ i' u'.heap ∧ (∀ b ∈ fp, G2 b = none) ∧ W i' m' G2 := fun {u' G'} B' nx => by
        obtain ⟨m', lt, w'⟩ := less G' nx
        have held : ∀ b ∈ fp, ∀ o, s7.heap.get? b = some o → u'.heap.get? b = some o ∧ G' b = none := fun b hb o q =>
          ⟨(B'.pin (b, o) (List.mem_append_right _ (List.mem_append_right _ (mem_pinsAt hb q)))).1, (B'.pin (b, o) (List.mem_append_right _ (List.mem_append_right _ (mem_pinsAt hb q)))).2.1⟩
        refine ⟨m', lt, i + 1, G', (B'.unpinned (pins := [])).weak (by rw [← wp8, wipe_length]) (fun j z e => (wipe_some (by rw [wp8]; exact e)).1), T.keep _ _ _ now7 fun b hb o q => (held b hb o q).1, fun b hb => ?_, w'⟩
        obtain ⟨o, q, _⟩ := T.obj _ _ now7 b hb
        exact (held b hb o q).2
      cases b with
      | false =>
        simp only [Bool.false_eq_true, if_false] at q9 ⊢
        exact close B9 q9
      | true =>
        simp only [if_true] at q9 ⊢
        refine thnF (pE.run _ s9 σ8 G9 _ B9 q9) fun z s10 ⟨yv, G10, B10, r10, tx, l0, ey, at10, few, nx⟩ => ?_
        subst ey
        obtain ⟨tk, rfl⟩ := (show ∃ t, z = Value.str tx t from r10)
        exact txs_add (X := X.blk s3 H3 scope ce fp) B10 at10 few fun s11 B11 => close B11 nx
end
end Ssb

/-! Words: a def and its promise in one; data on the heap; loops over dicts. -/
namespace Ssb
open PySem PySem.Spec PyProof.Rows L2
open Evl (Ex Ev EvT EvL EvA EvU)

/-! ### a def of the module, a method of a class, and its promise -/
structure Fn (P : Program) (w : World) (K : PySem.W.Frag) (mg : Str → Option Value) (base : Heap) (nm : Str) (k : Nat) (ps : List Str) (sp : Sp) (f : Addr) (fd : FuncData) : Prop where
  ok : FnOk P w K mg base CX0 k f fd ps sp
  at_ : mg nm = some (.ref f)
  kp : PySem.W.keepIn K (.ref f) = true
  bd : Binds K fd ps []
structure Mt (P : Program) (w : World) (K : PySem.W.Frag) (mg : Str → Option Value) (base : Heap) (C : Addr) (nm : Str) (k : Nat) (ps : List Str) (sp : Sp) (f : Addr) (fd : FuncData) : Prop where
  ok : FnOk P w K mg base CX0 k f fd ps sp
  mt : Meth K C nm f
  bd : Binds K fd ps []
section
variable {X : Cx} {nm : Str} {k j : Nat} {ps : List Str} {sp : Sp} {f : Addr} {fd : FuncData} {p pos : Pos} {e : Expr} {es : List Expr} {t : TA}
theorem pcl (G : Fn X.prog X.w X.K X.mg X.base nm k ps sp f fd) (hr : Room j X.A) (ha : PA X (e :: es) t) (hj : k ≤ j := by first | decide | omega) (hg : Gl X nm := by rfl) (hdb : (nm == ("__debug__" : Str)) = false := by decide)
    (he : starEach (e :: es) X.env = (false, eval e X.env) :: starEach es X.env := by rfl) (hpl : (backTo pos (starEach es X.env)).any (·.1) = false := by rfl) : PE X (.Call (.Name nm p) (e :: es) [] pos) (tCall sp [] E0 t) :=
  pe_call G.ok (hr.mono hj) hg G.at_ G.kp G.bd .nil pass0 ha hdb he hpl
variable {o : Expr} {ta : TE} {apos : Pos} {C : Addr} {pl : Sem Bool}
theorem pmt (ho : PE X o ta) (c : Cls X.K C) (G : Mt X.prog X.w X.K X.mg X.base C nm k ps sp f fd) (hr : Room j X.A) (ha : PA X (e :: es) t) (hj : k ≤ j := by first | decide | omega)
    (he : starEach (e :: es) X.env = (false, eval e X.env) :: starEach es X.env := by rfl) (hpl : (backTo pos (starEach es X.env)).any (·.1) = false := by rfl)
    (ht : eval (.Call (.Attribute o nm apos) (e :: es) [] pos) X.env = (do
      let ov ← eval o X.env
      standAt apos.atName
      let (f, first) ← holding [ov] (getMethod ov nm pl)
      callWith pos f first (backTo pos (starEach (e :: es) X.env)) (backToKw pos (keywordEach [] X.env))) := by rfl) : PE X (.Call (.Attribute o nm apos) (e :: es) [] pos) (tMeth C nm sp [] E0 ta t) :=
  pe_meth ho c G.mt G.ok (hr.mono hj) G.bd .nil pass0 ha he hpl ht
theorem pmt0 (ho : PE X o ta) (c : Cls X.K C) (G : Mt X.prog X.w X.K X.mg X.base C nm k ps sp f fd) (hr : Room j X.A) (hj : k ≤ j := by first | decide | omega)
    (ht : eval (.Call (.Attribute o nm apos) [] [] pos) X.env = (do
      let ov ← eval o X.env
      standAt apos.atName
      let (f, first) ← holding [ov] (getMethod ov nm pl)
      callWith pos f first (backTo pos (starEach [] X.env)) (backToKw pos (keywordEach [] X.env))) := by rfl) : PE X (.Call (.Attribute o nm apos) [] [] pos) (tMeth C nm sp [] E0 ta tNil) :=
  pe_meth0 ho c G.mt G.ok (hr.mono hj) G.bd .nil pass0 ht
/-- a test that is never asked -/
def tNeverT : TT := fun _ _ _ => False
theorem pt_unseen : PT X e tNeverT := ⟨fun _ _ _ _ _ _ h => h.elim⟩
def tNeverE : TE := fun _ _ _ => False
theorem pe_unseen : PE X e tNeverE := ⟨fun _ _ _ _ _ _ h => h.elim⟩
end

/-! ### data, as they stand on the heap: lists and dicts at places of S, a dict never within itself -/
inductive D where
  | non | bl (b : Bool) | int (i : Int) | str (s : Str) | lst (l : List D) | tup (l : List D) | dic (l : List (Str × D))
def Rep (H : Hp) : Nat → (Addr → Prop) → D → V → Prop
  | 0, _, _, _ => False
  | _ + 1, _, .non, v => v = .non
  | _ + 1, _, .bl b, v => v = .bl b
  | _ + 1, _, .int i, v => v = .int i
  | _ + 1, _, .str s, v => v = .str s
  | n + 1, S, .lst l, v => ∃ a xs, v = .ref a ∧ S a ∧ H a = some (.lst xs) ∧ l.length ≤ 100000 ∧ Paired (fun d x => Rep H n S d x) l xs
  | n + 1, S, .tup l, v => ∃ a xs, v = .ref a ∧ H a = some (.tup xs) ∧ l.length ≤ 100000 ∧ Paired (fun d x => Rep H n S d x) l xs
  | n + 1, S, .dic l, v => ∃ a es, v = .ref a ∧ S a ∧ H a = some (.dK es) ∧ l.length ≤ 100000 ∧ Paired (fun (q : Str × D) (e : Key × V) => e.1 = Sum.inr q.1 ∧ Rep H n (fun b => S b ∧ b ≠ a) q.2 e.2) l es
theorem pair_imp {α β : Type} {F G : α → β → Prop} : ∀ {l : List α} {m : List β}, Paired F l m → (∀ a b, F a b → G a b) → Paired G l m
  | _, _, .nil, _ => .nil
  | _, _, .cons h t, k => .cons (k _ _ h) (pair_imp t k)
theorem pair_len {α β : Type} {F : α → β → Prop} : ∀ {l : List α} {m : List β}, Paired F l m → l.length = m.length
  | _, _, .nil => rfl
  | _, _, .cons _ t => congrArg (· + 1) (pair_len t)
theorem pair_at {α β : Type} {F : α → β → Prop} : ∀ {l : List α} {m : List β} {i : Nat} {a : α}, Paired F l m → l[i]? = some a → ∃ b, m[i]? = some b ∧ F a b
  | _, _, _, _, .nil, e => by simp at e
  | _, _, 0, _, .cons h _, e => by
    simp at e; subst e; exact ⟨_, rfl, h⟩
  | _, _, i + 1, _, .cons _ t, e => by
    obtain ⟨b, h1, h2⟩ := pair_at (i := i) t (by simpa using e)
    exact ⟨b, by simpa using h1, h2⟩
theorem pair_back {α β : Type} {F : α → β → Prop} : ∀ {l : List α} {m : List β} {i : Nat} {b : β}, Paired F l m → m[i]? = some b → ∃ a, l[i]? = some a ∧ F a b
  | _, _, _, _, .nil, e => by simp at e
  | _, _, 0, _, .cons h _, e => by
    simp at e; subst e; exact ⟨_, rfl, h⟩
  | _, _, i + 1, _, .cons _ t, e => by
    obtain ⟨b, h1, h2⟩ := pair_back (i := i) t (by simpa using e)
    exact ⟨b, by simpa using h1, h2⟩
theorem pair_app {α β : Type} {F : α → β → Prop} : ∀ {l l' : List α} {m m' : List β}, Paired F l m → Paired F l' m' → Paired F (l ++ l') (m ++ m')
  | _, _, _, _, .nil, t => t
  | _, _, _, _, .cons h r, t => .cons h (pair_app r t)
theorem pair_snoc {α β : Type} {F : α → β → Prop} {l : List α} {m : List β} {a : α} {b : β} (p : Paired F l m) (h : F a b) : Paired F (l ++ [a]) (m ++ [b]) := pair_app p (.cons h .nil)
/-- what is told at the places of S (and of tuples) is all that counts -/
theorem rep_to {H H' : Hp} : ∀ {n : Nat} {S : Addr → Prop} {d : D} {v : V}, (∀ b o, H b = some o → (S b ∨ ∃ xs, o = .tup xs) → H' b = some o) → Rep H n S d v → Rep H' n S d v
  | 0, _, _, _, _, h => h.elim
  | n + 1, S, d, v, k, h => by
    cases d with
    | non => exact h
    | bl b => exact h
    | int i => exact h
    | str s => exact h
    | lst l =>
      obtain ⟨a, xs, e, s, ha, hl, p⟩ := h
      exact ⟨a, xs, e, s, k a _ ha (.inl s), hl, pair_imp p fun d x r => rep_to k r⟩
    | tup l =>
      obtain ⟨a, xs, e, ha, hl, p⟩ := h
      exact ⟨a, xs, e, k a _ ha (.inr ⟨xs, rfl⟩), hl, pair_imp p fun d x r => rep_to k r⟩
    | dic l =>
      obtain ⟨a, es, e, s, ha, hl, p⟩ := h
      exact ⟨a, es, e, s, k a _ ha (.inl s), hl, pair_imp p fun q x r => ⟨r.1, rep_to (fun b o hb z => k b o hb (z.imp (·.1) id)) r.2⟩⟩
theorem rep_ex {H H' : Hp} {n : Nat} {S : Addr → Prop} {d : D} {v : V} (e : Ex H H') (h : Rep H n S d v) : Rep H' n S d v := rep_to (fun b o hb _ => e b o hb) h
theorem rep_S {H : Hp} : ∀ {n : Nat} {S S' : Addr → Prop} {d : D} {v : V}, (∀ b, S b → S' b) → Rep H n S d v → Rep H n S' d v
  | 0, _, _, _, _, _, h => h.elim
  | n + 1, S, S', d, v, k, h => by
    cases d with
    | non => exact h
    | bl b => exact h
    | int i => exact h
    | str s => exact h
    | lst l =>
      obtain ⟨a, xs, e, s, ha, hl, p⟩ := h
      exact ⟨a, xs, e, k a s, ha, hl, pair_imp p fun d x r => rep_S k r⟩
    | tup l =>
      obtain ⟨a, xs, e, ha, hl, p⟩ := h
      exact ⟨a, xs, e, ha, hl, pair_imp p fun d x r => rep_S k r⟩
    | dic l =>
      obtain ⟨a, es, e, s, ha, hl, p⟩ := h
      exact ⟨a, es, e, k a s, ha, hl, pair_imp p fun q x r => ⟨r.1, rep_S (fun b z => ⟨k b z.1, z.2⟩) r.2⟩⟩
theorem rep_up {H : Hp} : ∀ {n : Nat} {S : Addr → Prop} {d : D} {v : V}, Rep H n S d v → Rep H (n + 1) S d v
  | 0, _, _, _, h => h.elim
  | n + 1, S, d, v, h => by
    cases d with
    | non => exact h
    | bl b => exact h
    | int i => exact h
    | str s => exact h
    | lst l =>
      obtain ⟨a, xs, e, s, ha, hl, p⟩ := h
      exact ⟨a, xs, e, s, ha, hl, pair_imp p fun d x r => rep_up r⟩
    | tup l =>
      obtain ⟨a, xs, e, ha, hl, p⟩ := h
      exact ⟨a, xs, e, ha, hl, pair_imp p fun d x r => rep_up r⟩
    | dic l =>
      obtain ⟨a, es, e, s, ha, hl, p⟩ := h
      exact ⟨a, es, e, s, ha, hl, pair_imp p fun q x r => ⟨r.1, rep_up r.2⟩⟩
/-- behind a lock of a, which S does not hold -/
theorem rep_lock {H : Hp} {n : Nat} {S : Addr → Prop} {d : D} {v : V} {a : Addr} {es : List (Key × V)} {u : HO} (ha : H a = some (.dK es)) (hS : ∀ b, S b → b ≠ a) (h : Rep H n S d v) : Rep (upd H a u) n S d v :=
  rep_to (fun b o hb z => by
    have ne : b ≠ a := by
      rcases z with z | ⟨xs, rfl⟩
      · exact hS b z
      · intro e; rw [e, ha] at hb; cases hb
    rw [upd_ne ne]; exact hb) h

/-! ### what a dict tells -/
theorem lk_cons {α : Type} (k j : Str) (d : α) (l : List (Str × α)) : List.lookup k ((j, d) :: l) = if k = j then some d else List.lookup k l := by
  by_cases h : k = j
  · subst h; simp [List.lookup]
  · have e : (k == j) = false := by simpa using h
    rw [if_neg h]; simp [List.lookup, e]
theorem vV_cons (k : Key) (e : Key × V) (l : List (Key × V)) : valV (e :: l) k = if e.1 = k then some e.2 else valV l k := by
  unfold valV
  rw [List.find?_cons]
  by_cases h : e.1 = k
  · rw [decide_eq_true h, if_pos h]; rfl
  · rw [decide_eq_false h, if_neg h]
theorem pair_lk {F : D → V → Prop} : ∀ {l : List (Str × D)} {es : List (Key × V)}, Paired (fun (q : Str × D) (e : Key × V) => e.1 = Sum.inr q.1 ∧ F q.2 e.2) l es → ∀ {k : Str} {d : D}, l.lookup k = some d → ∃ v, valV es (Sum.inr k : Key) = some v ∧ F d v
  | _, _, .nil, k, d, h => by simp [List.lookup] at h
  | (j, d0) :: l, e :: es, .cons h t, k, d, hk => by
    rw [lk_cons] at hk
    rw [vV_cons]
    by_cases c : k = j
    · rw [if_pos c] at hk
      cases hk
      exact ⟨e.2, by rw [if_pos (by rw [h.1, c])], h.2⟩
    · rw [if_neg c] at hk
      obtain ⟨v, h1, h2⟩ := pair_lk t hk
      exact ⟨v, by rw [if_neg (by rw [h.1]; intro z; exact c (Sum.inr.inj z).symm)]; exact h1, h2⟩
theorem pair_no {F : D → V → Prop} : ∀ {l : List (Str × D)} {es : List (Key × V)}, Paired (fun (q : Str × D) (e : Key × V) => e.1 = Sum.inr q.1 ∧ F q.2 e.2) l es → ∀ {k : Str}, l.lookup k = none → valV es (Sum.inr k : Key) = none
  | _, _, .nil, k, h => rfl
  | (j, d0) :: l, e :: es, .cons h t, k, hk => by
    rw [lk_cons] at hk
    rw [vV_cons]
    by_cases c : k = j
    · rw [if_pos c] at hk; cases hk
    · rw [if_neg c] at hk
      rw [if_neg (by rw [h.1]; intro z; exact c (Sum.inr.inj z).symm)]
      exact pair_no t hk

/-! ### expressions that only make objects -/
/-- te gives a v of which P holds (P stays when objects are made) -/
def EvP (te : TE) (σ : L2.St) (H : Hp) (P : V → Hp → Prop) : Prop := ∀ H1, Ex H H1 → ∀ Q : VK, (∀ v H2, Ex H1 H2 → P v H2 → Q v H2) → te σ H1 Q
section
variable {K : PySem.W.Frag} {σ : L2.St} {H H' : Hp} {te ta tb tc : TE} {v x y z : V} {t u : TT}
theorem Ev.p {P : V → Hp → Prop} (h : Ev te σ H v) (hp : ∀ H1, Ex H H1 → P v H1) : EvP te σ H P := fun H1 e Q q => h H1 e Q fun H2 e2 => q v H2 e2 (hp H2 (e.trans e2))
theorem ev_chain {r r' : R2} {b1 b2 : Bool} (ha : Ev ta σ H x) (hb : Ev tb σ H y) (hc : Ev tc σ H z) (h1 : Evl.RV r x y H (.bl b1)) (h2 : Evl.RV r' y z H (.bl b2)) : Ev (tChain r r' ta tb tc) σ H (.bl (b1 && b2)) := fun H1 e Q q =>
  ha H1 e _ fun H2 e2 => hb H2 (e.trans e2) _ fun H3 e3 => h1 H3 ((e.trans e2).trans e3) _ fun H4 e4 => ⟨b1, rfl, by
    cases b1 with
    | true => exact hc H4 (((e.trans e2).trans e3).trans e4) _ fun H5 e5 => h2 H5 ((((e.trans e2).trans e3).trans e4).trans e5) Q fun H6 e6 => q H6 ((((e2.trans e3).trans e4).trans e5).trans e6)
    | false => exact q H4 ((e2.trans e3).trans e4)⟩
theorem ev_isi {n : String} {ty : Value} {b : Bool} (h : Ev te σ H x) (hty : ∀ H1, Ex H H1 → TyX K H1 x ty) (hk : PySem.W.kitOne K ty (.type n) = some b) : Ev (tCB (rIsi K) (tCons te (tCons (tC (.ty n)) tNil))) σ H (.bl b) := fun H1 e Q q =>
  h H1 e _ fun H2 e2 => ⟨x, .ty n, ty, .type n, b, rfl, .ty n, hty H2 (e.trans e2), hk, q H2 e2⟩
theorem ev_isi2 {n m : String} {ty : Value} {b : Bool} (h : Ev te σ H x) (hty : ∀ H1, Ex H H1 → TyX K H1 x ty) (hk : PySem.W.kitAny K ty [.type n, .type m] = some b) :
    Ev (tCB (rIsiT K) (tCons te (tCons (tTup (tCons (tC (.ty n)) (tCons (tC (.ty m)) tNil))) tNil))) σ H (.bl b) := fun H1 e Q q =>
  h H1 e _ fun H2 e2 => ⟨(by show 2 ≤ sizeLine; decide), fun p hp => ⟨x, p, [.ty n, .ty m], ty, [.type n, .type m], b, rfl, upd_same, .cons (.ty n) (.cons (.ty m) .nil), hty _ ((e.trans e2).trans (Ex.new hp)), hk, q _ (e2.trans (Ex.new hp))⟩⟩
theorem ev_all {bs : List Bool} (h : EvL te σ H (bs.map V.bl)) : Ev (tCB (rAll K) (tCons te tNil)) σ H (.bl (bs.all id)) := fun H1 e Q q =>
  h H1 e _ fun p H2 _ e2 hp => ⟨p, bs, rfl, Evl.sq_of hp, q H2 e2⟩
theorem ev_lenS {s : Str} (h : Ev te σ H (.str s)) (hs : s.length ≤ 100000) : Ev (tCB (fun xs H Q => ∃ x n, xs = [x] ∧ LenV K x H n ∧ Q (.int n) H) (tCons te tNil)) σ H (.int (s.length : Int)) := fun H1 e Q q =>
  h H1 e _ fun H2 e2 => ⟨.str s, s.length, rfl, ⟨Evl.sz_of hs, rfl⟩, q H2 e2⟩
theorem ev_lenL {a : Addr} {xs : List V} (h : Ev te σ H (.ref a)) (hx : SqL K H a xs ∨ SqT K H a xs) : Ev (tCB (fun xs H Q => ∃ x n, xs = [x] ∧ LenV K x H n ∧ Q (.int n) H) (tCons te tNil)) σ H (.int (xs.length : Int)) := fun H1 e Q q =>
  h H1 e _ fun H2 e2 => ⟨.ref a, xs.length, rfl, hx.imp (fun z => ⟨xs, Evl.ex_l (e.trans e2) z, rfl⟩) fun z => ⟨xs, Evl.ex_t (e.trans e2) z, rfl⟩, q H2 e2⟩
theorem ev_lenK {a : Addr} {es : List (Key × V)} (h : Ev te σ H (.ref a)) (hx : H a = some (.dK es)) : Ev (tCB (fun xs H Q => ∃ a kvs, xs = [V.ref a] ∧ H a = some (.dK kvs) ∧ Q (.int kvs.length) H) (tCons te tNil)) σ H (.int (es.length : Int)) := fun H1 e Q q =>
  h H1 e _ fun H2 e2 => ⟨a, es, rfl, (e.trans e2) a _ hx, q H2 e2⟩
theorem ev_lenSet {P : Program} {w : World} {a : Addr} {l : List Str} (h : Ev te σ H (.ref a)) (hx : SqL K H a (l.map V.str) ∨ SqT K H a (l.map V.str)) (few : l.length ≤ 1000) :
    Ev (tCB (rLenTxs P w) (tCons (tCB (rSetS K P w) (tCons te tNil)) tNil)) σ H (.int ((met [] l).length : Int)) := fun H1 e Q q =>
  h H1 e _ fun H2 e2 => ⟨a, l, rfl, hx.imp (Evl.ex_l (e.trans e2)) (Evl.ex_t (e.trans e2)), Nat.lt_of_le_of_lt (Nat.add_le_add_right few 1) (by decide), fun p hp => ⟨p, met [] l, rfl, upd_same, by have := met_len l []; simp only [List.length_nil] at this; omega, q _ (e2.trans (Ex.new hp))⟩⟩
theorem ev_get {a : Addr} {es : List (Key × V)} {k : Str} (h : Ev ta σ H (.ref a)) (hk : Ev tb σ H (.str k)) (hx : Rd H a (.dK es)) (hv : valV es (Sum.inr k : Key) = some v) : Ev (tDGet ta tb) σ H v := fun H1 e Q q =>
  h H1 e _ fun H2 e2 => hk H2 (e.trans e2) _ fun H3 e3 => ⟨a, v, rfl, .inl ⟨es, Sum.inr k, Evl.ex_rd ((e.trans e2).trans e3) hx, rfl, hv.symm⟩, q H3 (e2.trans e3)⟩
theorem ev_din {a : Addr} {es : List (Key × V)} {k : Str} (hk : Ev tb σ H (.str k)) (h : Ev ta σ H (.ref a)) (hx : Rd H a (.dK es)) : Ev (tDIn tb ta) σ H (.bl (valV es (Sum.inr k : Key)).isSome) := fun H1 e Q q =>
  hk H1 e _ fun H2 e2 => h H2 (e.trans e2) _ fun H3 e3 => ⟨a, valV es (Sum.inr k), rfl, .inl ⟨es, Sum.inr k, Evl.ex_rd ((e.trans e2).trans e3) hx, rfl, rfl⟩, q H3 (e2.trans e3)⟩
/-- a call whose answer is a plain value -/
theorem ev_fn {sp : Sp} {vs : List V} {ta : TA} (h : EvA ta σ H vs) (hs : ∀ H1, Ex H H1 → ∀ Q : VK, (∀ H2, Ex H1 H2 → Q z H2) → sp vs H1 Q E0) : Ev (tCall sp [] E0 ta) σ H z := fun H1 e Q q =>
  h H1 e _ fun H2 e2 => by
    show sp (vs ++ []) H2 Q E0
    rw [List.append_nil]
    exact hs H2 (e.trans e2) Q fun H3 e3 => q H3 (e2.trans e3)
/-- an argument list whose first item is a new list -/
theorem ev_fnL {sp : Sp} {xs : List V} (h : Ev te σ H x) (hl : EvL tb σ H xs) (hs : ∀ p H1, Ex H H1 → H1 p = some (.lst xs) → ∀ Q : VK, (∀ H2, Ex H1 H2 → Q z H2) → sp [x, .ref p] H1 Q E0) : Ev (tCall sp [] E0 (tCons te (tCons tb tNil))) σ H z := fun H1 e Q q =>
  h H1 e _ fun H2 e2 => hl H2 (e.trans e2) _ fun p H3 _ e3 hp => hs p H3 ((e.trans e2).trans e3) hp Q fun H4 e4 => q H4 ((e2.trans e3).trans e4)
end

/-! ### comprehensions that keep every item -/
section
variable {K : PySem.W.Frag} {σ : L2.St} {H : Hp} {te tl : TE} {vs : List Nat} {J : It} {n : Nat} {G : Hp → Prop} {g : TG}
/-- what the new list holds behind i turns, in a heap that has only grown since H0 -/
def Cm (H0 : Hp) (f : Nat → V) (Dl i : Nat) (H' : Hp) : Prop := H0 Dl = none ∧ Ex H0 H' ∧ H' Dl = some (.lst ((List.range i).map f))
theorem cm_next {H0 H' : Hp} {f : Nat → V} {Dl i : Nat} {σ2 : L2.St} (p : Cm H0 f Dl i H') (hi : i < 100000) (he : Ev te σ2 H0 (f i)) :
    te σ2 H' fun y H4 => ∃ acc, H4 Dl = some (.lst acc) ∧ acc.length < sizeLine ∧ Cm H0 f Dl (i + 1) (upd H4 Dl (.lst (acc ++ [y]))) := by
  obtain ⟨p1, p2, p3⟩ := p
  refine he H' p2 _ fun H4 e4 => ⟨_, e4 Dl _ p3, Evl.sz_lt (by simpa using hi), p1, Ex.mut (p2.trans e4) p1, ?_⟩
  rw [upd_same, List.range_succ, List.map_append]
  rfl
/-- over anything that hands on the items xs and leaves the heap as it is -/
theorem el_walk {xs : List V} {f : Nat → V} (w : Walk J xs.length G (YAt xs)) (hz : xs.length ≤ 100000) {H1 : Hp} (hG : ∀ H', Ex H1 H' → G H') {j : Nat} (hw : ∀ x, wipe ((wipe σ vs).set j (some x)) vs = wipe σ vs)
    (he : ∀ (i : Nat) (x : V), xs[i]? = some x → ∀ H2, Ex H1 H2 → Ev te ((wipe σ vs).set j (some x)) H2 (f i)) {Q : VK} (q : ∀ p H2, H1 p = none → Ex H1 H2 → H2 p = some (.lst ((List.range xs.length).map f)) → Q (.ref p) H2) (Dl : Addr) (hD : H1 Dl = none) :
    ∃ W : Nat → Nat → Hp → Prop, (∃ m, W 0 m (upd H1 Dl (.lst []))) ∧ ∀ i m H, W i m H → (J.stop i H ∧ Q (.ref Dl) H) ∨ (J.go i H ∧ ∃ Nx : Hp → Prop, (∀ H', Nx H' → ∃ m', m' < m ∧ W (i + 1) m' H') ∧ ∀ x H', J.yld i H x H' → gName j x (wipe σ vs) H' fun σ2 H2 =>
      wipe σ2 vs = wipe σ vs ∧ tYes σ2 H2 fun b H3 => if b = true then te σ2 H3 fun y H4 => ∃ acc, H4 Dl = some (.lst acc) ∧ acc.length < sizeLine ∧ Nx (upd H4 Dl (.lst (acc ++ [y]))) else Nx H3) := by
  refine lc_it (g := gName j) (tt := tYes) w (Cm H1 f Dl) ⟨hD, Ex.new hD, upd_same⟩ (fun i H' _ p => hG H' p.2.1) (fun i x H2 H' hi p y => ?_) fun H' p => q Dl H' hD p.2.1 p.2.2
  obtain ⟨rfl, hx⟩ := y
  exact ⟨hw x, cm_next p (by omega) (he i x hx H1 (Ex.refl _))⟩
end
end Ssb

/-! Comprehensions and loops over texts, lists, tuples, dicts (under their lock). -/
namespace Ssb
open PySem PySem.Spec PyProof.Rows L2
open Evl (Ex Ev EvT EvL EvA EvU)
section
variable {K : PySem.W.Frag} {σ : L2.St} {H : Hp} {te tl ta td tb : TE} {vs : List Nat} {j : Nat} {f : Nat → V}
/-- len, list(..), tuple(..), truth: the readings by their names -/
def rLenA (K : PySem.W.Frag) : List V → Hp → VK → Prop := fun xs H Q => ∃ x n, xs = [x] ∧ LenV K x H n ∧ Q (V.int n) H
def rListA (K : PySem.W.Frag) : List V → Hp → VK → Prop := fun xs H Q => ∃ p ys, xs = [V.ref p] ∧ (SqL K H p ys ∨ SqT K H p ys) ∧ ∀ l, H l = none → Q (.ref l) (upd H l (.lst ys))
def rTupA (K : PySem.W.Frag) : List V → Hp → VK → Prop := fun xs H Q => ∃ p ys, xs = [V.ref p] ∧ ((SqL K H p ys ∧ ∀ l, H l = none → Q (.ref l) (upd H l (.tup ys))) ∨ (SqT K H p ys ∧ Q (.ref p) H))
def tTruA (K : PySem.W.Frag) (ta : TE) : TT := fun σ H Q => ta σ H fun x H' => ∃ k, TruV K x H' k ∧ Q k H'
theorem ev_allT {n : Nat} (h : EvL te σ H ((List.range n).map fun _ => V.bl true)) : Ev (tCB (rAll K) (tCons te tNil)) σ H (.bl true) := by
  have e : ((List.range n).map fun _ => V.bl true) = ((List.range n).map fun _ => true).map V.bl := by rw [List.map_map]; rfl
  rw [e] at h
  refine Evl.ev_is (ev_all h) ?_
  congr 1
  rw [List.all_eq_true]
  intro b hb
  obtain ⟨_, _, rfl⟩ := List.mem_map.mp hb
  rfl
theorem el_lcS {s : Str} (h : Ev ta σ H (.str s)) (hz : s.length ≤ 100000) (hw : ∀ x, wipe ((wipe σ vs).set j (some x)) vs = wipe σ vs)
    (he : ∀ (i : Nat) (c : Nat), s.cps[i]? = some c → ∀ H2, Ex H H2 → Ev te ((wipe σ vs).set j (some (.str ⟨#[c]⟩))) H2 (f i)) : EvL (tLc (iStr ta) (gName j) tYes te vs) σ H ((List.range s.length).map f) := fun H1 e Q q =>
  h H1 e _ fun H2 e2 => ⟨s, rfl, fun Dl hD => by
    have w : Walk (Its s) (s.cps.toList.map fun c => V.str ⟨#[c]⟩).length (fun _ => True) (YAt (s.cps.toList.map fun c => V.str ⟨#[c]⟩)) := by
      have l : (s.cps.toList.map fun c => V.str ⟨#[c]⟩).length = s.cps.size := by simp
      rw [l]
      refine walk_str.mono (fun _ z => z) fun i H v H' hi _ y => ?_
      obtain ⟨e, c, hc, rfl⟩ := y
      exact ⟨e, by simp [hc]⟩
    refine el_walk (f := f) w (by rw [List.length_map]; exact hz) (fun _ _ => trivial) hw (fun i x hx H3 e3 => ?_) (fun p H3 hp e3 hl => ?_) Dl hD
    · rw [List.getElem?_map] at hx
      cases hc : s.cps.toList[i]? with
      | none => rw [hc] at hx; cases hx
      | some c =>
        rw [hc] at hx
        cases hx
        exact he i c (by simpa using hc) H3 ((e.trans e2).trans e3)
    · refine q p H3 (Evl.fresh_back e2 hp) (e2.trans e3) ?_
      rw [hl]
      simp [Str.length]⟩
theorem el_lcA {a : Addr} {xs : List V} (h : Ev tl σ H (.ref a)) (hx : SqL K H a xs) (hz : xs.length ≤ 100000) (hw : ∀ x, wipe ((wipe σ vs).set j (some x)) vs = wipe σ vs)
    (he : ∀ (i : Nat) (x : V), xs[i]? = some x → ∀ H2, Ex H H2 → Ev te ((wipe σ vs).set j (some x)) H2 (f i)) : EvL (tLc (iList K tl) (gName j) tYes te vs) σ H ((List.range xs.length).map f) := fun H1 e Q q =>
  h H1 e _ fun H2 e2 => ⟨a, rfl, ⟨xs, Evl.ex_l (e.trans e2) hx⟩, fun Dl hD =>
    el_walk (f := f) walk_list hz (fun H3 e3 => Evl.ex_l ((e.trans e2).trans e3) hx) hw (fun i x h3 H3 e3 => he i x h3 H3 ((e.trans e2).trans e3)) (fun p H3 hp e3 hl => q p H3 (Evl.fresh_back e2 hp) (e2.trans e3) hl) Dl hD⟩
theorem el_lcT {a : Addr} {xs : List V} (h : Ev tl σ H (.ref a)) (hx : SqT K H a xs) (hz : xs.length ≤ 100000) (hw : ∀ x, wipe ((wipe σ vs).set j (some x)) vs = wipe σ vs)
    (he : ∀ (i : Nat) (x : V), xs[i]? = some x → ∀ H2, Ex H H2 → Ev te ((wipe σ vs).set j (some x)) H2 (f i)) : EvL (tLc (iTup K tl) (gName j) tYes te vs) σ H ((List.range xs.length).map f) := fun H1 e Q q =>
  h H1 e _ fun H2 e2 => ⟨a, rfl, ⟨xs, Evl.ex_t (e.trans e2) hx⟩, fun Dl hD =>
    el_walk (f := f) walk_tup hz (fun H3 e3 => Evl.ex_t ((e.trans e2).trans e3) hx) hw (fun i x h3 H3 e3 => he i x h3 H3 ((e.trans e2).trans e3)) (fun p H3 hp e3 hl => q p H3 (Evl.fresh_back e2 hp) (e2.trans e3) hl) Dl hD⟩
/-! ### under a lock -/
theorem unlock {H H' : Hp} {d : Addr} {u u' : HO} (hd : H d = some u) (e : Ex (upd H d u') H') : Ex H (upd H' d u) := fun b o hb => by
  by_cases h : b = d
  · subst h; rw [upd_same]; rw [hd] at hb; exact hb
  · rw [upd_ne h]; exact e b o (by rw [upd_ne h]; exact hb)
theorem lock_keys {d : Addr} {o : Obj} {es : List (Key × V)} : Walk (Itk d o es) (es.map fun e => kV e.1).length (fun H => H d = some (.frz o (.dK es))) (YAt (es.map fun e => kV e.1)) := by
  rw [List.length_map]
  refine walk_keys.mono (fun _ z => z) fun i H x H' _ _ y => ?_
  obtain ⟨e, k, v, hk, rfl⟩ := y
  exact ⟨e, by rw [List.getElem?_map, hk]; rfl⟩
theorem lock_vals {d : Addr} {o : Obj} {es : List (Key × V)} : Walk (Itd d o es) (es.map fun e => e.2).length (fun H => H d = some (.frz o (.dK es))) (YAt (es.map fun e => e.2)) := by
  rw [List.length_map]
  refine walk_values.mono (fun _ z => z) fun i H x H' _ _ y => ?_
  obtain ⟨e, k, hk⟩ := y
  exact ⟨e, by rw [List.getElem?_map, hk]; rfl⟩
theorem el_lcK {d : Addr} {es : List (Key × V)} (h : ∀ H1, Ev td σ H1 (.ref d)) (hd : H d = some (.dK es)) (hz : es.length ≤ 100000) (hw : ∀ x, wipe ((wipe σ vs).set j (some x)) vs = wipe σ vs)
    (he : ∀ (i : Nat) (k : Key) (v : V), es[i]? = some (k, v) → ∀ od H1 H2, Ex H H1 → Ex (upd H1 d (.frz od (.dK es))) H2 → Ev te ((wipe σ vs).set j (some (kV k))) H2 (f i)) : EvL (tLockE (tLc (iKeys td) (gName j) tYes te vs)) σ H ((List.range es.length).map f) := fun H1 e Q q => by
  have hd1 := e d _ hd
  refine ⟨d, .dK es, hd1, trivial, fun od => h _ _ (Ex.refl _) _ fun H2 e2 => ⟨d, od, rfl, .inl ⟨es, e2 d _ upd_same, fun Dl hD => ?_⟩⟩⟩
  refine el_walk (f := f) (Q := fun v H' => H' d = some (.frz od (.dK es)) ∧ Q v (upd H' d (.dK es))) lock_keys (by simpa using hz) (fun H3 e3 => e3 d _ (e2 d _ upd_same)) hw (fun i x hx H3 e3 => ?_) (fun p H3 hp e3 hl => ⟨e3 d _ (e2 d _ upd_same), ?_⟩) Dl hD
  · rw [List.getElem?_map] at hx
    cases hc : es[i]? with
    | none => rw [hc] at hx; cases hx
    | some c =>
      rw [hc] at hx
      cases hx
      exact he i c.1 c.2 hc od H1 H3 e (e2.trans e3)
  · have np : p ≠ d := fun z => by
      have := e2 d _ upd_same
      rw [z, this] at hp; cases hp
    refine q p _ ?_ (unlock hd1 (e2.trans e3)) ?_
    · have := Evl.fresh_back e2 hp
      rw [upd_ne np] at this; exact this
    · rw [upd_ne np, hl, List.length_map]
theorem el_lcV {d : Addr} {es : List (Key × V)} (h : ∀ H1, Ex H H1 → ∀ od, Ev td σ (upd H1 d (.frz od (.dK es))) (.ref d)) (hd : H d = some (.dK es)) (hz : es.length ≤ 100000) (hw : ∀ x, wipe ((wipe σ vs).set j (some x)) vs = wipe σ vs)
    (he : ∀ (i : Nat) (k : Key) (v : V), es[i]? = some (k, v) → ∀ od H1 H2, Ex H H1 → Ex (upd H1 d (.frz od (.dK es))) H2 → Ev te ((wipe σ vs).set j (some v)) H2 (f i)) : EvL (tLockE (tLc (iVals td) (gName j) tYes te vs)) σ H ((List.range es.length).map f) := fun H1 e Q q => by
  have hd1 := e d _ hd
  refine ⟨d, .dK es, hd1, trivial, fun od => h H1 e od _ (Ex.refl _) _ fun H2 e2 => ⟨d, od, es, rfl, e2 d _ upd_same, fun Dl hD => ?_⟩⟩
  refine el_walk (f := f) (Q := fun v H' => H' d = some (.frz od (.dK es)) ∧ Q v (upd H' d (.dK es))) lock_vals (by simpa using hz) (fun H3 e3 => e3 d _ (e2 d _ upd_same)) hw (fun i x hx H3 e3 => ?_) (fun p H3 hp e3 hl => ⟨e3 d _ (e2 d _ upd_same), ?_⟩) Dl hD
  · rw [List.getElem?_map] at hx
    cases hc : es[i]? with
    | none => rw [hc] at hx; cases hx
    | some c =>
      rw [hc] at hx
      cases hx
      exact he i c.1 c.2 hc od H1 H3 e (e2.trans e3)
  · have np : p ≠ d := fun z => by
      have := e2 d _ upd_same
      rw [z, this] at hp; cases hp
    refine q p _ ?_ (unlock hd1 (e2.trans e3)) ?_
    · have := Evl.fresh_back e2 hp
      rw [upd_ne np] at this; exact this
    · rw [upd_ne np, hl, List.length_map]
/-! ### a for under a lock: Pv by the lock's object, the turn, the slots, the heap -/
variable {D : Ends} {ts : TS} {g : TG}
def shut (D : Ends) (d : Addr) (u : HO) (od : Obj) (N : L2.St → Hp → Prop) : Ends :=
  { nx := N, ct := N, bk := fun σ' H' => H' d = some (.frz od u) ∧ D.nx σ' (upd H' d u), rt := fun v H' => H' d = some (.frz od u) ∧ D.rt v (upd H' d u) }
theorem for_lock {d : Addr} {es : List (Key × V)} {J : Obj → It} {ti : TI} {xs : Nat → Option V} (hd : H d = some (.dK es)) (hi : ∀ od R, R (J od) (upd H d (.frz od (.dK es))) → ti σ (upd H d (.frz od (.dK es))) R)
    {Y : Nat → Hp → V → Hp → Prop} (w : ∀ od, Walk (J od) es.length (fun H => H d = some (.frz od (.dK es))) Y) (Pv : Obj → Nat → L2.St → Hp → Prop) (h0 : ∀ od, Pv od 0 σ (upd H d (.frz od (.dK es)))) (hG : ∀ od i σ' H', i ≤ es.length → Pv od i σ' H' → H' d = some (.frz od (.dK es)))
    (hs : ∀ od i x σ' H' H2, i < es.length → Pv od i σ' H' → Y i H' x H2 → g x σ' H2 fun σ2 H3 => ts (shut D d (.dK es) od (Pv od (i + 1))) σ2 H3) (hn : ∀ od σ' H', Pv od es.length σ' H' → D.nx σ' (upd H' d (.dK es))) :
    tLock (tFor ti g ts) D σ H := by
  refine ⟨d, .dK es, hd, trivial, fun od => hi od _ ?_⟩
  exact for_it (w od) (Pv od) (h0 od) (fun i σ' H' hi p => hG od i σ' H' hi p) (fun i x σ' H' H2 hi p y => hs od i x σ' H' H2 hi p y) fun σ' H' p => ⟨hG od _ σ' H' (Nat.le_refl _) p, hn od σ' H' p⟩
end
end Ssb

/-! Comprehensions whose target is unpacked: lists, sets of texts. -/
namespace Ssb
open PySem PySem.Spec PyProof.Rows L2
open Evl (Ex Ev EvT EvL EvA EvU)
/-- the target takes x: the slots are σ2 behind it -/
def Unp (g : TG) (vs : List Nat) (σ σ2 : L2.St) (x : V) (H : Hp) : Prop := wipe σ2 vs = wipe σ vs ∧ ∀ Kont : L2.St → Hp → Prop, Kont σ2 H → g x (wipe σ vs) H Kont
section
variable {K : PySem.W.Frag} {σ : L2.St} {H : Hp} {te tl : TE} {vs : List Nat} {g : TG} {f : Nat → V}
theorem el_lcG {a : Addr} {xs : List V} (h : Ev tl σ H (.ref a)) (hx : SqL K H a xs) (hz : xs.length ≤ 100000) (he : ∀ (i : Nat) (x : V), xs[i]? = some x → ∀ H2, Ex H H2 → ∃ σ2, Unp g vs σ σ2 x H2 ∧ ∀ H3, Ex H H3 → Ev te σ2 H3 (f i)) :
    EvL (tLc (iList K tl) g tYes te vs) σ H ((List.range xs.length).map f) := fun H1 e Q q =>
  h H1 e _ fun H2 e2 => ⟨a, rfl, ⟨xs, Evl.ex_l (e.trans e2) hx⟩, fun Dl hD => by
    refine lc_list (K := K) (a := a) (xs := xs) (Cm H2 f Dl) ⟨hD, Ex.new hD, upd_same⟩ (fun i H' _ p => Evl.ex_l ((e.trans e2).trans p.2.1) hx) (fun i x H' hi p => ?_) fun H' p => q Dl H' (Evl.fresh_back e2 hD) (e2.trans p.2.1) p.2.2
    obtain ⟨σ2, ⟨hw, hk⟩, ev⟩ := he i x hi H' ((e.trans e2).trans p.2.1)
    exact hk _ ⟨hw, cm_next p (by have := (List.getElem?_eq_some_iff.mp hi).1; omega) (ev H2 (e.trans e2))⟩⟩
theorem yes_go {F G : Hp → Prop} (h : F H) : tYes σ H (fun b H3 => if b = true then F H3 else G H3) := by
  show (if true = true then F H else G H)
  rw [if_pos rfl]
  exact h
theorem ev_fld {a C dx : Addr} {fs : List (Str × V)} {v : V} {fn : Str} (h : Ev te σ H (.ref a)) (ho : H a = some (.ins C dx fs)) (c : Cls K C) (n : NoAttr K C fn) (l : fs.lookup fn = some v) : Ev (tFld K te fn) σ H v := fun H1 e Q q =>
  h H1 e _ fun H2 e2 => ⟨a, C, dx, fs, v, rfl, (e.trans e2) _ _ ho, c, n, l, q H2 e2⟩
theorem ev_sum {n : Nat} {c : Nat → Int} (h : EvL te σ H ((List.range n).map fun i => V.int (c i))) : Ev (tCB (rSum K) (tCons te tNil)) σ H (.int ((List.range n).map c).sum) := fun H1 e Q q =>
  h H1 e _ fun p H2 _ e2 hp => ⟨p, (List.range n).map c, rfl, by rw [List.map_map]; exact Evl.sq_of hp, q H2 e2⟩
/-- a pure answer handed on as an argument, a new tuple behind it -/
theorem rv_notN {x : V} : Evl.RV (fun x y H Q => y = .non ∧ Q (.bl (!decide (x = .non))) H) x .non H (.bl (!decide (x = .non))) := fun H1 _ _ q => ⟨rfl, q H1 (Ex.refl _)⟩
theorem rv_isN {x : V} : Evl.RV (fun x y H Q => y = .non ∧ Q (.bl (decide (x = .non))) H) x .non H (.bl (decide (x = .non))) := fun H1 _ _ q => ⟨rfl, q H1 (Ex.refl _)⟩
theorem met_snoc : ∀ (l acc : List Str) (x : Str), met acc (l ++ [x]) = put1 (met acc l) x
  | [], acc, x => rfl
  | y :: l, acc, x => met_snoc l _ x
/-- {name for .. in xs} -/
theorem ex_scG {P : Program} {w : World} {a : Addr} {xs : List V} {nms : List Str} (h : Ev tl σ H (.ref a)) (hx : SqL K H a xs) (hn : nms.length = xs.length) (few : xs.length ≤ 1000)
    (he : ∀ (i : Nat) (x : V), xs[i]? = some x → ∃ s, nms[i]? = some s ∧ ∀ H2, Ex H H2 → ∃ σ2, Unp g vs σ σ2 x H2 ∧ ∀ H3, Ex H H3 → Ev te σ2 H3 (.str s)) :
    Ev (tCB (rLenTxs P w) (tCons (tTxs P w (iList K tl) g tYes te vs) tNil)) σ H (.int ((met [] nms).length : Int)) := fun H1 e Q q =>
  h H1 e _ fun H2 e2 => ⟨a, rfl, ⟨xs, Evl.ex_l (e.trans e2) hx⟩, fun Dl hD => by
    have ml := met_len nms []
    simp only [List.length_nil] at ml
    refine ⟨fun i m H' => m = xs.length - i ∧ i ≤ xs.length ∧ Ex H2 H' ∧ H' Dl = some (Txs P w Dl (met [] (nms.take i))), ⟨xs.length, by simp, Nat.zero_le _, Ex.new hD, upd_same⟩, ?_⟩
    rintro i m H' ⟨rfl, hi, e3, hd⟩
    have sq := Evl.ex_l ((e.trans e2).trans e3) hx
    by_cases hlt : i < xs.length
    · refine .inr ⟨⟨xs, xs[i], sq, by simp [hlt]⟩, fun H' => Ex H2 H' ∧ H' Dl = some (Txs P w Dl (met [] (nms.take (i + 1)))), fun H' p' => ⟨xs.length - (i + 1), by omega, rfl, hlt, p'⟩, fun x H'' y => ?_⟩
      obtain ⟨rfl, y⟩ := y
      obtain ⟨s, hs, he2⟩ := he i x (y xs sq)
      obtain ⟨σ2, ⟨hw, hk⟩, ev⟩ := he2 _ ((e.trans e2).trans e3)
      refine hk _ ⟨hw, ev H2 (e.trans e2) _ e3 _ fun H4 e4 => ⟨s, met [] (nms.take i), rfl, e4 _ _ hd, ?_, Ex.mut (e3.trans e4) hD, ?_⟩⟩
      · have := met_len (nms.take i) []
        simp only [List.length_nil, List.length_take] at this
        exact Nat.lt_of_le_of_lt (show (met [] (nms.take i)).length + 1 ≤ 1001 by omega) (by decide)
      · rw [upd_same, List.take_add_one, hs]
        show _ = some (Txs P w Dl (met [] (nms.take i ++ [s])))
        rw [met_snoc]
    · have ei : i = xs.length := by omega
      subst ei
      refine .inl ⟨⟨xs, sq, Nat.le_refl _⟩, Dl, met [] nms, rfl, ?_, by omega, q H' (e2.trans e3)⟩
      rw [hd, ← hn, List.take_length]⟩
end
end Ssb

/-! Dicts whose keys are None and tuples of any depth together. -/
namespace Ssb
open PySem PySem.Spec PyProof.Rows L2
/-- an entry: its key, the key's value, what is stored -/
abbrev NEnt := NestedKey × Value × Value
def nEnt (w : World) (y : NEnt) : DictEntry := ⟨y.1.hash w, y.2.1, y.2.2⟩
/-- no plain value but None -/
def NoPlain (u : Value) : Prop := u = .none ∨ ∃ b, u = .ref b
def NKey (h : Heap) (k : NestedKey) (u : Value) : Prop := NestedIs h k u ∧ k.depth ≤ 8 ∧ NoPlain u
theorem nAt {w : World} {es : Array DictEntry} {ys : List NEnt} (he : es.toList = ys.map (nEnt w)) (j : Nat) : es[j]? = (ys[j]?).map (nEnt w) := by
  rw [← Array.getElem?_toList, he, List.getElem?_map]
theorem nSize {w : World} {es : Array DictEntry} {ys : List NEnt} (he : es.toList = ys.map (nEnt w)) : es.size = ys.length := by
  have := congrArg List.length he; simpa using this
theorem places_mem {n : Nat} {f : Nat → Option Int} {h : Int} {i : Nat} : i ∈ placesWithHash n f h ↔ i < n ∧ f i = some h := by
  unfold placesWithHash
  simp
theorem places_nd {n : Nat} {f : Nat → Option Int} {h : Int} : (placesWithHash n f h).Nodup := by
  unfold placesWithHash
  exact List.Pairwise.filter _ List.nodup_range
section
variable {prog : Program} {w : World} {A : Around} {E : Value → Shared → Prop} {s : Shared}
theorem w_ite {α : Type} {c : Prop} [Decidable c] {a b : Sem α} {M : Model} {Q : α → Shared → Prop} (h1 : c → wpAny M A a Q E s) (h2 : ¬ c → wpAny M A b Q E s) : wpAny M A (if c then a else b) Q E s := by
  by_cases h : c
  · rw [if_pos h]; exact h1 h
  · rw [if_neg h]; exact h2 h
theorem n_eq {x y : NestedKey} {a b : Value} {Q : Bool → Shared → Prop} (hu : A.units + 8 < cLine) (hx : NKey s.heap x a) (hy : NKey s.heap y b) (h : Q (decide (x = y)) s) : wpAny (model prog w) A (PySem.eqBool a b) Q E s := by
  have dx := hx.2.1
  have dy := hy.2.1
  exact eqAt_key x y A s _ _ hx.1 hy.1 (by omega) _ _ _ _ (by rw [← NestedKey.decide_eq]; exact h)
theorem n_quiet {k : NestedKey} {v : Value} {Q : Bool → Shared → Prop} (hk : NKey s.heap k v) (h : Q true s) : wpAny (model prog w) A (eqIsQuiet 8 v) Q E s := quiet_key k _ 8 s hk.1 hk.2.1 A E Q h
theorem n_tells {k : NestedKey} {u : Value} {l : List Value} {Q : Bool → Shared → Prop} (hk : NKey s.heap k u) (hl : ∀ v ∈ l, ∃ x, NKey s.heap x v) (h : Q false s) : wpAny (model prog w) A (tableMayTell u l) Q E s := by
  unfold tableMayTell
  split
  · exact wpAny_pure h
  refine wpAny_bind (n_quiet hk ?_)
  rw [if_neg (by decide)]
  refine wpAny_bind ?_
  refine wpAny_forIn_list _ (fun left b s' => s' = s ∧ b = (none, ()) ∧ ∀ v ∈ left, ∃ x, NKey s.heap x v) _ (fun v left b s' hh => ?_) (fun b s' hh => ?_) _ _ ⟨rfl, rfl, hl⟩
  · obtain ⟨rfl, rfl, hr⟩ := hh
    obtain ⟨x, hx⟩ := hr v List.mem_cons_self
    refine wpAny_bind (n_quiet hx ?_)
    rw [if_neg (by decide)]
    exact wpAny_pure ⟨rfl, rfl, fun v hv => hr v (List.mem_cons_of_mem _ hv)⟩
  · obtain ⟨rfl, rfl, _⟩ := hh
    exact wpAny_pure h
theorem uniq {ys : List NEnt} (hn : (ys.map (·.1)).Nodup) {i j : Nat} {x y : NEnt} (hi : ys[i]? = some x) (hj : ys[j]? = some y) (e : x.1 = y.1) : i = j := by
  have h1 : (ys.map (·.1))[i]? = some x.1 := by rw [List.getElem?_map, hi]; rfl
  have h2 : (ys.map (·.1))[j]? = some x.1 := by rw [List.getElem?_map, hj, e]; rfl
  exact (List.getElem?_inj (List.getElem?_eq_some_iff.mp h1).1 hn).mp (h1.trans h2.symm)
/-- where the key stands in the table -/
theorem n_find {d : Addr} {u : Value} {o : Obj} {es : Array DictEntry} {ep : Nat} {ys : List NEnt} {k : NestedKey} {Q : Option Nat → Shared → Prop} (hu : A.units + 8 < cLine) (hk : NKey s.heap k u)
    (ho : s.heap.get? d = some o) (hd : o.data = .dict es ep) (he : es.toList = ys.map (nEnt w)) (his : ∀ y ∈ ys, NKey s.heap y.1 y.2.1) (hn : (ys.map (·.1)).Nodup)
    (q0 : (∀ y ∈ ys, y.1 ≠ k) → Q none s) (q1 : ∀ (j : Nat) (y : NEnt), ys[j]? = some y → y.1 = k → Q (some j) s) : wpAny (model prog w) A (dictFind d u (k.hash w)) Q E s := by
  have sz : es.size = ys.length := nSize he
  generalize hp : placesWithHash es.size (fun i => es[i]?.map (·.hash)) (k.hash w) = pl
  have pm : ∀ i, i ∈ pl ↔ ∃ y, ys[i]? = some y ∧ y.1.hash w = k.hash w := fun i => by
    rw [← hp, places_mem, sz]
    constructor
    · rintro ⟨h1, h2⟩
      refine ⟨_, List.getElem?_eq_getElem h1, ?_⟩
      rw [nAt he, List.getElem?_eq_getElem h1] at h2
      exact Option.some.inj h2
    · rintro ⟨y, h1, h2⟩
      refine ⟨(List.getElem?_eq_some_iff.mp h1).1, ?_⟩
      rw [nAt he, h1]
      exact congrArg some h2
  have pn : pl.Nodup := by rw [← hp]; exact places_nd
  have st : ∀ v ∈ pl.filterMap (fun i => es[i]?.map (·.key)), ∃ x, NKey s.heap x v := fun v hv => by
    obtain ⟨i, hi, h2⟩ := List.mem_filterMap.mp hv
    obtain ⟨y, hy, _⟩ := (pm i).mp hi
    rw [nAt he, hy] at h2
    cases h2
    exact ⟨y.1, his y (List.mem_of_getElem? hy)⟩
  have miss : (∀ i ∈ pl, ∀ y, ys[i]? = some y → y.1 ≠ k) → ∀ y ∈ ys, y.1 ≠ k := fun h y hy e => by
    obtain ⟨i, hi⟩ := List.getElem?_of_mem hy
    exact h i ((pm i).mpr ⟨y, hi, by rw [e]⟩) y hi e
  -- one step of the walk
  have at_ : ∀ {i : Nat} {y : NEnt}, ys[i]? = some y → es[i]? = some (nEnt w y) := fun h => by rw [nAt he, h]; rfl
  unfold dictFind
  refine wpAny_holding ?_
  refine wpAny_bind (wpAny_dictEntries ho hd ?_)
  dsimp only
  rw [hp]
  have step : ∀ {i : Nat} {left done : List Nat} {hit : Option Nat}, pl = done ++ i :: left → ((hit = none ∧ ∀ i ∈ done, ∀ y, ys[i]? = some y → y.1 ≠ k) ∨ ∃ j y, hit = some j ∧ j ∈ done ∧ ys[j]? = some y ∧ y.1 = k) →
      ∃ y, ys[i]? = some y ∧ y.1.hash w = k.hash w ∧ (y.1 = k → hit = none) ∧ pl = (done ++ [i]) ++ left ∧ (y.1 ≠ k → ((hit = none ∧ ∀ i2 ∈ done ++ [i], ∀ y, ys[i2]? = some y → y.1 ≠ k) ∨ ∃ j y, hit = some j ∧ j ∈ done ++ [i] ∧ ys[j]? = some y ∧ y.1 = k)) := by
    intro i left done hit epl hh
    obtain ⟨y, hy, e⟩ := (pm i).mp (by rw [epl]; simp)
    refine ⟨y, hy, e, fun ek => ?_, by rw [epl]; simp, fun ne => ?_⟩
    · rcases hh with ⟨h0, _⟩ | ⟨j, y2, _, hj, hy2, e2⟩
      · exact h0
      · have := uniq hn hy hy2 (ek.trans e2.symm)
        subst this
        rw [epl] at pn
        exact absurd rfl ((List.nodup_append.mp pn).2.2 i hj i List.mem_cons_self)
    · rcases hh with ⟨h0, h1⟩ | ⟨j, y2, a1, a2, a3, a4⟩
      · refine .inl ⟨h0, fun i2 h2 y2 hy2 => ?_⟩
        rcases List.mem_append.mp h2 with h2 | h2
        · exact h1 i2 h2 y2 hy2
        · obtain rfl := List.mem_singleton.mp h2
          rw [hy] at hy2
          cases hy2; exact ne
      · exact .inr ⟨j, y2, a1, List.mem_append_left _ a2, a3, a4⟩
  have fin : ∀ {done : List Nat} {hit : Option Nat}, pl = done ++ [] → ((hit = none ∧ ∀ i ∈ done, ∀ y, ys[i]? = some y → y.1 ≠ k) ∨ ∃ j y, hit = some j ∧ j ∈ done ∧ ys[j]? = some y ∧ y.1 = k) → Q hit s := by
    intro done hit epl hh
    rw [List.append_nil] at epl
    rcases hh with ⟨h0, h1⟩ | ⟨j, y2, a1, a2, a3, a4⟩
    · rw [h0]; exact q0 (miss (by rw [epl]; exact h1))
    · rw [a1]; exact q1 j y2 a3 a4
  have any0 : ∀ b, u = .ref b → ¬ (es.any fun e => e.key == Value.ref b && e.hash != k.hash w) = true := by
    intro b eb
    rw [← Array.any_toList, List.any_eq_true]
    rintro ⟨e, hin, hc⟩
    rw [he] at hin
    obtain ⟨y, hy, rfl⟩ := List.mem_map.mp hin
    simp only [nEnt, Bool.and_eq_true, beq_iff_eq, bne_iff_ne, ne_eq] at hc
    have h1 := (his y hy).1
    rw [hc.1, ← eb] at h1
    exact hc.2 (by rw [NestedIs.inj _ _ _ h1 hk.1])
  have epf : ∀ {P : Prop}, (ep != ep) = true → P := fun h => by rw [bne_self_eq_false] at h; cases h
  rcases id hk.2.2 with rfl | ⟨b, rfl⟩ <;> dsimp only
  · refine w_ite (fun _ => ?_) fun _ => ?_
    · unfold dictWalkPlain
      refine wpAny_bind ?_
      refine wpAny_forIn_list _ (fun left b s' => s' = s ∧ b = (none, ()) ∧ ∃ done, pl = done ++ left ∧ ∀ i ∈ done, ∀ y, ys[i]? = some y → y.1 ≠ k) _ (fun i left b s' hh => ?_) (fun b s' hh => ?_) _ _ ⟨rfl, rfl, [], rfl, fun _ h => nomatch h⟩
      · obtain ⟨rfl, rfl, done, epl, hno⟩ := hh
        obtain ⟨y, hy, e, h1, h2, h3⟩ := step (hit := none) epl (.inl ⟨rfl, hno⟩)
        rw [at_ hy]
        dsimp only
        refine w_ite (fun _ => ?_) fun h => absurd (show ((nEnt w y).hash == k.hash w) = true by rw [beq_iff_eq]; exact e) h
        refine wpAny_bind (wpAny_dictEpoch ho hd (wpAny_bind (n_eq hu (his y (List.mem_of_getElem? hy)) hk (wpAny_bind (wpAny_dictEpoch ho hd ?_)))))
        refine w_ite epf fun _ => ?_
        by_cases ek : y.1 = k
        · rw [decide_eq_true ek]
          refine w_ite (fun _ => ?_) fun h => absurd rfl h
          exact wpAny_bind (wpAny_rule (wpAny_pure (wpAny_pure (q1 i y hy ek))))
        · rw [decide_eq_false ek]
          refine w_ite (fun h => nomatch h) fun _ => ?_
          refine wpAny_bind (wpAny_rule (wpAny_pure ⟨rfl, rfl, done ++ [i], h2, ?_⟩))
          rcases h3 ek with ⟨_, h⟩ | ⟨_, _, h, _⟩
          · exact h
          · cases h
      · obtain ⟨rfl, rfl, done, epl, hno⟩ := hh
        exact wpAny_pure (fin epl (.inl ⟨rfl, hno⟩))
    refine w_ite (fun _ => wpAny_bind (wpAny_pure ?_)) fun _ => wpAny_bind (n_tells hk st ?_)
    all_goals
      refine w_ite (fun h => absurd h (by simp)) fun _ => ?_
      refine wpAny_bind ?_
      refine wpAny_forIn_list _ (fun left b s' => s' = s ∧ ∃ hit done, b = (none, hit) ∧ pl = done ++ left ∧ ((hit = none ∧ ∀ i ∈ done, ∀ y, ys[i]? = some y → y.1 ≠ k) ∨ ∃ j y, hit = some j ∧ j ∈ done ∧ ys[j]? = some y ∧ y.1 = k)) _ (fun i left b s' hh => ?_) (fun b s' hh => ?_) _ _ ⟨rfl, none, [], rfl, rfl, .inl ⟨rfl, fun _ h => nomatch h⟩⟩
      · obtain ⟨rfl, hit, done, rfl, epl, hno⟩ := hh
        obtain ⟨y, hy, e, h1, h2, h3⟩ := step epl hno
        rw [at_ hy]
        dsimp only
        refine w_ite (fun _ => ?_) fun h => absurd (show ((nEnt w y).hash == k.hash w) = true by rw [beq_iff_eq]; exact e) h
        refine wpAny_bind (wpAny_dictEpoch ho hd (wpAny_bind (n_eq hu (his y (List.mem_of_getElem? hy)) hk (wpAny_bind (wpAny_dictEpoch ho hd ?_)))))
        refine w_ite epf fun _ => ?_
        by_cases ek : y.1 = k
        · rw [decide_eq_true ek]
          refine w_ite (fun _ => ?_) fun h => absurd rfl h
          obtain rfl := h1 ek
          refine w_ite (fun h => nomatch h) fun _ => ?_
          refine wpAny_bind (wpAny_rule ?_)
          refine w_ite (fun _ => wpAny_pure (wpAny_pure (q1 i y hy ek))) fun _ => wpAny_pure ⟨rfl, some i, done ++ [i], rfl, h2, .inr ⟨i, y, rfl, by simp, hy, ek⟩⟩
        · rw [decide_eq_false ek]
          refine w_ite (fun h => nomatch h) fun _ => ?_
          refine wpAny_bind (wpAny_rule ?_)
          refine w_ite (fun h => absurd h (by simp)) fun _ => ?_
          exact wpAny_pure ⟨rfl, hit, done ++ [i], rfl, h2, h3 ek⟩
      · obtain ⟨rfl, hit, done, rfl, epl, hno⟩ := hh
        exact wpAny_pure (fin epl hno)
  · refine w_ite (fun h => ?_) fun _ => ?_
    · simp [carriedByValue] at h
    refine w_ite (fun h => absurd h (any0 b rfl)) fun _ => ?_
    refine w_ite (fun _ => wpAny_bind (wpAny_pure ?_)) fun _ => wpAny_bind (n_tells hk st ?_)
    all_goals
      refine w_ite (fun h => absurd h (by simp)) fun _ => ?_
      refine wpAny_bind ?_
      refine wpAny_forIn_list _ (fun left b s' => s' = s ∧ ∃ hit done, b = (none, hit) ∧ pl = done ++ left ∧ ((hit = none ∧ ∀ i ∈ done, ∀ y, ys[i]? = some y → y.1 ≠ k) ∨ ∃ j y, hit = some j ∧ j ∈ done ∧ ys[j]? = some y ∧ y.1 = k)) _ (fun i left b s' hh => ?_) (fun b s' hh => ?_) _ _ ⟨rfl, none, [], rfl, rfl, .inl ⟨rfl, fun _ h => nomatch h⟩⟩
      · obtain ⟨rfl, hit, done, rfl, epl, hno⟩ := hh
        obtain ⟨y, hy, e, h1, h2, h3⟩ := step epl hno
        rw [at_ hy]
        dsimp only
        refine w_ite (fun _ => ?_) fun h => absurd (show ((nEnt w y).hash == k.hash w) = true by rw [beq_iff_eq]; exact e) h
        refine wpAny_bind (wpAny_dictEpoch ho hd (wpAny_bind (n_eq hu (his y (List.mem_of_getElem? hy)) hk (wpAny_bind (wpAny_dictEpoch ho hd ?_)))))
        refine w_ite epf fun _ => ?_
        by_cases ek : y.1 = k
        · rw [decide_eq_true ek]
          refine w_ite (fun _ => ?_) fun h => absurd rfl h
          obtain rfl := h1 ek
          refine w_ite (fun h => nomatch h) fun _ => ?_
          refine wpAny_bind (wpAny_rule ?_)
          refine w_ite (fun _ => wpAny_pure (wpAny_pure (q1 i y hy ek))) fun _ => wpAny_pure ⟨rfl, some i, done ++ [i], rfl, h2, .inr ⟨i, y, rfl, by simp, hy, ek⟩⟩
        · rw [decide_eq_false ek]
          refine w_ite (fun h => nomatch h) fun _ => ?_
          refine wpAny_bind (wpAny_rule ?_)
          refine w_ite (fun h => absurd h (by simp)) fun _ => ?_
          exact wpAny_pure ⟨rfl, hit, done ++ [i], rfl, h2, h3 ek⟩
      · obtain ⟨rfl, hit, done, rfl, epl, hno⟩ := hh
        exact wpAny_pure (fin epl hno)

end
end Ssb

namespace Ssb
open PySem PySem.Spec PyProof.Rows L2
section
variable {α : Type}
/-- what is stored at a key -/
def valN (xs : List (NestedKey × α × α)) (k : NestedKey) : Option α := (xs.find? fun x => decide (x.1 = k)).map (·.2.2)
def putN (xs : List (NestedKey × α × α)) (k : NestedKey) (a v : α) : List (NestedKey × α × α) :=
  if (valN xs k).isSome = true then xs.map fun x => if x.1 = k then (x.1, x.2.1, v) else x else xs ++ [(k, a, v)]
theorem valN_cons {x : NestedKey × α × α} {xs : List (NestedKey × α × α)} {k : NestedKey} : valN (x :: xs) k = if x.1 = k then some x.2.2 else valN xs k := by
  unfold valN
  by_cases h : x.1 = k
  · rw [if_pos h, List.find?_cons_of_pos (by simpa using h)]; rfl
  · rw [if_neg h, List.find?_cons_of_neg (by simpa using h)]
theorem valN_none {xs : List (NestedKey × α × α)} {k : NestedKey} : valN xs k = none ↔ ∀ y ∈ xs, y.1 ≠ k := by
  induction xs with
  | nil => exact ⟨(fun _ _ h => nomatch h), fun _ => rfl⟩
  | cons x xs ih =>
    rw [valN_cons]
    by_cases h : x.1 = k
    · rw [if_pos h]
      exact ⟨(fun e => nomatch e), fun hh => absurd h (hh x List.mem_cons_self)⟩
    · rw [if_neg h, ih]
      refine ⟨fun hh y hy => ?_, fun hh y hy => hh y (List.mem_cons_of_mem _ hy)⟩
      rcases List.mem_cons.mp hy with rfl | hy
      · exact h
      · exact hh y hy
theorem valN_at {xs : List (NestedKey × α × α)} (hn : (xs.map (·.1)).Nodup) {j : Nat} {y : NestedKey × α × α} (hj : xs[j]? = some y) : valN xs y.1 = some y.2.2 := by
  induction xs generalizing j with
  | nil => simp at hj
  | cons x xs ih =>
    rw [valN_cons]
    rw [List.map_cons, List.nodup_cons] at hn
    cases j with
    | zero => cases hj; rw [if_pos rfl]
    | succ j =>
      have hj : xs[j]? = some y := by simpa using hj
      rw [if_neg (fun e : x.1 = y.1 => hn.1 (List.mem_map.mpr ⟨y, List.mem_of_getElem? hj, e.symm⟩))]
      exact ih hn.2 hj
theorem putN_keys (xs : List (NestedKey × α × α)) (k : NestedKey) (a v : α) : (putN xs k a v).map (·.1) = if (valN xs k).isSome = true then xs.map (·.1) else xs.map (·.1) ++ [k] := by
  unfold putN
  by_cases h : (valN xs k).isSome = true
  · rw [if_pos h, if_pos h, List.map_map]
    refine List.map_congr_left fun x _ => ?_
    show (if x.1 = k then (x.1, x.2.1, v) else x).1 = x.1
    by_cases e : x.1 = k
    · rw [if_pos e]
    · rw [if_neg e]
  · rw [if_neg h, if_neg h, List.map_append]; rfl
theorem putN_nd {xs : List (NestedKey × α × α)} {k : NestedKey} {a v : α} (hn : (xs.map (·.1)).Nodup) : ((putN xs k a v).map (·.1)).Nodup := by
  rw [putN_keys]
  by_cases h : (valN xs k).isSome = true
  · rw [if_pos h]; exact hn
  · rw [if_neg h]
    have h0 : valN xs k = none := by cases e : valN xs k with
      | none => rfl
      | some z => rw [e] at h; exact absurd rfl h
    refine List.nodup_append.mpr ⟨hn, by simp, fun a ha b hb => ?_⟩
    rw [List.mem_singleton.mp hb]
    obtain ⟨y, hy, rfl⟩ := List.mem_map.mp ha
    exact valN_none.mp h0 y hy
theorem putN_len (xs : List (NestedKey × α × α)) (k : NestedKey) (a v : α) : (putN xs k a v).length ≤ xs.length + 1 := by
  unfold putN
  by_cases h : (valN xs k).isSome = true
  · rw [if_pos h, List.length_map]; omega
  · rw [if_neg h, List.length_append]; exact Nat.le_refl _
theorem putN_mem {xs : List (NestedKey × α × α)} {k : NestedKey} {a v : α} {y : NestedKey × α × α} (h : y ∈ putN xs k a v) : (∃ x ∈ xs, x.1 = y.1 ∧ x.2.1 = y.2.1) ∨ (y.1 = k ∧ y.2.1 = a) := by
  unfold putN at h
  by_cases c : (valN xs k).isSome = true
  · rw [if_pos c] at h
    obtain ⟨x, hx, e⟩ := List.mem_map.mp h
    refine .inl ⟨x, hx, ?_⟩
    by_cases ek : x.1 = k
    · rw [if_pos ek] at e; rw [← e]; exact ⟨rfl, rfl⟩
    · rw [if_neg ek] at e; rw [← e]; exact ⟨rfl, rfl⟩
  · rw [if_neg c] at h
    rcases List.mem_append.mp h with h | h
    · exact .inl ⟨y, h, rfl, rfl⟩
    · rw [List.mem_singleton.mp h]; exact .inr ⟨rfl, rfl⟩
theorem putN_val {xs : List (NestedKey × α × α)} {k q : NestedKey} {a v : α} : valN (putN xs k a v) q = if q = k then some v else valN xs q := by
  unfold putN
  by_cases c : (valN xs k).isSome = true
  · rw [if_pos c]
    induction xs with
    | nil => cases c
    | cons x xs ih =>
      rw [List.map_cons, valN_cons, valN_cons]
      by_cases ek : x.1 = k
      · rw [if_pos ek]
        by_cases eq : q = k
        · rw [if_pos (show (x.1, x.2.1, v).1 = q by rw [eq]; exact ek), if_pos eq]
        · have n1 : ¬ x.1 = q := fun e => eq (e.symm.trans ek)
          rw [if_neg (show ¬ (x.1, x.2.1, v).1 = q from n1), if_neg eq, if_neg n1]
          by_cases c2 : (valN xs k).isSome = true
          · rw [ih c2, if_neg eq]
          · have hn : ∀ y ∈ xs, y.1 ≠ k := valN_none.mp (by cases e : valN xs k with
              | none => rfl
              | some z => rw [e] at c2; exact absurd rfl c2)
            rw [show (xs.map fun x => if x.1 = k then (x.1, x.2.1, v) else x) = xs from by
              conv => rhs; rw [← List.map_id xs]
              exact List.map_congr_left fun y hy => if_neg (hn y hy)]
      · rw [if_neg ek]
        rw [valN_cons, if_neg ek] at c
        rw [ih c]
        by_cases eq : x.1 = q
        · rw [if_pos eq, if_neg (fun e => ek (eq.trans e)), if_pos eq]
        · rw [if_neg eq, if_neg eq]
  · rw [if_neg c]
    induction xs with
    | nil =>
      rw [List.nil_append, valN_cons]
      by_cases e : q = k
      · rw [if_pos e, if_pos e.symm]
      · rw [if_neg e, if_neg (fun z => e z.symm)]
    | cons x xs ih =>
      rw [List.cons_append, valN_cons, valN_cons]
      rw [valN_cons] at c
      by_cases ek : x.1 = k
      · rw [if_pos ek] at c; exact absurd rfl c
      rw [if_neg ek] at c
      rw [ih c]
      by_cases eq : x.1 = q
      · rw [if_pos eq, if_pos eq, if_neg (fun e => ek (eq.trans e))]
      · rw [if_neg eq, if_neg eq]
end
/-- a dict of such keys in the heap -/
def NDict (w : World) (h : Heap) (d : Addr) (ys : List NEnt) : Prop := ∃ o es ep, h.get? d = some o ∧ o.ExactDict ∧ o.data = .dict es ep ∧ es.toList = ys.map (nEnt w)
theorem NDict.typeIs {w : World} {s : Shared} {d : Addr} {ys : List NEnt} (x : NDict w s.heap d ys) : s.TypeIs (.ref d) "dict" := let ⟨o, _, _, ho, hc, _⟩ := x; ⟨o, ho, hc.1⟩
section
variable {prog : Program} {w : World} {A : Around} {E : Value → Shared → Prop} {s : Shared} {d : Addr} {u : Value} {k : NestedKey} {ys : List NEnt}
theorem n_hash {Q : Int → Shared → Prop} (hu : A.units + 8 < cLine) (hk : NKey s.heap k u) (h : Q (k.hash w) { s with toks := s.toks + k.draws }) : wpAny (model prog w) A (PySem.pyHash u) Q E s := by
  have dk := hk.2.1
  exact pyHash_key _ _ _ _ _ hk.1 (by omega) h
theorem n_get {Q : Option Value → Shared → Prop} (hu : A.units + 8 < cLine) (hk : NKey s.heap k u) (hm : NDict w s.heap d ys) (his : ∀ y ∈ ys, NKey s.heap y.1 y.2.1) (hn : (ys.map (·.1)).Nodup)
    (h : Q (valN ys k) { s with toks := s.toks + k.draws }) : wpAny (model prog w) A (dictGet d u) Q E s := by
  obtain ⟨o, es, ep, ho, _, hd, he⟩ := hm
  unfold dictGet
  refine wpAny_holding (wpAny_bind (n_hash hu hk (wpAny_bind (n_find (s := { s with toks := s.toks + k.draws }) hu hk ho hd he his hn (fun no => ?_) fun j y hj e => ?_))))
  · rw [valN_none.mpr no] at h
    exact wpAny_pure h
  · subst e
    rw [valN_at hn hj] at h
    refine wpAny_bind (wpAny_dictEntries (s := { s with toks := s.toks + y.1.draws }) ho hd ?_)
    rw [nAt he, hj]
    exact wpAny_pure h
theorem NKey.keeps {h h' : Heap} {o : Obj} {es : Array DictEntry} {ep : Nat} (x : NKey h k u) (ho : h.get? d = some o) (hd : o.data = .dict es ep) (hs : Heap.SameBut d h h') : NKey h' k u :=
  ⟨NestedIs.at (fun b ob vs n hb hc => (hs.2 b (fun e => by rw [e, ho] at hb; cases hb; rw [hd] at hc; cases hc)).trans hb) k u x.1, x.2⟩
theorem mod_put {v : Value} : ∀ {ys : List NEnt} {j : Nat} {y : NEnt}, (ys.map (·.1)).Nodup → ys[j]? = some y → (ys.map (nEnt w)).modify j (fun e => { e with val := v }) = (ys.map fun x => if x.1 = y.1 then (x.1, x.2.1, v) else x).map (nEnt w)
  | [], _, _, _, h => by simp at h
  | x :: ys, 0, y, hn, h => by
    cases h
    rw [List.map_cons, List.nodup_cons] at hn
    rw [List.map_cons, List.map_cons, List.map_cons, if_pos rfl]
    have : (ys.map fun z => if z.1 = x.1 then (z.1, z.2.1, v) else z) = ys := by
      conv => rhs; rw [← List.map_id ys]
      exact List.map_congr_left fun z hz => if_neg fun e => hn.1 (List.mem_map.mpr ⟨z, hz, e⟩)
    rw [this]
    rfl
  | x :: ys, j + 1, y, hn, h => by
    rw [List.map_cons, List.nodup_cons] at hn
    have h : ys[j]? = some y := by simpa using h
    rw [List.map_cons, List.map_cons, List.map_cons, if_neg (fun e => hn.1 (List.mem_map.mpr ⟨y, List.mem_of_getElem? h, e.symm⟩)), ← mod_put hn.2 h]
    rfl
theorem n_set {v : Value} {Q : Unit → Shared → Prop} (hu : A.units + 8 < cLine) (hk : NKey s.heap k u) (hm : NDict w s.heap d ys) (his : ∀ y ∈ ys, NKey s.heap y.1 y.2.1) (hn : (ys.map (·.1)).Nodup) (hz : ys.length ≤ sizeLine)
    (h : ∀ h', NDict w h' d (putN ys k u v) → Heap.SameBut d s.heap h' → Q () { s with heap := h', toks := s.toks + k.draws }) : wpAny (model prog w) A (dictSet d u v) Q E s := by
  obtain ⟨o, es, ep, ho, hc, hd, he⟩ := hm
  unfold dictSet
  refine wpAny_holding (wpAny_bind (n_hash hu hk ?_))
  unfold dictSetHashed
  refine wpAny_holding (wpAny_bind (n_find (s := { s with toks := s.toks + k.draws }) hu hk ho hd he his hn (fun no => ?_) fun j y hj e => ?_))
  · have e0 : putN ys k u v = ys ++ [(k, u, v)] := by
      unfold putN
      rw [valN_none.mpr no]
      rfl
    rw [e0] at h
    refine wpAny_bind (wpAny_rule ?_)
    refine wpAny_updateDictKeys (hz := by have e := nSize he; omega) (s := { s with toks := s.toks + k.draws }) ho hd (h _ ⟨_, _, ep + 1, Heap.get?_update_self _ ho (Obj.isFreed_of_dict (Obj.data_mapDictKeys hd _)), hc.mapDictKeys _, Obj.data_mapDictKeys hd _, ?_⟩ (Heap.SameBut.update ..))
    rw [List.map_append, ← he]
    simp [nEnt]
  · subst e
    have e0 : putN ys y.1 u v = ys.map fun x => if x.1 = y.1 then (x.1, x.2.1, v) else x := by
      unfold putN
      rw [valN_at hn hj]
      rfl
    rw [e0] at h
    refine wpAny_bind (wpAny_rule (wpAny_bind ?_))
    refine wpAny_updateDict (s := { s with toks := s.toks + y.1.draws }) ho hd (wpAny_point (h _ ⟨_, _, ep, Heap.get?_update_self _ ho (Obj.isFreed_of_dict (Obj.data_mapDict hd _)), hc.mapDict _, Obj.data_mapDict hd _, ?_⟩ (Heap.SameBut.update ..)))
    rw [← mod_put hn hj, ← he]
    obtain ⟨l⟩ := es
    simp
end
end Ssb

namespace Ssb
open PySem PySem.Spec PyProof.Rows L2
/-- the value v is the key k -/
def KeyAt (H : Hp) : D → V → Prop := fun d v => ∃ n S, Rep H n S d v
/-- data that may be keys -/
def kdD : Nat → D → Prop
  | _, .non => True
  | _, .int _ => True
  | _, .str _ => True
  | n + 1, .tup l => ∀ x ∈ l, kdD n x
  | _, _ => False
mutual
def nkD : D → NestedKey
  | .non => .none
  | .int i => .num i
  | .str s => .text s
  | .tup l => .tup (nkL l)
  | .bl _ => .none
  | .lst _ => .none
  | .dic _ => .none
def nkL : List D → List NestedKey
  | [] => []
  | d :: l => nkD d :: nkL l
end
theorem nk_depth : ∀ {n : Nat} {d : D}, kdD n d → (nkD d).depth ≤ n
  | n, .non, _ => by rw [nkD]; exact Nat.zero_le _
  | n, .int _, _ => by rw [nkD]; exact Nat.zero_le _
  | n, .str _, _ => by rw [nkD]; exact Nat.zero_le _
  | n + 1, .tup l, h => by
    rw [nkD]
    show NestedKey.depthAll (nkL l) + 1 ≤ n + 1
    have : ∀ l : List D, (∀ x ∈ l, kdD n x) → NestedKey.depthAll (nkL l) ≤ n := fun l => by
      induction l with
      | nil => intro _; exact Nat.zero_le _
      | cons d l ih =>
        intro h
        rw [nkL]
        show max (nkD d).depth (NestedKey.depthAll (nkL l)) ≤ n
        exact Nat.max_le.mpr ⟨nk_depth (h d List.mem_cons_self), ih fun x hx => h x (List.mem_cons_of_mem _ hx)⟩
    have := this l h
    omega
  | 0, .tup _, h => h.elim
  | n, .bl _, h => by cases n <;> exact h.elim
  | n, .lst _, h => by cases n <;> exact h.elim
  | n, .dic _, h => by cases n <;> exact h.elim
theorem nk_inj : ∀ {n m : Nat} {a b : D}, kdD n a → kdD m b → nkD a = nkD b → a = b := by
  intro n
  induction n with
  | zero =>
    intro m a b ha hb e
    cases a <;> cases b <;> simp only [nkD] at e <;> first | rfl | (cases e; rfl) | exact ha.elim | (cases m <;> exact hb.elim) | cases e
  | succ n ih =>
    intro m a b ha hb e
    cases a with
    | tup l =>
      cases b with
      | tup l' =>
        cases m with
        | zero => exact hb.elim
        | succ m =>
        simp only [nkD] at e
        injection e with e
        have : ∀ l l' : List D, (∀ x ∈ l, kdD n x) → (∀ x ∈ l', kdD m x) → nkL l = nkL l' → l = l' := fun l => by
          induction l with
          | nil => intro l' _ _ e; cases l' with
            | nil => rfl
            | cons y l' => rw [nkL, nkL] at e; cases e
          | cons x l ih2 =>
            intro l' h1 h2 e
            cases l' with
            | nil => rw [nkL, nkL] at e; cases e
            | cons y l' =>
              rw [nkL, nkL] at e
              injection e with e1 e2
              rw [ih (h1 x List.mem_cons_self) (h2 y List.mem_cons_self) e1, ih2 l' (fun z hz => h1 z (List.mem_cons_of_mem _ hz)) (fun z hz => h2 z (List.mem_cons_of_mem _ hz)) e2]
        rw [this l l' ha hb e]
      | non => simp only [nkD] at e; cases e
      | int i => simp only [nkD] at e; cases e
      | str s => simp only [nkD] at e; cases e
      | bl i => cases m <;> exact hb.elim
      | lst i => cases m <;> exact hb.elim
      | dic i => cases m <;> exact hb.elim
    | non => cases b <;> simp only [nkD] at e <;> first | rfl | (cases m <;> exact hb.elim) | cases e
    | int i => cases b <;> simp only [nkD] at e <;> first | (cases e; rfl) | (cases m <;> exact hb.elim) | cases e
    | str i => cases b <;> simp only [nkD] at e <;> first | (cases e; rfl) | (cases m <;> exact hb.elim) | cases e
    | bl i => exact ha.elim
    | lst i => exact ha.elim
    | dic i => exact ha.elim
section
variable {P : Program} {w : World} {H : Hp} {h : Heap}
theorem rep_nested (ok : HOk P w H h) : ∀ {n m : Nat} {S : Addr → Prop} {d : D} {v : V} {u : Value}, kdD n d → Rep H m S d v → RelV v u → NestedIs h (nkD d) u
  | _, 0, _, _, _, _, _, r, _ => r.elim
  | n, m + 1, S, .non, v, u, _, r, e => by
    have r : v = .non := r
    subst r
    obtain rfl : u = Value.none := e
    rw [nkD]; exact .none
  | n, m + 1, S, .int i, v, u, _, r, e => by
    have r : v = .int i := r
    subst r
    obtain ⟨t, rfl⟩ := e
    rw [nkD]; exact .int i t
  | n, m + 1, S, .str i, v, u, _, r, e => by
    have r : v = .str i := r
    subst r
    obtain ⟨t, rfl⟩ := e
    rw [nkD]; exact .text i t
  | n + 1, m + 1, S, .tup l, v, u, hk, r, e => by
    obtain ⟨t, ys, rfl, ht, _, pr⟩ := r
    obtain rfl : u = Value.ref t := e
    obtain ⟨_, its, rv, o, h1, h2, n1, h3⟩ := (show ObjOk P w H h t (.tup ys) from ok t _ ht)
    rw [nkD]
    refine .tup h1 h2 h3 ?_
    have : ∀ {l : List D} {ys : List V} {its : List Value}, (∀ x ∈ l, kdD n x) → Paired (fun d x => Rep H m S d x) l ys → Vals ys its → NestedAll h (nkL l) its := fun {l} => by
      induction l with
      | nil => intro ys its _ pr rv; cases pr; cases rv; rw [nkL]; exact .nil
      | cons d l ih =>
        intro ys its hk pr rv
        cases pr with
        | cons p1 pr =>
        cases rv with
        | cons v1 rv =>
        rw [nkL]
        exact .cons (rep_nested ok (hk d List.mem_cons_self) p1 v1) (ih (fun x hx => hk x (List.mem_cons_of_mem _ hx)) pr rv)
    simpa using this hk pr rv
  | 0, m + 1, S, .tup l, v, u, hk, r, e => hk.elim
  | n, m + 1, S, .bl l, v, u, hk, r, e => by cases n <;> exact hk.elim
  | n, m + 1, S, .lst l, v, u, hk, r, e => by cases n <;> exact hk.elim
  | n, m + 1, S, .dic l, v, u, hk, r, e => by cases n <;> exact hk.elim
/-- v is the key d: None or a tuple of keys -/
def KeyV (H : Hp) (d : D) (v : V) : Prop := kdD 8 d ∧ (d = .non ∨ ∃ l, d = .tup l) ∧ ∃ n S, Rep H n S d v
theorem key_n {d : D} {v : V} {u : Value} (ok : HOk P w H h) (k : KeyV H d v) (e : RelV v u) : NKey h (nkD d) u := by
  obtain ⟨h1, h2, n, S, r⟩ := k
  refine ⟨rep_nested ok h1 r e, nk_depth h1, ?_⟩
  cases n with
  | zero => exact r.elim
  | succ n =>
  rcases h2 with rfl | ⟨l, rfl⟩
  · have r : v = .non := r
    subst r
    exact .inl e
  · obtain ⟨t, _, rfl, _⟩ := r
    exact .inr ⟨t, e⟩
theorem KeyV.ex {H' : Hp} {d : D} {v : V} (e : ∀ b o, H b = some o → H' b = some o) (k : KeyV H d v) : KeyV H' d v := let ⟨h1, h2, n, S, r⟩ := k; ⟨h1, h2, n, S, rep_ex e r⟩
end
/-- an entry of a dict: its key as data, the key's value, what is stored -/
abbrev XEnt := D × V × V
def xk (x : XEnt) : NestedKey × V × V := (nkD x.1, x.2.1, x.2.2)
def RelE (x : XEnt) (y : NEnt) : Prop := nkD x.1 = y.1 ∧ RelV x.2.1 y.2.1 ∧ RelV x.2.2 y.2.2
/-- such a dict, as it is known -/
def DkO (w : World) (a : Addr) (xs : List XEnt) : HO := .ext fun h => xs.length ≤ sizeLine ∧ (a == sysModules) = false ∧ ∃ ys, NDict w h a ys ∧ Paired RelE xs ys ∧ ((xs.map xk).map (·.1)).Nodup
def Keys (H : Hp) (xs : List XEnt) : Prop := ∀ x ∈ xs, KeyV H x.1 x.2.1
def valX (xs : List XEnt) (d : D) : Option V := valN (xs.map xk) (nkD d)
def putX (xs : List XEnt) (d : D) (a v : V) : List XEnt := if (valX xs d).isSome = true then xs.map fun x => if nkD x.1 = nkD d then (x.1, x.2.1, v) else x else xs ++ [(d, a, v)]
theorem Paired.mem2 {α β : Type} {F : α → β → Prop} : ∀ {l : List α} {m : List β}, Paired F l m → ∀ b ∈ m, ∃ a ∈ l, F a b
  | _, _, .nil, _, h => nomatch h
  | _, _, .cons h t, b, hb => by
    rcases List.mem_cons.mp hb with rfl | hb
    · exact ⟨_, List.mem_cons_self, h⟩
    · obtain ⟨a, ha, e⟩ := Paired.mem2 t b hb
      exact ⟨a, List.mem_cons_of_mem _ ha, e⟩
theorem rel_val {xs : List XEnt} {ys : List NEnt} (h : Paired RelE xs ys) (k : NestedKey) : RelO (valN (xs.map xk) k) (valN ys k) := by
  induction h with
  | nil => exact True.intro
  | @cons x y xs ys h t ih =>
    rw [List.map_cons, valN_cons, valN_cons]
    by_cases e : nkD x.1 = k
    · rw [if_pos (show (xk x).1 = k from e), if_pos (by rw [← h.1]; exact e)]
      exact h.2.2
    · rw [if_neg (show ¬ (xk x).1 = k from e), if_neg (by rw [← h.1]; exact e)]
      exact ih
theorem putX_xk {xs : List XEnt} {d : D} {a v : V} : (putX xs d a v).map xk = putN (xs.map xk) (nkD d) a v := by
  unfold putX putN
  by_cases c : (valN (xs.map xk) (nkD d)).isSome = true
  · rw [if_pos (show (valX xs d).isSome = true from c), if_pos c, List.map_map, List.map_map]
    refine List.map_congr_left fun x _ => ?_
    show xk (if nkD x.1 = nkD d then (x.1, x.2.1, v) else x) = if (xk x).1 = nkD d then ((xk x).1, (xk x).2.1, v) else xk x
    by_cases e : nkD x.1 = nkD d
    · rw [if_pos e, if_pos (show (xk x).1 = nkD d from e)]; rfl
    · rw [if_neg e, if_neg (show ¬ (xk x).1 = nkD d from e)]
  · rw [if_neg (show ¬ (valX xs d).isSome = true from c), if_neg c, List.map_append]; rfl
theorem RelO.isS {o : Option V} {p : Option Value} (h : RelO o p) : o.isSome = p.isSome := by
  cases o <;> cases p <;> first | rfl | exact h.elim
theorem rel_put {xs : List XEnt} {ys : List NEnt} {d : D} {a v : V} {u r : Value} (h : Paired RelE xs ys) (ra : RelV a u) (rv : RelV v r) : Paired RelE (putX xs d a v) (putN ys (nkD d) u r) := by
  have e := RelO.isS (rel_val h (nkD d))
  unfold putX putN
  by_cases c : (valN ys (nkD d)).isSome = true
  · rw [if_pos (show (valX xs d).isSome = true from e.trans c), if_pos c]
    clear e c
    induction h with
    | nil => exact .nil
    | @cons x y xs ys h t ih =>
      rw [List.map_cons, List.map_cons]
      refine .cons ?_ ih
      by_cases e : nkD x.1 = nkD d
      · rw [if_pos e, if_pos (by rw [← h.1]; exact e)]
        exact ⟨h.1, h.2.1, rv⟩
      · rw [if_neg e, if_neg (by rw [← h.1]; exact e)]
        exact h
  · rw [if_neg (show ¬ (valX xs d).isSome = true from fun z => c (e.symm.trans z)), if_neg c]
    clear e c
    induction h with
    | nil => exact .cons ⟨rfl, ra, rv⟩ .nil
    | cons h t ih => exact .cons h ih
theorem putX_len {xs : List XEnt} {d : D} {a v : V} : (putX xs d a v).length ≤ xs.length + 1 := by
  have := putN_len (xs.map xk) (nkD d) a v
  rw [← putX_xk, List.length_map, List.length_map] at this
  exact this
theorem putX_keys {H : Hp} {xs : List XEnt} {d : D} {a v : V} (h : Keys H xs) (k : KeyV H d a) : Keys H (putX xs d a v) := fun y hy => by
  unfold putX at hy
  by_cases c : (valX xs d).isSome = true
  · rw [if_pos c] at hy
    obtain ⟨x, hx, e⟩ := List.mem_map.mp hy
    by_cases ek : nkD x.1 = nkD d
    · rw [if_pos ek] at e; rw [← e]; exact h x hx
    · rw [if_neg ek] at e; rw [← e]; exact h x hx
  · rw [if_neg c] at hy
    rcases List.mem_append.mp hy with hy | hy
    · exact h y hy
    · rw [List.mem_singleton.mp hy]; exact k
theorem valX_put {xs : List XEnt} {d q : D} {a v : V} : valX (putX xs d a v) q = if nkD q = nkD d then some v else valX xs q := by
  unfold valX
  rw [putX_xk, putN_val]
section
variable {P : Program} {w : World} {H : Hp} {h : Heap} {a : Addr}
theorem dn_of {xs : List XEnt} (ok : HOk P w H h) (hk : Keys H xs) (e : Rd H a (DkO w a xs)) : xs.length ≤ sizeLine ∧ (a == sysModules) = false ∧ ∃ ys, NDict w h a ys ∧ Paired RelE xs ys ∧ (ys.map (·.1)).Nodup ∧ ∀ y ∈ ys, NKey h y.1 y.2.1 := by
  obtain ⟨⟨h1, h2, ys, h3, h4, h5⟩, h6⟩ := (show ObjOk P w H h a (DkO w a xs) from e.ok ok)
  refine ⟨h1, h2, ys, h3, h4, ?_, fun y hy => ?_⟩
  · have : ys.map (·.1) = (xs.map xk).map (·.1) := by
      clear h3 h5 hk e h1 h2 h6
      induction h4 with
      | nil => rfl
      | cons h t ih => rw [List.map_cons, List.map_cons, List.map_cons, ih, ← h.1]; rfl
    rw [this]; exact h5
  · obtain ⟨x, hx, e⟩ := Paired.mem2 h4 y hy
    rw [← e.1]
    exact key_n ok (hk x hx) e.2.1
theorem dn_new {H' : Hp} {h' : Heap} {xs : List XEnt} {ys : List NEnt} (h1 : xs.length ≤ sizeLine) (h2 : (a == sysModules) = false) (h3 : NDict w h' a ys) (h4 : Paired RelE xs ys) (h5 : ((xs.map xk).map (·.1)).Nodup) : ObjOk P w H' h' a (DkO w a xs) := by
  refine ⟨⟨h1, h2, ys, h3, h4, h5⟩, ?_, fun g1 g2 p k => ?_⟩
  · obtain ⟨o, _, _, ho, _⟩ := h3; exact ⟨o, ho⟩
  · obtain ⟨a1, a2, zs, ⟨o, es, ep, ho, r⟩, a4⟩ := p
    exact ⟨a1, a2, zs, ⟨o, es, ep, k o ho, r⟩, a4⟩
end
/-- what the dict at a holds at y -/
def NGet (w : World) (H : Hp) (a : Addr) (y : V) (r : Option V) : Prop := ∃ xs d, Rd H a (DkO w a xs) ∧ Keys H xs ∧ KeyV H d y ∧ r = valX xs d
section
variable {X : Cx} {pins : List (Addr × Obj)} {σ : L2.St} {H : Hp} {s : Shared} {a : Addr} {y v : V} {u r : Value} {o : Option V} {A : Around} {E : Value → Shared → Prop}
theorem ng_at (I : L2.Inv X pins σ H s) (g : NGet X.w H a y o) : s.TypeIs (.ref a) "dict" ∧ (∀ b, Value.ref a = .ref b → ∃ ob, s.heap.get? b = some ob ∧ ob.dict = none) ∧ (a == sysModules) = false := by
  obtain ⟨xs, d, hr, hk, _⟩ := g
  obtain ⟨_, hd, ys, nd, _⟩ := dn_of I.hok hk hr
  refine ⟨nd.typeIs, fun b e => ?_, hd⟩
  cases e
  obtain ⟨ob, _, _, h1, h2, _⟩ := nd
  exact ⟨ob, h1, h2.2.1⟩
theorem ng_get {Q : Option Value → Shared → Prop} (hu : A.units + 8 < cLine) (I : L2.Inv X pins σ H s) (g : NGet X.w H a y o) (ry : RelV y u) (h : ∀ p s', L2.Inv X pins σ H s' → RelO o p → Q p s') : wpAny (model X.prog X.w) A (dictGet a u) Q E s := by
  obtain ⟨xs, d, hr, hk, ky, rfl⟩ := g
  obtain ⟨_, hd, ys, nd, pr, hn, his⟩ := dn_of I.hok hk hr
  exact n_get hu (key_n I.hok ky ry) nd his hn (h _ _ (I.tok _) (rel_val pr _))
/-- d[y], there -/
theorem n_getItem {Q : Value → Shared → Prop} (hu : A.units + 9 < cLine) (I : L2.Inv X pins σ H s) (g : NGet X.w H a y (some v)) (ry : RelV y u) (h : ∀ w' s', L2.Inv X pins σ H s' → RelV v w' → Q w' s') :
    wpAny (model X.prog X.w) A (getItem (.ref a) u) Q E s := by
  obtain ⟨ty, _, _⟩ := ng_at I g
  unfold getItem
  refine wpAny_holding (wpAny_bind (wpAny_sequenceKey ty (by decide) ?_))
  refine wpAny_bind (wpAny_callSpecial?_slot (name := Str.ofString "__getitem__") ty slot_dict_getitem (wpAny_call_entry slot_dict_getitem ty entry_dict_getitem ?_ (args_dict_getitem _ _)))
  show wpAny _ _ (dictGet a u >>= _) _ _ s
  refine wpAny_bind (ng_get (by show A.units + 1 + 8 < cLine; omega) I g ry fun p s' I' rp => ?_)
  obtain ⟨w', rfl, rw'⟩ := RelO.some_of rp
  exact wpAny_pure ⟨w', rfl, wpAny_pure (h w' s' I' rw')⟩
theorem n_contains {Q : Bool → Shared → Prop} (hu : A.units + 10 < cLine) (I : L2.Inv X pins σ H s) (g : NGet X.w H a y o) (ry : RelV y u) (h : ∀ s', L2.Inv X pins σ H s' → Q o.isSome s') :
    wpAny (model X.prog X.w) A (contains (.ref a) u) Q E s := by
  obtain ⟨ty, _, hd⟩ := ng_at I g
  refine wpAny_contains_slot ty PySem.F.slot_dict_contains ?_
  refine call_meetsIn PySem.F.slot_dict_contains ty PySem.F.entry_dict_contains (PySem.F.args_dict_contains_2 _ _) (S := fun A' R s' => A' = A ∧ s' = s ∧ ∀ s2, L2.Inv X pins σ H s2 → R (.ok (.ret (.bool o.isSome))) s2) (fun A' R s' hS => ?_) ⟨rfl, rfl, fun s2 I2 => wpAny_truthy_bool (h s2 I2)⟩
  obtain ⟨rfl, rfl, hq⟩ := hS
  show wpAny _ _ (dictGet a u >>= _) _ _ _
  refine wpAny_bind (ng_get (by show A'.units + 1 + 8 < cLine; omega) I g ry fun p s2 I2 rp => ?_)
  cases p with
  | some z =>
    have e : o.isSome = true := RelO.isS rp
    rw [e] at hq
    exact wpAny_pure (hq s2 I2)
  | none =>
    have e : o.isSome = false := RelO.isS rp
    rw [e] at hq
    exact wpAny_bind (wpAny_pendingKey_other hd (wpAny_pure (hq s2 I2)))
end
end Ssb

namespace Ssb
open PySem PySem.Spec PyProof.Rows L2
section
variable {X : Cx} {pins : List (Addr × Obj)} {σ : L2.St} {H : Hp} {s : Shared} {a : Addr} {y v : V} {u r : Value} {o : Option V} {A : Around} {E : Value → Shared → Prop}
theorem n_get2 {dv : V} {dw : Value} {Q : Value → Shared → Prop} (hu : A.units + 10 < cLine) (I : L2.Inv X pins σ H s) (g : NGet X.w H a y o) (ry : RelV y u) (rd : RelV dv dw) (h : ∀ z s', L2.Inv X pins σ H s' → RelV (o.getD dv) z → Q z s') :
    wpAny (model X.prog X.w) A (call (.builtin "dict.get") [.ref a, u, dw]) Q E s := by
  obtain ⟨ty, _, hd⟩ := ng_at I g
  refine call_meetsIn PySem.F.slot_dict_get ty PySem.F.entry_dict_get (PySem.F.args_dict_get_3 _ _ _) (S := fun A' R s' => A' = A ∧ s' = s ∧ ∀ z s2, L2.Inv X pins σ H s2 → RelV (o.getD dv) z → R (.ok (.ret z)) s2) (.of_wp fun A' R s' hS => ?_) ⟨rfl, rfl, fun z s2 I2 r2 => h z s2 I2 r2⟩
  obtain ⟨rfl, rfl, hq⟩ := hS
  show wpAny _ _ (dictGet a u >>= _) _ _ _
  refine wpAny_bind (ng_get (by show A'.units + 1 + 8 < cLine; omega) I g ry fun p s2 I2 rp => ?_)
  cases p with
  | some z =>
    obtain ⟨v, rfl, rv⟩ : ∃ v, o = some v ∧ RelV v z := by
      cases o with
      | none => exact rp.elim
      | some v => exact ⟨v, rfl, rp⟩
    exact wpAny_pure ⟨z, rfl, hq z s2 I2 rv⟩
  | none =>
    obtain rfl : o = none := by
      cases o with
      | none => rfl
      | some v => exact rp.elim
    refine wpAny_bind (wpAny_missed_other hd (wpAny_pure ⟨dw, rfl, hq dw s2 I2 rd⟩))
theorem xk_keys {xs : List XEnt} {ys : List NEnt} (h : Paired RelE xs ys) : (xs.map xk).map (·.1) = ys.map (·.1) := by
  induction h with
  | nil => rfl
  | cons h0 t ih => rw [List.map_cons, List.map_cons, List.map_cons, ih, ← h0.1]; rfl
theorem n_setItem {xs : List XEnt} {d : D} {Q : Unit → Shared → Prop} (hu : A.units + 10 < cLine) (I : L2.Inv X pins σ H s) (e : H a = some (DkO X.w a xs)) (hk : Keys H xs) (ky : KeyV H d y) (hl : xs.length < sizeLine) (ry : RelV y u) (rv : RelV v r)
    (h : ∀ s', L2.Inv X pins σ (upd H a (DkO X.w a (putX xs d y v))) s' → Q () s') : wpAny (model X.prog X.w) A (setItem (.ref a) u r) Q E s := by
  obtain ⟨h1, h2, ys, nd, pr, hn, his⟩ := dn_of I.hok hk (.inl e)
  have ty := nd.typeIs
  unfold setItem
  refine wpAny_holding (wpAny_bind (wpAny_sequenceKey ty (by decide) ?_))
  refine wpAny_bind (wpAny_callSpecial?_slot (name := Str.ofString "__setitem__") ty slot_dict_setitem (wpAny_call_entry slot_dict_setitem ty entry_dict_setitem ?_ (args_dict_setitem _ _ _)))
  show wpAny _ _ (Builtin.Dict.notOrdered "__setitem__" ⟨[.ref a, u, r], []⟩ >>= _) _ _ s
  refine wpAny_bind (wpAny_notOrdered_dict ty ?_)
  show wpAny _ _ (dictSet a u r >>= _) _ _ s
  have hz : ys.length ≤ sizeLine := by rw [← Paired.length pr]; exact h1
  refine wpAny_bind (n_set (by show A.units + 1 + 8 < cLine; omega) (key_n I.hok ky ry) nd his hn hz fun h' nd' sb => wpAny_pure ⟨.none, rfl, wpAny_pure (h _ ?_)⟩)
  have he : ∃ q, h'.get? a = some q := let ⟨q, _, _, hq, _⟩ := nd'; ⟨q, hq⟩
  refine d_write I (by rw [e]; exact True.intro) sb he (dn_new ?_ h2 nd' (rel_put pr ry rv) ?_)
  · have := putX_len (xs := xs) (d := d) (a := y) (v := v); omega
  · rw [putX_xk]
    refine putN_nd ?_
    rw [xk_keys pr]; exact hn
end
/-- {}, to be such a dict -/
def tNNew (w : World) : TE := fun _ H Q => ∀ p, H p = none → Q (.ref p) (upd H p (DkO w p []))
def tNGet (w : World) (td ty : TE) : TE := fun σ H Q => td σ H fun x H1 => ty σ H1 fun y H2 => ∃ a v, x = .ref a ∧ NGet w H2 a y (some v) ∧ Q v H2
def sNPut (w : World) (td ty tv : TE) : TS := fun D σ H => tv σ H fun v H1 => td σ H1 fun x H2 => ty σ H2 fun y H3 => ∃ a xs d, x = .ref a ∧ H3 a = some (DkO w a xs) ∧ Keys H3 xs ∧ KeyV H3 d y ∧ xs.length < sizeLine ∧ D.nx σ (upd H3 a (DkO w a (putX xs d y v)))
def rNIn (w : World) : R2 := fun y x H Q => ∃ a o, x = .ref a ∧ NGet w H a y o ∧ Q (.bl o.isSome) H
def rNGet2 (w : World) : V → List V → Hp → VK → Prop := fun x xs H Q => ∃ a y d o, x = .ref a ∧ xs = [y, d] ∧ NGet w H a y o ∧ Q (o.getD d) H
section
variable {X : Cx} {o i e value : Expr} {pos pos' tpos : Pos} {td ty tv : TE}
theorem pe_nnew : PE X (.Dict [] [] pos) (tNNew X.w) := ⟨fun pins s σ H Q I h =>
  wpAny_Dict_empty ⟨.ref s.heap.objs.size, _, I.laid (a := s.heap.objs.size) (o := DkO X.w s.heap.objs.size []) (t' := s.toks) (fun _ _ q => Heap.get?_push_of_some _ q) (Nat.le_refl _) (dn_new (Nat.zero_le _) (beq_eq_false_iff_ne.mpr (Ne.symm (Nat.ne_of_lt I.big))) (ys := []) ⟨_, #[], 0, Heap.get?_push_size _ rfl, ⟨rfl, rfl, rfl⟩, rfl, rfl⟩ .nil List.nodup_nil), rfl, h _ (I.hok.fresh (Nat.le_refl _))⟩⟩
theorem pe_nget (hu : X.A.units + 20 < cLine) (ho : PE X o td) (hi : PE X i ty) (hs : NoSl i) : PE X (.Subscript o i pos) (tNGet X.w td ty) := by
  refine ⟨fun pins s σ H Q I h => ?_⟩
  refine subD_of PySem.F.slot_dict_getitem.lookup hs (thn (ho.run pins s σ H _ I h) fun u s1 ⟨x, H1, I1, rx, q1⟩ => thn (hi.run pins s1 σ H1 _ I1 q1) fun iv s2 ⟨y, H2, I2, ry, a, v, ex, g, q2⟩ => ?_)
  cases ex
  obtain rfl : u = Value.ref a := rx
  exact ⟨(ng_at I2 g).1, n_getItem (by omega) I2 g ry fun w' s3 I3 rw' => ⟨v, H2, I3, rw', q2⟩⟩
theorem op_nin (hu : X.A.units + 20 < cLine) : OpR X (compareOp .In) (rNIn X.w) := by
  intro pins s σ H y x u xv Q I ry rx ⟨a, o, ex, g, q⟩
  cases ex
  obtain rfl : xv = Value.ref a := rx
  show wpAny _ _ (do return Value.bool (← contains (.ref a) u)) _ _ s
  exact wpAny_bind (n_contains (by omega) I g ry fun s' I' => wpAny_pure ⟨.bl o.isSome, H, I', rfl, q⟩)
theorem mt_nget2 (hu : X.A.units + 20 < cLine) : MtR X "dict.get" (rNGet2 X.w) := by
  intro pins s σ H x xs xv us Q I rx rxs ⟨a, y, d, o, ex, exs, g, q⟩
  cases ex
  cases exs
  obtain rfl : xv = Value.ref a := rx
  cases rxs with
  | cons r1 rxs =>
  cases rxs with
  | cons r2 rxs =>
  cases rxs
  exact n_get2 (by omega) I g r1 r2 fun z s' I' rz => ⟨_, H, I', rz, q⟩
theorem ps_nput (hu : X.A.units + 20 < cLine) (ho : PE X o td) (hi : PE X i ty) (hv : PE X value tv) (hs : swapsWith value (some (.Subscript o i pos')) pos.line X.env = pure false) :
    PS X (.Assign [.Subscript o i pos'] value pos) (sNPut X.w td ty tv) := by
  refine ⟨fun pins s σ H D I h => ?_⟩
  refine wpAny_Assign_Subscript (thn (hv.run pins s σ H _ I h) fun r s1 ⟨v, H1, I1, rv, q1⟩ => thn (ho.run pins s1 σ H1 _ I1 q1) fun u s2 ⟨x, H2, I2, rx, q2⟩ => thn (hi.run pins s2 σ H2 _ I2 q2) fun iv s3 ⟨y, H3, I3, ry, a, xs, d, ex, ea, hk, ky, hl, q3⟩ => ?_) hs
  cases ex
  obtain rfl : u = Value.ref a := rx
  exact n_setItem (by omega) I3 ea hk ky hl ry rv fun s4 I4 => ⟨σ, _, I4, q3⟩
end
theorem callI_with {M : Model} {A : Around} {E : Value → Shared → Prop} {s : Shared} {x C : Addr} {ox : Obj} {env : Env} {pos : Pos} {e : Expr} {rest : List Expr} {Q : Value → Shared → Prop} (hd : ox.data = .plain)
    (h : wpAny M A (spliced (backTo pos (starEach (e :: rest) env))) (fun vs s₁ => (∃ od, PySem.W.InstAt s₁.heap x ox C od) ∧ wpAny M A (call (.ref x) vs) Q E s₁) E s)
    (he : starEach (e :: rest) env = (false, eval e env) :: starEach rest env) (hpl : (backTo pos (starEach rest env)).any (·.1) = false) :
    wpAny M A (callWith pos (.ref x) [] (backTo pos (starEach (e :: rest) env)) []) Q E s := by
  rw [he] at h ⊢
  have pl : (((false, eval e env) :: backTo pos (starEach rest env)).any (·.1) || ([] : List (Option Str × Sem Value)).any (·.1.isNone)) = false := by
    show ((false || (backTo pos (starEach rest env)).any (·.1)) || false) = false
    rw [hpl]; rfl
  have hE : wpAny M A (evalArgs (.ref x) true (backTo pos ((false, eval e env) :: starEach rest env)) []) (fun a s₁ => (∃ od, PySem.W.InstAt s₁.heap x ox C od) ∧ wpAny M A (call (.ref x) ([] ++ a.pos) a.kw) Q E s₁) E s := PySem.Calls.evalArgs_plain h
  unfold callWith
  refine wpAny_bind (wpAny_holding (wpAny_mono hE (fun a s1 hh => wpAny_bind (wpAny_standAt ?_)) fun _ _ z => z))
  obtain ⟨⟨od, J⟩, hq⟩ := hh
  have L := PySem.W.kco_keeper (M := M) J hd
  simp only [pl]
  refine wpAny_bind (L.here ?_)
  dsimp only
  refine wpAny_bind (wpAny_mono (wpAny_operateT hq) (fun r s2 hr => ?_) fun _ _ z => z)
  exact wpAny_bind (wpAny_holding (wpAny_point (wpAny_pure hr)))
/-- a local that holds an instance is called: its class's __call__ -/
def tCallI (i : Nat) (C : Addr) (sp : Sp) (t : TA) : TE := fun σ H Q => ∃ a dx fs, σ[i]? = some (some (.ref a)) ∧ t σ H fun vs H1 => H1 a = some (.ins C dx fs) ∧ sp (.ref a :: vs) H1 Q E0
section
variable {X : Cx} {k i : Nat} {C f : Addr} {fd : FuncData} {ps : List Str} {sp : Sp} {x : Str} {p pos : Pos} {e : Expr} {es : List Expr} {t : TA}
theorem pe_callI (F : FnOk X.prog X.w X.K X.mg X.base CX0 k f fd ps sp) (hr : Room k X.A) (hN : X.N[i]? = some x) (hv : Vis X.env.scope x) (hm : PySem.W.findIn X.K (.ref C) "__call__" = some (some (.ref f))) (hf : PySem.W.isFn X.K (.ref f) = true) (hg : PySem.W.fnIn X.K f = true)
    (hb : Binds X.K fd ps []) (ha : PA X (e :: es) t) (hdb : (x == ("__debug__" : Str)) = false := by decide) (hcd : (x == ("__classdict__" : Str)) = false := by decide)
    (he : starEach (e :: es) X.env = (false, eval e X.env) :: starEach es X.env := by rfl) (hpl : (backTo pos (starEach es X.env)).any (·.1) = false := by rfl) : PE X (.Call (.Name x p) (e :: es) [] pos) (tCallI i C sp t) := by
  refine ⟨fun pins s σ H Q I h => ?_⟩
  obtain ⟨a, dx, fs, hs, ht⟩ := h
  refine wpAny_Call_Name_kw (thn ((pe_var (pos := p) hN hv hdb hcd).run pins s σ H (fun v H1 => v = .ref a ∧ H1 = H) I ⟨.ref a, hs, rfl, rfl⟩) fun u s1 ⟨v, H1, I1, r1, q1⟩ => ?_)
  obtain ⟨rfl, rfl⟩ := q1
  cases r1
  refine callI_with (C := C) (ox := PySem.W.instObj C dx) rfl (thn (ha.run pos pins s1 σ _ _ I1 ht) fun us s2 hh => ?_) he hpl
  obtain ⟨vs, H2, I2, r, ea, q⟩ := hh
  obtain ⟨mA, O, _⟩ := ins_get I2.hok ea
  obtain ⟨od, J, _⟩ := O.look
  refine ⟨⟨_, J⟩, ?_⟩
  have r2 : Vals (V.ref a :: vs) (Value.ref a :: us) := .cons rfl r
  have hl : (Value.ref a :: us).length = ps.length := by rw [← r2.length]; exact F.len _ _ _ _ q
  refine wpAny_call (PySem.W.kco_code I2.kIn J rfl hm hf hg (codeAny_mono (F.run X.A X.stack s2 H2 ⟨Value.ref a :: us, []⟩ (Value.ref a :: us) (V.ref a :: vs) Q E0 hr I2.env0 (by have := hb s2 (Value.ref a :: us) I2.kIn (by rw [List.length_append]; exact hl); rw [List.append_nil] at this; exact this) r2 q) fun r s' hq => ?_))
  cases r with
  | error e => exact hq.elim
  | ok fl =>
    cases fl with
    | ret u => exact I2.after hq
    | next => exact False.elim hq
    | brk => exact False.elim hq
    | cont => exact False.elim hq
end
end Ssb

namespace Ssb
open PySem PySem.Spec PyProof.Rows L2
theorem nk_rc {A : Around} {s : Shared} {x : NestedKey} {ys : List NestedKey} {a b : Value} (hx : NKey s.heap x a) (hy : NestedIs s.heap (.tup ys) b) (dy : (NestedKey.tup ys).depth ≤ 8) (hu : A.units + 10 < cLine) : PySem.SeqAt.RcAt A s a b (decide (x = .tup ys)) := by
  cases hy with
  | @tup l' o' vs' n' _ k1 k2 k3 k4 =>
  have hl' : s.heap.IsTuple l' vs' := ⟨_, k1, k2, _, k3⟩
  rcases hx with ⟨hx, dx, np⟩
  cases hx with
  | none => rw [decide_eq_false (fun e => nomatch e)]; exact PySem.SeqAt.RcAt.none_tuple hl' (by omega)
  | bool e => rcases np with h | ⟨_, h⟩ <;> cases h
  | int i t => rcases np with h | ⟨_, h⟩ <;> cases h
  | text z t => rcases np with h | ⟨_, h⟩ <;> cases h
  | @tup l o vs n xs h1 h2 h3 h4 =>
    have hl : s.heap.IsTuple l vs := ⟨_, h1, h2, _, h3⟩
    have n1 : vs.size = xs.length := by simpa using NestedAll.length _ _ h4
    have n2 : vs'.size = ys.length := by simpa using NestedAll.length _ _ k4
    rw [NestedKey.decide_eq]
    show PySem.SeqAt.RcAt A s (.ref l) (.ref l') (NestedKey.beqAll xs ys)
    rw [← beqAll_eq xs ys, ← n1, ← n2]
    refine PySem.SeqAt.RcAt.tuples hl hl' (by omega) fun j j1 j2 => ?_
    have dx : NestedKey.depthAll xs + 1 ≤ 8 := dx
    have := eqAt_keys xs ys A.in1 s vs.toList vs'.toList h4 k4 (by show A.units + 1 + _ < cLine; omega) j (by simpa using j1) (by simpa using j2)
    simpa using this
theorem nk_eq {A : Around} {s : Shared} {x y : NestedKey} {a b : Value} (hx : NKey s.heap x a) (hy : NKey s.heap y b) (hu : A.units + 10 < cLine) : PySem.SeqAt.EqAt A s a b (decide (x = y)) := by
  have d1 := hx.2.1
  have d2 := hy.2.1
  rw [NestedKey.decide_eq]
  exact eqAt_key x y A s _ _ hx.1 hy.1 (by omega)
/-- == of a key (None or a tuple) and a tuple -/
def rEqK : R2 := fun x y H Q => ∃ d l, KeyV H d x ∧ KeyV H (.tup l) y ∧ Q (.bl (decide (nkD d = nkD (.tup l)))) H
/-- a key in a list of keys -/
def rInLK : R2 := fun x y H Q => ∃ d b ds ys, y = .ref b ∧ KeyV H d x ∧ H b = some (.lst ys) ∧ Paired (fun d v => KeyV H d v) ds ys ∧ Q (.bl (ds.any fun e => decide (nkD e = nkD d))) H
section
variable {X : Cx}
theorem op_eqK (hu : X.A.units + 20 < cLine) : OpR X (compareOp .Eq) rEqK := by
  intro pins s σ H x y xv yv Q I rx ry ⟨d, l, kx, ky, q⟩
  have hx := key_n I.hok kx rx
  have hy := key_n I.hok ky ry
  have e : nkD (.tup l) = .tup (nkL l) := by rw [nkD]
  rw [e] at hy q
  exact nk_rc hx hy.1 hy.2.1 (by omega) _ _ _ _ ⟨.bl _, H, I, rfl, q⟩
theorem op_inLK (hu : X.A.units + 20 < cLine) : OpR X (compareOp .In) rInLK := by
  intro pins s σ H x y xv yv Q I rx ry ⟨d, b, ds, ys, ey, kx, hb, pr, q⟩
  cases ey
  obtain rfl : yv = Value.ref b := ry
  obtain ⟨_, its, n, rv, hg⟩ := (show ObjOk X.prog X.w H s.heap b (.lst ys) from I.hok b _ hb)
  have hx := key_n I.hok kx rx
  have key : ∀ {ds : List D} {ys : List V} {its : List Value}, Paired (fun d v => KeyV H d v) ds ys → Vals ys its → ∃ zs : List (D × Value), zs.map (·.1) = ds ∧ zs.map (·.2) = its ∧ ∀ z ∈ zs, NKey s.heap (nkD z.1) z.2 := by
    intro ds
    induction ds with
    | nil => intro ys its p v; cases p; cases v; exact ⟨[], rfl, rfl, fun _ h => nomatch h⟩
    | cons d ds ih =>
      intro ys its p v
      cases p with
      | cons p1 p =>
      cases v with
      | cons v1 v =>
      obtain ⟨zs, h1, h2, h3⟩ := ih p v
      refine ⟨(d, _) :: zs, by rw [List.map_cons, h1], by rw [List.map_cons, h2], fun z hz => ?_⟩
      rcases List.mem_cons.mp hz with rfl | hz
      · exact key_n I.hok p1 v1
      · exact h3 z hz
  obtain ⟨zs, h1, h2, h3⟩ := key pr rv
  -- the key that a value is
  have inj : ∀ z ∈ zs, ∀ z' ∈ zs, z.2 = z'.2 → nkD z.1 = nkD z'.1 := fun z hz z' hz' e => by
    have a1 := (h3 z hz).1
    rw [e] at a1
    exact NestedIs.inj _ _ _ a1 (h3 z' hz').1
  classical
  refine PySem.SeqAt.in_listAt (items := its.toArray) (fun v => decide (∃ z ∈ zs, z.2 = v ∧ nkD z.1 = nkD d)) ⟨_, hg, rfl, n, rfl⟩ (fun v hv => ?_) ⟨.bl _, H, I, rfl, ?_⟩
  · have hv : v ∈ its := by simpa using hv
    rw [← h2] at hv
    obtain ⟨z, hz, rfl⟩ := List.mem_map.mp hv
    have := nk_eq (A := X.A.in1) (s := s) (h3 z hz) hx (by show X.A.units + 1 + 10 < cLine; omega)
    have e : decide (∃ z' ∈ zs, z'.2 = z.2 ∧ nkD z'.1 = nkD d) = decide (nkD z.1 = nkD d) := by
      rw [Bool.eq_iff_iff, decide_eq_true_eq, decide_eq_true_eq]
      exact ⟨fun ⟨z', hz', e1, e2⟩ => (inj z hz z' hz' e1.symm).trans e2, fun e => ⟨z, hz, rfl, e⟩⟩
    rw [e]; exact this
  · have e : its.toArray.any (fun v => decide (∃ z ∈ zs, z.2 = v ∧ nkD z.1 = nkD d)) = ds.any fun e => decide (nkD e = nkD d) := by
      rw [List.any_toArray, ← h1, ← h2, Bool.eq_iff_iff, List.any_eq_true, List.any_eq_true]
      constructor
      · rintro ⟨v, hv, hh⟩
        obtain ⟨z, hz, _, e2⟩ := of_decide_eq_true hh
        exact ⟨z.1, List.mem_map.mpr ⟨z, hz, rfl⟩, decide_eq_true e2⟩
      · rintro ⟨x, hx', hh⟩
        obtain ⟨z, hz, rfl⟩ := List.mem_map.mp hx'
        exact ⟨z.2, List.mem_map.mpr ⟨z, hz, rfl⟩, decide_eq_true ⟨z, hz, rfl, of_decide_eq_true hh⟩⟩
    rw [e]; exact q
end
end Ssb

namespace Ssb
open PySem PySem.Spec PyProof.Rows L2
/-- d.get(k, x) of a dict whose keys are None and tuples -/
def tNGet2 (w : World) (to : TE) (t : TA) : TE := fun σ H Q => to σ H fun x H1 => (∃ a xs, x = .ref a ∧ H1 a = some (DkO w a xs) ∧ Keys H1 xs) ∧ t σ H1 fun xs H2 => rNGet2 w x xs H2 Q
section
variable {X : Cx} {o e : Expr} {es : List Expr} {to : TE} {t : TA} {apos cpos : Pos}
theorem pe_nget2 (hu : X.A.units + 20 < cLine) (ho : PE X o to) (ha : PA X (e :: es) t)
    (hbase : attributeBase o "get" X.env (eval o X.env) = eval o X.env := by rfl)
    (hfew : ((backTo cpos (starEach (e :: es) X.env)).all (fun z => !z.1) && (backToKw cpos (keywordEach [] X.env)).all (fun z => z.1.isSome)
      && decide ((e :: es).length + ([] : List Keyword).length + (if ([] : List Keyword).isEmpty then 0 else 1) < 30)) = true := by rfl)
    (hline : (apos.endLine == cpos.line) = true := by rfl) (hs : starEach (e :: es) X.env = (false, eval e X.env) :: starEach es X.env := by rfl) (hplain : (backTo cpos (starEach es X.env)).any (·.1) = false := by rfl) :
    PE X (.Call (.Attribute o "get" apos) (e :: es) [] cpos) (tNGet2 X.w to t) := by
  refine ⟨fun pins s σ H Q I h => ?_⟩
  refine wpAny_Call_method_late hbase hfew hline rfl (thn (ho.run pins s σ H _ I h) fun v s1 ⟨x, H1, I1, r1, ⟨a, xs, ex, hd, hk⟩, q1⟩ => ?_)
  cases ex
  obtain rfl : v = Value.ref a := r1
  obtain ⟨_, hm, ys, nd, _⟩ := dn_of I1.hok hk (.inl hd)
  refine ⟨"dict", "dict.get", PySem.F.plainAttrs_dict, PySem.F.slot_dict_get, PySem.F.type_dict_get, nd.typeIs, fun b e2 => ?_, ?_⟩
  · cases e2
    obtain ⟨ob, _, _, h1, h2, _⟩ := nd
    exact ⟨ob, h1, h2.2.1⟩
  have hA := ha.run cpos pins s1 σ H1 _ I1 q1
  rw [hs] at hA ⊢
  refine Calls.callWith_builtin ?_ (Calls.evalArgs_plain ?_)
  · show (false || (backTo cpos (starEach es X.env)).any (·.1)) = false
    rw [hplain] <;> rfl
  · exact thn hA fun us s2 ⟨vs, H2, I2, r2, q2⟩ => mt_nget2 hu pins s2 σ H2 (.ref a) vs _ us Q I2 rfl r2 q2
end
/-- all tuples stay -/
def Tk (H H' : Hp) : Prop := ∀ b xs, H b = some (.tup xs) → H' b = some (.tup xs)
theorem Tk.of {H H' : Hp} (e : ∀ b o, H b = some o → H' b = some o) : Tk H H' := fun b xs h => e b _ h
theorem Tk.upd {H : Hp} {q : Addr} {o u : HO} (h : H q = some o) (n : ∀ xs, o ≠ .tup xs) : Tk H (L2.upd H q u) := fun b xs hb => by
  have : b ≠ q := fun e => by rw [e, h] at hb; cases hb; exact n _ rfl
  rw [upd_ne this]; exact hb
theorem Tk.trans {H H1 H2 : Hp} (a : Tk H H1) (b : Tk H1 H2) : Tk H H2 := fun c xs h => b c xs (a c xs h)
/-- keys: only tuples matter -/
theorem rep_tk {H H' : Hp} (e : Tk H H') {S' : Addr → Prop} : ∀ {n k : Nat} {S : Addr → Prop} {d : D} {v : V}, kdD k d → Rep H n S d v → Rep H' n S' d v
  | 0, _, _, _, _, _, h => h.elim
  | n + 1, k, _, .non, _, _, h => h
  | n + 1, k, _, .int _, _, _, h => h
  | n + 1, k, _, .str _, _, _, h => h
  | n + 1, 0, _, .tup _, _, hk, _ => hk.elim
  | n + 1, k + 1, S, .tup l, v, hk, h => by
    obtain ⟨a, xs, ea, ha, hl, p⟩ := h
    refine ⟨a, xs, ea, e _ _ ha, hl, ?_⟩
    clear ha ea hl
    have : ∀ {l : List D} {xs : List V}, (∀ x ∈ l, kdD k x) → Paired (fun d x => Rep H n S d x) l xs → Paired (fun d x => Rep H' n S' d x) l xs := fun {l} => by
      induction l with
      | nil => intro xs _ p; cases p; exact .nil
      | cons d l ih =>
        intro xs hk p
        cases p with
        | cons p1 p => exact .cons (rep_tk e (hk d List.mem_cons_self) p1) (ih (fun x hx => hk x (List.mem_cons_of_mem _ hx)) p)
    exact this hk p
  | n + 1, k, _, .bl _, _, hk, _ => by cases k <;> exact hk.elim
  | n + 1, k, _, .lst _, _, hk, _ => by cases k <;> exact hk.elim
  | n + 1, k, _, .dic _, _, hk, _ => by cases k <;> exact hk.elim
theorem KeyV.tk {H H' : Hp} {d : D} {v : V} (e : Tk H H') (k : KeyV H d v) : KeyV H' d v := let ⟨h1, h2, n, S, r⟩ := k; ⟨h1, h2, n, S, rep_tk e h1 r⟩
theorem Keys.tk {H H' : Hp} {xs : List XEnt} (e : Tk H H') (k : Keys H xs) : Keys H' xs := fun x hx => (k x hx).tk e
theorem kd_le : ∀ {n m : Nat} {d : D}, n ≤ m → kdD n d → kdD m d
  | n, m, .non, _, _ => by cases m <;> trivial
  | n, m, .int _, _, _ => by cases m <;> trivial
  | n, m, .str _, _, _ => by cases m <;> trivial
  | n + 1, m + 1, .tup l, h, k => fun x hx => kd_le (Nat.le_of_succ_le_succ h) (k x hx)
  | 0, _, .tup _, _, k => k.elim
  | n + 1, 0, .tup _, h, _ => absurd h (by omega)
  | n, _, .bl _, _, k => by cases n <;> exact k.elim
  | n, _, .lst _, _, k => by cases n <;> exact k.elim
  | n, _, .dic _, _, k => by cases n <;> exact k.elim
end Ssb

/-! Own errors over Exception whose __init__ keeps one attribute: made, raised. -/
namespace Ssb
open PySem PySem.Spec L2 PyProof.Rows

abbrev exBm : List Value := [.type "Exception", .type "BaseException", .type "object"]
/-- what the written part tells of such a class -/
structure OexE (K : PySem.W.Frag) (C : Addr) : Prop where
  over : PySem.W.excOver K C exBm = true
  made : PySem.W.excInitIn K C exBm "Exception.__new__" = true
  hd : PySem.W.hasDictIn K C = true
  sa : PySem.W.findIn K (.ref C) "__setattr__" = some (some (.builtin "object.__setattr__"))
  exC : PySem.W.subIn K (.ref C) (.type "BaseException") = some true
  tyC : PySem.W.typeIn K (.ref C) = some (.type "type")
  kC : PySem.W.keepIn K (.ref C) = true
section
variable {X : Cx} {pins : List (Addr × Obj)} {σ : L2.St} {H : Hp} {s : Shared} {a C : Addr} {f : Str} {y : V} {u : Value} {Q : Unit → Shared → Prop} {E : Value → Shared → Prop} {A : Around}
/-- the invariant behind the first attribute -/
theorem ost_inv {hp h' : Heap} {g : Array GenState} {d : Drawn} {t t' : Nat} {os : OsState} {dx t1 : Addr} (I : Inv X pins σ H ⟨hp, g, d, t, os⟩) (e : H a = some (exo a C none)) (ry : RelV y u) (dn : hp.objs.size ≤ dx) (dne : dx ≠ a) (k : ∀ b o, b ≠ a → hp.get? b = some o → h'.get? b = some o)
    (hx : h'.get? a = some ({ cls := .ref C, dict := some dx, data := .fields #[.ref t1, .none, .none, .none, .bool false, .none] } : Obj)) (hn : h'.Ns1 dx (fun z => if z = f then some u else none)) :
    H dx = none ∧ Inv X pins σ (upd (upd H dx (exd dx [(f, y)])) a (exo a C (some dx))) ⟨h', g, d, t', os⟩ := by
  have hnd : H dx = none := I.hok.fresh dn
  have old : ∀ b o, hp.get? b = some o → b ≠ dx := fun b o q => Nat.ne_of_lt (Nat.lt_of_lt_of_le (Heap.lt_size q) dn)
  have nota : ∀ b, H b = none → b ≠ a := fun b n z => by rw [z, e] at n; cases n
  refine ⟨hnd, I.un (t' := t') ⟨fun b o q n _ _ => k b o (nota b n) q, fun b o q n _ _ => ⟨o.slots, k b o (nota b n) q⟩, fun b o q n _ => (by rw [upd_ne (nota b n), upd_ne (old b o q)]; exact n), fun b o q _ => ?_,
    fun b xs q => (by rw [upd_ne (at_ne e q exo_tup), upd_ne (ne_of_none q hnd)]; exact q), fun b o v q => (by rw [upd_ne (at_ne e q exo_frz), upd_ne (ne_of_none q hnd)]; exact q), fun b ps q => ⟨#[], (by rw [upd_ne (at_ne e q exo_tbl), upd_ne (ne_of_none q hnd), q]; simp)⟩⟩ fun b o q => ?_⟩
  · by_cases hb : b = a
    · exact ⟨_, hb ▸ hx⟩
    · exact ⟨o, k b o hb q⟩
  · by_cases hb : b = a
    · subst hb; rw [upd_same] at q; cases q; exact exo_ok hx
    rw [upd_ne hb] at q
    by_cases hd : b = dx
    · subst hd; rw [upd_same] at q; cases q; exact exd_ok hn (relO_put (fs := []) ry fun g => True.intro)
    rw [upd_ne hd] at q
    refine (I.hok b o q).stay (fun c v hc z => k c v (hc.elim (fun hc => by rw [hc]; exact hb) fun hc => at_ne e hc exo_own) z) (fun c hc => ?_) (fun c xs hc => ?_)
    · rw [upd_ne (at_ne e hc exo_own), upd_ne (ne_of_none hc hnd)]; exact hc
    · rw [upd_ne (at_ne e hc exo_tup), upd_ne (ne_of_none hc hnd)]; exact hc
/-- self.f = y, the first attribute -/
theorem ost_newE (T : OexE X.K C) (I : Inv X pins σ H s) (e : H a = some (exo a C none)) (hno : PySem.W.findIn X.K (.ref C) f = some none) (ry : RelV y u)
    (h : ∀ dx s', H dx = none → dx ≠ a → Inv X pins σ (upd (upd H dx (exd dx [(f, y)])) a (exo a C (some dx))) s' → Q () s') : wpAny (model X.prog X.w) A (setAttr (.ref a) f u) Q E s := by
  obtain ⟨t1, ho⟩ := exo_at I.hok e
  obtain ⟨hp, g, d, t, os⟩ := s
  obtain ⟨cd, hc, hd'⟩ := PySem.W.any_some T.hd
  have hxs : a ≠ hp.objs.size := Nat.ne_of_lt (Heap.lt_size ho)
  refine PySem.W.set_plain I.kIn (od := none) ⟨ho, rfl, rfl, trivial⟩ T.sa (PySem.W.osa_openX (od := none) PySem.F.store_Exception I.kIn ⟨ho, rfl, rfl, trivial⟩ T.over (r := none) (by unfold PySem.W.takerIn; rw [hno]; rfl) fun b => ?_)
  refine wpAny_bind (wpAny_pure (wpAny_bind (PySem.W.instanceDict_exc (t := t1) (c2 := .none) ho (PySem.W.looks_clsIn I.kIn hc) hd' ?_)))
  refine PySem.HandSPX.store_in_new ?_ fun h' tk' hn' hs => ?_
  · exact ⟨_, #[], _, (Heap.get?_update_ne _ _ _ _ hxs.symm).trans (Heap.get?_push_at rfl rfl), rfl, fun e he => absurd he (by simp), fun _ => rfl⟩
  · have k : ∀ b o, b ≠ a → hp.get? b = some o → h'.get? b = some o := fun b o nb ho' => (hs.2 b (Nat.ne_of_lt (Heap.lt_size ho'))).trans ((Heap.get?_update_ne _ _ _ _ nb).trans (Heap.get?_push_of_some _ ho'))
    have hx : h'.get? a = some ({ cls := .ref C, dict := some hp.objs.size, data := .fields #[.ref t1, .none, .none, .none, .bool false, .none] } : Obj) := (hs.2 a hxs).trans (Heap.get?_update_self _ (Heap.get?_push_of_some _ ho) rfl)
    obtain ⟨n, J⟩ := ost_inv (t' := tk') I e ry (Nat.le_refl _) hxs.symm k hx hn'
    exact h _ _ n hxs.symm J
end
/-! ### readings and rules -/
/-- self.f = e within such an __init__ -/
def tOsE (K : PySem.W.Frag) (f : Str) (to te : TE) : TS := fun D σ H => te σ H fun y H1 => to σ H1 fun x H2 => ∃ a C : Addr, x = .ref a ∧ OexE K C ∧ PySem.W.findIn K (.ref C) f = some none ∧
  H2 a = some (exo a C none) ∧ ∀ dx, H2 dx = none → dx ≠ a → D.nx σ (upd (upd H2 dx (exd dx [(f, y)])) a (exo a C (some dx)))
section
variable {X : Cx} {o e : Expr} {es : List Expr} {to te : TE} {ta : TA} {f : Str} {p p' pos : Pos}
theorem ps_osE (ho : PE X o to) (he : PE X e te) (hs : swapsWith e (some (.Attribute o f p')) pos.line X.env = pure false := by rfl) : PS X (.Assign [.Attribute o f p'] e pos) (tOsE X.K f to te) :=
  ⟨fun pins s σ H D I h => plainObj_wpAny_Assign_Attribute (thn (he.run pins s σ H _ I h) fun v s1 ⟨y, H1, I1, r1, q1⟩ => thn (ho.run pins s1 σ H1 _ I1 q1) fun u s2 ⟨x, H2, I2, r2, a, C, ex, T, hno, ea, q⟩ => by
    subst ex
    cases (show u = Value.ref a from r2)
    exact ost_newE T I2 ea hno r1 fun dx s' n ne J => ⟨σ, _, J, q dx n ne⟩) hs⟩
/-- C(e, ..) as what is raised; its __init__ keeps sp -/
theorem pmk_oexE {x : Str} {C fI : Addr} {k j : Nat} {fd : FuncData} {ps : List Str} {sp : Sp} (T : OexE X.K C) (G : Mt X.prog X.w X.K X.mg X.base C "__init__" k ps sp fI fd) (tI : PySem.W.typeIn X.K (.ref fI) = some (.type "function")) (hr : Room j X.A) (hm : X.mg x = some (.ref C)) (ha : PA X (e :: es) ta) (hj : k + 1 ≤ j := by first | decide | omega)
    (hg : Gl X x := by rfl) (hdb : (x == ("__debug__" : Str)) = false := by decide) (he : starEach (e :: es) X.env = (false, eval e X.env) :: starEach es X.env := by rfl) (hpl : (backTo pos (starEach es X.env)).any (·.1) = false := by rfl) : PMk X (.Call (.Name x p) (e :: es) [] pos) (tMkO C sp [] ta) := by
  intro pins s σ H Q I h
  refine wpAny_Call_Name_kw (ld_glob I hg hm ?_ hdb)
  refine PySem.W.callWith_K (h₀ := X.base) I.ok.mod.kin T.kC (thn (ha.run pos pins s σ H _ I h) fun us s1 ⟨vs, H1, I1, r1, hz, q1⟩ => ⟨I1.kIn, ?_⟩) he hpl
  show wpAny _ _ (call (.ref C) us) _ _ _
  obtain ⟨hp, g, dr, tk, os⟩ := s1
  obtain ⟨nm, N, qn, bs, bm, hdct, sn, sub, ab, col, dd, k0, k1, k2, k3, k5, hC, hT⟩ := PySem.W.excInit_of I1.kIn T.made
  have hn : H1 (hp.objs.size + 1) = none := I1.hok.fresh (Nat.le_succ _)
  have hq := q1 (hp.objs.size + 1) hn
  rw [List.append_nil] at hq
  have kk : ∀ b o, hp.get? b = some o → ((hp.push (PySem.W.kdv_tup us)).push (PySem.HandSPX.excO C hp.objs.size)).get? b = some o := fun b o z => Heap.get?_push_of_some _ (Heap.get?_push_of_some _ z)
  have hget : ((hp.push (PySem.W.kdv_tup us)).push (PySem.HandSPX.excO C hp.objs.size)).get? (hp.objs.size + 1) = some (PySem.HandSPX.excO C hp.objs.size) := by heap_get
  have I2 := I1.laid (t' := tk) (o := exo (hp.objs.size + 1) C none) kk (Nat.le_succ _) (exo_ok hget)
  have r2 : Vals (V.ref (hp.objs.size + 1) :: vs) (Value.ref (hp.objs.size + 1) :: us) := .cons rfl r1
  have hl : (Value.ref (hp.objs.size + 1) :: us ++ []).length = ps.length := by rw [List.append_nil, ← r2.length, G.ok.len _ _ _ _ hq]
  have hb := G.bd ⟨(hp.push (PySem.W.kdv_tup us)).push (PySem.HandSPX.excO C hp.objs.size), g, dr, tk, os⟩ (Value.ref (hp.objs.size + 1) :: us) I2.kIn hl
  rw [List.append_nil] at hb
  have hus : us.length ≤ sizeLine := by rw [← Paired.length r1, sizeLine_eq]; omega
  refine wpAny_call (PySem.HandSPX.call_own PySem.F.excBase_Exception hT hC (PySem.W.looks_findIn I1.kIn G.mt.at_) (fun self => PySem.W.bind_fn I1.kIn self tI) hus
    (codeAny_mono (G.ok.run _ X.stack _ _ ⟨Value.ref (hp.objs.size + 1) :: us, []⟩ (Value.ref (hp.objs.size + 1) :: us) _ _ E0 ((hr.mono hj).make C us []) (I2.env0.make C us []) hb r2 hq) fun r s' hq' => ?_))
  cases r with
  | error er => exact hq'.elim
  | ok fl =>
    cases fl with
    | ret u =>
      obtain ⟨v, H2, os2, bare2, un2, hok2, rv, ev, d, fs, ea, ed, hd1, q2⟩ := hq'
      subst ev
      obtain ⟨h2, g2, d2, t2, os'⟩ := s'
      exact ⟨rv, mk_end (raises_own T.exC T.tyC) I1 (Nat.le_succ _) kk un2 hok2 os2 bare2 ea ed hd1 q2⟩
    | next => exact hq'.elim
    | brk => exact hq'.elim
    | cont => exact hq'.elim
end
end Ssb

/-! try .. except C as e, where the caught error stays known behind the suite. -/
namespace Ssb
open PySem PySem.Spec L2 PyProof.Rows
/-- at a: an error that was caught, of this class, with this dict -/
def exk (a : Addr) (cls : Value) (d : Option Addr) : HO := .ext fun h => ∃ oe vs, h.get? a = some oe ∧ Zc cls d oe ∧ oe.data = .fields vs
theorem exk_ok {P : Program} {w : World} {H : Hp} {h : Heap} {a : Addr} {cls : Value} {d : Option Addr} {oe : Obj} {vs : Array Value} (e : h.get? a = some oe) (z : Zc cls d oe) (f : oe.data = .fields vs) : ObjOk P w H h a (exk a cls d) :=
  ⟨⟨oe, vs, e, z, f⟩, ⟨oe, e⟩, fun _ _ ⟨o2, v2, e2, z2, f2⟩ k => ⟨o2, v2, k _ e2, z2, f2⟩⟩
theorem exk_at {P : Program} {w : World} {H : Hp} {h : Heap} {a : Addr} {cls : Value} {d : Option Addr} (hok : HOk P w H h) (e : H a = some (exk a cls d)) : ∃ oe vs, h.get? a = some oe ∧ Zc cls d oe ∧ oe.data = .fields vs := by
  have x : ObjOk P w H h a (.ext fun h => ∃ oe vs, h.get? a = some oe ∧ Zc cls d oe ∧ oe.data = .fields vs) := hok a _ e
  exact x.1
section
variable {X : Cx} {pins : List (Addr × Obj)} {σ : L2.St} {H : Hp} {s : Shared}
theorem adopt {a : Addr} {oe : Obj} {vs : Array Value} {cls : Value} {d : Option Addr} (I : Inv X ((a, oe) :: pins) σ H s) (hd : oe.data = .fields vs) (hz : Zc cls d oe) (n0 : ∀ b o, X.s_0.heap.get? b = some o → b ∉ X.ex → b ≠ a) (np : ∀ p ∈ X.pn ++ pins, p.1 ≠ a) : Inv X pins σ (upd H a (exk a cls d)) s := by
  obtain ⟨ge, na, nL, nF, nC⟩ := I.pin (a, oe) (List.mem_append_right _ List.mem_cons_self)
  have keep : ∀ {b : Addr} {o : HO}, H b = some o → (upd H a (exk a cls d)) b = some o := fun {b o} hb => by
    rw [upd_ne (fun z => by rw [z, na] at hb; cases hb)]; exact hb
  have B := I.base
  refine ⟨I.ok, I.os, I.bare, ⟨B.keep, B.slot, fun b o q n x => (by rw [upd_ne (n0 b o q x)]; exact B.free b o q n x), B.there, fun b xs q => keep (B.tups b xs q), fun b o u q => keep (B.frzs b o u q), fun b ps q => (B.tbls b ps q).imp fun _ h => keep h⟩, I.loc, I.cell, ?_, fun x c hc => ?_, fun p hp => ?_, fun b o q => ?_, I.len⟩
  · rw [upd_ne (Ne.symm nL)]; exact I.free
  · obtain ⟨v, oc, e1, e2⟩ := I.cell x c hc
    have : c ≠ a := fun z => by
      rw [z] at e1
      have e3 := Option.some.inj (ge.symm.trans e1)
      have e3 : oe = oc := e3
      rw [← e3] at e2
      exact nC _ (by simpa using e2)
    rw [upd_ne this]; exact I.freeC x c hc
  · obtain ⟨e1, e2, e3⟩ := I.pin p (by
      rcases List.mem_append.mp hp with h | h
      · exact List.mem_append_left _ h
      · exact List.mem_append_right _ (List.mem_cons_of_mem _ h))
    exact ⟨e1, by rw [upd_ne (np p hp)]; exact e2, e3⟩
  · by_cases hb : b = a
    · subst hb; rw [upd_same] at q; cases q; exact exk_ok ge hz hd
    · rw [upd_ne hb] at q
      exact (I.hok b o q).stay (fun _ _ _ z => z) (fun _ hc => keep hc) fun _ _ hc => keep hc
end
/-- what the clause asks of an error of the body: as wAs, but behind the suite a is known -/
def wKeep (K : PySem.W.Frag) (c : Value) (i : Nat) (ts : Addr → Value → Option Addr → TS) (Wout : WX) (D : Ends) : WX := fun cls d σ H => ∃ b, PySem.W.exmOne K cls c = some b ∧
  (b = true → ∀ a, H a = none → ts a cls d { nx := fun σ' H' => D.nx (σ'.set i none) (upd H' a (exk a cls d)), rt := fun v H' => D.rt v (upd H' a (exk a cls d)), bk := fun σ' H' => D.bk (σ'.set i none) (upd H' a (exk a cls d)), ct := fun σ' H' => D.ct (σ'.set i none) (upd H' a (exk a cls d)) } (σ.set i (some (.ref a))) H) ∧ (b = false → Wout cls d σ H)
section
variable {X : Cx} {x n : Str} {c : Value} {i : Nat} {body suite : List Stmt} {b₀ : Stmt} {np pos pos' : Pos} {tb : WX → TS} {ts : Addr → Value → Option Addr → TS} {Wout : WX}
theorem ps_try_keep (hs : X.stack = X.env :: X.outer) (hf : X.env.frame = some X.env.locals) (hN : X.N.Nodup) (hi : X.N[i]? = some n) (hln : X.env.kindOf n = some .local) (hc : Names X x c) (tk : Takes X Wout)
    (hb : ∀ (W : WX) (pn : List (Addr × Obj)) (xe : Value → Shared → Prop), Takes (X.tr pn xe) W → PassesOwn (model X.prog X.w) X.A X.env xe → PSs (X.tr pn xe) body (tb W))
    (hsu : ∀ (a : Addr) (oe : Obj) (cls : Value) (d : Option Addr) (pn : List (Addr × Obj)), Zc cls d oe → (∃ vs, oe.data = .fields vs) → PSs (X.suite a ((a, oe) :: pn)) (b₀ :: suite) (ts a cls d)) :
    PS X (.Try body [.ExceptHandler (some (.Name x np)) (some n) (b₀ :: suite) pos'] [] [] pos) (fun D σ H => tb (wKeep X.K c i ts Wout D) D σ H) := by
  refine ⟨fun pins s σ H D I h => ?_⟩
  have ok := I.ok
  have fr0 : X.A.frames = some (X.env :: X.outer) := by rw [ok.frames, hs]
  refine wpAny_Try_except (wpAny_mono ((hb (wKeep X.K c i ts Wout D) (X.pn ++ pins) (fun e s₁ => wpAny (model X.prog X.w) X.A (noteFrame e X.env) (fun _ s₂ => wpAny (model X.prog X.w) X.A (setFlight e none) (fun _ s₃ => wpAny (model X.prog X.w) X.A (handleBy e X.env [.ExceptHandler (some (.Name x np)) (some n) (b₀ :: suite) pos']) (SP X pins D) X.xe s₃) X.xe s₂) X.xe s₁) (fun u s' xx => ?_) PassesOwn.looking).run [] s σ H D (I.toTry _) h) (fun f s1 hsp => ?_) (fun e s1 he => he))
  · obtain ⟨a, B, sI, pins', σ1, HH, cls, d, rfl, J0, nb, up, sky, na, os, ag, b, hb1, hyes, hno⟩ := xx
    have J : Inv X pins σ1 HH sI := J0.ofTry ok
    rw [show (X.tr (X.pn ++ pins) _).stack = X.env :: X.outer from hs] at sky
    refine Sky.land Zc.steady fr0 hf sky fun h3 fl3 up3 => ?_
    have J3 : Inv X pins σ1 HH { s' with heap := h3 } := J.landed nb fl3.1 (up.trans up3) os ag
    obtain ⟨oe3, vs3, he3, hz3, hd3⟩ := fl3.there
    have nfr : a ∉ frs (X.env :: X.outer) := fun hm => by
      obtain ⟨_, o', e', hnf⟩ := fl3.2.2.1.mem hm
      rw [he3] at e'; cases e'; exact hnf _ hd3
    have nL : a ≠ X.env.locals := fun z => nfr (List.mem_filterMap.mpr ⟨X.env, List.mem_cons_self, (by rw [hf, z])⟩)
    have nF : a ∉ X.fs := fun hm => (List.mem_filterMap.mp hm).elim fun e he => nfr (List.mem_filterMap.mpr ⟨e, List.mem_cons_of_mem _ he.1, he.2⟩)
    -- the error is younger than all that stood
    have young : sI.heap.get? a = none := by
      cases hg : sI.heap.get? a with
      | none => rfl
      | some o =>
        have := nb a o hg (by rw [show (X.tr (X.pn ++ pins) _).stack = X.env :: X.outer from hs]; exact nfr)
        rw [fl3.2.1] at this; cases this
    have n0 : ∀ b o, X.s_0.heap.get? b = some o → b ∉ X.ex → b ≠ a := fun b o q hx z => by
      obtain ⟨o', h'⟩ := J.base.there b o q hx
      rw [z, young] at h'; cases h'
    have np0 : ∀ p ∈ X.pn ++ pins, p.1 ≠ a := fun p hp z => by
      have := (J.pin p hp).1
      rw [z, young] at this; cases this
    have S3 := J3.suite he3 hd3 na nL nF
    have LM := PySem.W.exm_one (M := model X.prog X.w) J3.kIn (show PySem.W.Looks (model X.prog X.w) h3 (typeOf (.ref a)) cls from fun A Q E s k q => wpAny_typeOf_ref (k _ _ he3) (by rw [hz3.1]; exact q)) hb1
    refine wpAny_handleBy_cons (codeAny_handlers_test ?_) (by intro q; cases q)
    have test : ∀ {Q : Value → Shared → Prop} {E : Value → Shared → Prop}, Q c { s' with heap := h3 } → wpAny (model X.prog X.w) (X.A.mark (some (.ref a))) (eval (.Name x np) X.env) Q E { s' with heap := h3 } := fun {Q E} q => by
      obtain ⟨hg, hdb, hm | ⟨hm, hv, hnn⟩⟩ := hc
      · exact ld_glob S3 hg hm q hdb
      · exact ld_blt S3 hg hm hv q hnn hdb
    refine test (LM.here ?_)
    cases b with
    | true =>
      refine codeAny_handlers_suite_as (HandSPX.lands_againZ fl3 fun h4 fl4 up4 => ?_)
      have J4 : Inv X pins σ1 HH { s' with heap := h4 } := J.landed nb fl4.1 ((up.trans up3).trans up4) os ag
      obtain ⟨oe4, vs4, he4, hz4, hd4⟩ := fl4.there
      refine store_ok (X := X.suite a ((a, oe4) :: (X.pn ++ pins))) (v := .ref a) (J4.suite he4 hd4 na nL nF) hN hi (.inl hln) rfl (fun s5 S5 => ?_) (.inr hln)
      refine wpAny_mono ((hsu a oe4 cls d (X.pn ++ pins) hz4 ⟨_, hd4⟩).run [] s5 _ HH _ S5 (hyes rfl a na)) (fun f s6 hsp => ?_) (fun _ _ z => False.elim z)
      have fin : ∀ {σ6 : L2.St} {H6 : Hp} {Q : Shared → Prop}, Inv (X.suite a ((a, oe4) :: (X.pn ++ pins))) [] σ6 H6 s6 → (∀ s7, Inv X pins (σ6.set i none) (upd H6 a (exk a cls d)) s7 → Q s7) →
          wpAny (model X.prog X.w) X.A (do bindName X.env n .none; unbindBehindTheSuite X.env n pos') (fun _ s7 => Q s7) X.xe s6 := fun {σ6 H6 Q} S6 hq => by
        have I6 : Inv X ((a, oe4) :: pins) σ6 H6 s6 := ⟨ok, S6.os, S6.bare, S6.base, S6.loc, S6.cell, S6.free, S6.freeC, fun p hp => S6.pin p (by
          rw [List.append_nil]
          rcases List.mem_append.mp hp with h | h
          · exact List.mem_cons_of_mem _ (List.mem_append_left _ h)
          · rcases List.mem_cons.mp h with h | h
            · rw [h]; exact List.mem_cons_self
            · exact List.mem_cons_of_mem _ (List.mem_append_right _ h)), S6.hok, S6.len⟩
        exact gone_ok I6 hN hi hln fun s7 J7 => hq s7 (adopt J7 hd4 hz4 n0 np0)
      cases f with
      | ret u => obtain ⟨v6, σ6, H6, S6, r6, q6⟩ := hsp; exact fin S6 fun s7 J7 => ⟨_, _, _, J7, r6, q6⟩
      | next => obtain ⟨σ6, H6, S6, q6⟩ := hsp; exact fin S6 fun s7 J7 => ⟨_, _, J7, q6⟩
      | brk => obtain ⟨σ6, H6, S6, q6⟩ := hsp; exact fin S6 fun s7 J7 => ⟨_, _, J7, q6⟩
      | cont => obtain ⟨σ6, H6, S6, q6⟩ := hsp; exact fin S6 fun s7 J7 => ⟨_, _, J7, q6⟩
    | false =>
      show wpAny _ X.A (handleBy (.ref a) X.env []) _ _ _
      obtain ⟨k1, k2, k3, oe, vs, T, oT, ts', he, hz, hd, h1, hr⟩ := id fl3
      refine wpAny_handleBy_nil ?_
      unfold PySem.passOn
      refine wpAny_bind (wpAny_field he hd h1 ?_)
      rw [if_neg (show ¬ ((Value.ref T == Value.none) = true) by simp)]
      have go : wpAny (model X.prog X.w) X.A (setFlight (.ref a) X.env.frame) (fun _ s4 => wpAny (model X.prog X.w) X.A (throw (.ref a) : Sem Flow) (SP X pins D) X.xe s4) X.xe { s' with heap := h3 } := by
        rw [hf]
        exact HandSPX.setFlight_upZ fl3 fun h4 hh4 up4 => wpAny_throw (tk _ _ ⟨a, B, sI, pins, σ1, HH, cls, d, rfl, J, nb, (up.trans up3).trans up4, .inr (.inr (by rw [hs]; exact hh4)), na, os, ag, hno rfl⟩)
      first
        | exact wpAny_bind go
        | exact wpAny_bind (wpAny_pure (wpAny_bind go))
  · cases f with
    | ret u => obtain ⟨v, σ1, HH, J, r, q⟩ := hsp; exact ⟨v, σ1, HH, J.ofTry ok, r, q⟩
    | next => obtain ⟨σ1, HH, J, q⟩ := hsp; exact wpAny_execs_nil ⟨σ1, HH, J.ofTry ok, q⟩
    | brk => obtain ⟨σ1, HH, J, q⟩ := hsp; exact ⟨σ1, HH, J.ofTry ok, q⟩
    | cont => obtain ⟨σ1, HH, J, q⟩ := hsp; exact ⟨σ1, HH, J.ofTry ok, q⟩
end
end Ssb

/-! A caught error that is kept: its attribute, isinstance of it. -/
namespace Ssb
open PySem PySem.Spec L2 PyProof.Rows
/-- what the class says, so that isinstance asks its instances rightly -/
structure ExK (K : PySem.W.Frag) (C : Addr) : Prop where
  xf : XfC K C
  cl : (PySem.W.clsIn K C).isSome = true
  ha : PySem.W.findIn K (.ref C) "__class__" = some (some (.builtin "object.__class__"))
  hn : PySem.W.specialIn K (.builtin "object.__class__") "__get__" = some (some (.builtin "getset_descriptor.__get__"))
  ht : PySem.W.takesIn K (.builtin "object.__class__") = some true
  hm : PySem.W.mroIn K C (.type "object") = some true
theorem exk_cl {K : PySem.W.Frag} {C : Addr} (h : PySem.W.hasDictIn K C = true) : (PySem.W.clsIn K C).isSome = true := by
  obtain ⟨cd, hc, _⟩ := PySem.W.any_some h
  rw [hc]; rfl
section
variable {X : Cx} {pins : List (Addr × Obj)} {σ : L2.St} {H : Hp} {s : Shared}
/-- the kept error as an instance of its class -/
theorem kept_inst {a C d : Addr} {fs : List (Str × V)} (I : Inv X pins σ H s) (e : H a = some (exk a (.ref C) (some d))) (ed : H d = some (.xd fs)) : ∃ (oe od : Obj) (mA : Str → Option Value), PySem.W.InstAt s.heap a oe C (some od) ∧ (∀ f, PySem.W.lookIn f od = some (mA f)) ∧ ∀ f, RelO (fs.lookup f) (mA f) := by
  obtain ⟨oe, vs, he, hz, hf⟩ := exk_at I.hok e
  obtain ⟨mA, hns, hr⟩ := (show ObjOk X.prog X.w H s.heap d (.xd fs) from I.hok d _ ed)
  obtain ⟨od, ho, hl⟩ := lookIn_ns hns
  exact ⟨oe, od, mA, ⟨he, hz.1, (by unfold PySem.W.notCls; rw [hf] <;> rfl), (by rw [hz.2]; exact ho)⟩, hl, hr⟩
/-- e.f, e a kept error -/
def tFldE (C : Addr) (f : Str) (te : TE) : TE := fun σ H Q => te σ H fun x H1 => ∃ (a d : Addr) (fs : List (Str × V)) (v : V), x = .ref a ∧ H1 a = some (exk a (.ref C) (some d)) ∧ H1 d = some (.xd fs) ∧ fs.lookup f = some v ∧ Q v H1
theorem pe_fldE {C : Addr} {e : Expr} {te : TE} {pos : Pos} {n : Str} (T : XfC X.K C) (hno : PySem.W.findIn X.K (.ref C) n = some none) (he : PE X e te) (hb : attributeBase e n X.env (eval e X.env) = eval e X.env := by rfl) : PE X (.Attribute e n pos) (tFldE C n te) := by
  refine ⟨fun pins s σ H Q I h => attr_of hb (thn (he.run pins s σ H _ I h) fun u s1 ⟨x, H1, I1, rx, a, d, fs, v, ex, ea, ed, l, q⟩ => ?_)⟩
  subst ex
  cases (show u = Value.ref a from rx)
  obtain ⟨oe, od, mA, J, hl, hr⟩ := kept_inst I1 ea ed
  obtain ⟨u, hu, ru⟩ := RelO.some_of (v := v) (o := mA n) (by rw [← l]; exact hr n)
  exact HandSPX.exc_get I1.kIn J T.ga T.gg T.exC (PySem.W.findObj_own T.hdC hno rfl (by rw [hl, hu])) (handed_of ru) ⟨v, H1, I1.tok _, ru, q⟩
/-- isinstance(e, c), e a kept error -/
def rIsiE (K : PySem.W.Frag) : List V → Hp → VK → Prop := fun xs H Q => ∃ (a C d : Addr) (fs : List (Str × V)) (c : V) (u : Value) (b : Bool), xs = [.ref a, c] ∧ ClsV c u ∧ ExK K C ∧ H a = some (exk a (.ref C) (some d)) ∧ H d = some (.xd fs) ∧ PySem.W.kitOne K (.ref C) u = some b ∧ Q (.bl b) H
theorem call_isiE : CallR X (.builtin "isinstance") (rIsiE X.K) := by
  intro pins s σ H xs us Q I r h
  obtain ⟨a, C, d, fs, c, u, b, rfl, k, T, ea, ed, e, q⟩ := h
  obtain ⟨u1, u2, rfl, r1, r2⟩ := vals2 r
  cases k.eq r2
  cases (show u1 = Value.ref a from r1)
  obtain ⟨oe, od, mA, J, hl, hr⟩ := kept_inst I ea ed
  exact PySem.W.kia_one (PySem.W.kitx_exc (od := some od) T.cl T.xf.ga T.xf.gg T.xf.exC T.ha T.hn T.ht T.hm) I.kIn J e (fun z => nomatch z) fun tk => ⟨.bl b, H, I.tok tk, rfl, q⟩
end
end Ssb

/-! Defs and methods that may raise, called where what is raised is asked for at the caller's slots. -/
namespace Ssb
open PySem PySem.Spec L2 PyProof.Rows
structure FnX (P : Program) (w : World) (K : PySem.W.Frag) (mg : Str → Option Value) (base : Heap) (nm : Str) (k : Nat) (ps : List Str) (sp : Sp) (f : Addr) (fd : FuncData) : Prop where
  ok : FnOk P w K mg base (L2.CX P w) k f fd ps sp
  at_ : mg nm = some (.ref f)
  kp : PySem.W.keepIn K (.ref f) = true
  bd : Binds K fd ps []
structure MtX (P : Program) (w : World) (K : PySem.W.Frag) (mg : Str → Option Value) (base : Heap) (C : Addr) (nm : Str) (k : Nat) (ps : List Str) (sp : Sp) (f : Addr) (fd : FuncData) : Prop where
  ok : FnOk P w K mg base (L2.CX P w) k f fd ps sp
  mt : Meth K C nm f
  bd : Binds K fd ps []
section
variable {X : Cx} {W : WX} {nm : Str} {k j : Nat} {ps : List Str} {sp : Sp} {f : Addr} {fd : FuncData} {p pos apos : Pos} {e o : Expr} {es : List Expr} {ta : TE} {t : TA} {C : Addr} {pl : Sem Bool}
theorem passes_at (tk : Takes X W) (σ : L2.St) : PassesAt (L2.CX X.prog X.w) X σ (fun cls d H => W cls d σ H) := fun pins H s e s' I c => tk _ _ (XE.of_call I (fun _ _ _ h => h) c)
/-- f(e, ..) -/
theorem pclX (G : FnX X.prog X.w X.K X.mg X.base nm k ps sp f fd) (tk : Takes X W) (hr : Room j X.A) (ha : PA X (e :: es) t) (hj : k ≤ j := by first | decide | omega) (hg : Gl X nm := by rfl) (hdb : (nm == ("__debug__" : Str)) = false := by decide)
    (he : starEach (e :: es) X.env = (false, eval e X.env) :: starEach es X.env := by rfl) (hpl : (backTo pos (starEach es X.env)).any (·.1) = false := by rfl) : PE X (.Call (.Name nm p) (e :: es) [] pos) (tCallSD sp [] (fun σ cls d H => W cls d σ H) t) :=
  pe_callSD G.ok (hr.mono hj) hg G.at_ G.kp G.bd .nil (passes_at tk) ha hdb he hpl
/-- the reading of o.m(e, ..) -/
def tMethS (C : Addr) (m : Str) (sp : Sp) (W : WX) (ta : TE) (t : TA) : TE := fun σ H Q => ta σ H fun x H1 => ∃ a dx fs, x = .ref a ∧ H1 a = some (.ins C dx fs) ∧ fs.lookup m = none ∧ t σ H1 fun vs H2 => sp (x :: vs) H2 Q fun cls d H' => W cls d σ H'
theorem pmtX (ho : PE X o ta) (c : Cls X.K C) (G : MtX X.prog X.w X.K X.mg X.base C nm k ps sp f fd) (tk : Takes X W) (hr : Room j X.A) (ha : PA X (e :: es) t) (hj : k ≤ j := by first | decide | omega)
    (he : starEach (e :: es) X.env = (false, eval e X.env) :: starEach es X.env := by rfl) (hpl : (backTo pos (starEach es X.env)).any (·.1) = false := by rfl)
    (ht : eval (.Call (.Attribute o nm apos) (e :: es) [] pos) X.env = (do
      let ov ← eval o X.env
      standAt apos.atName
      let (f, first) ← holding [ov] (getMethod ov nm pl)
      callWith pos f first (backTo pos (starEach (e :: es) X.env)) (backToKw pos (keywordEach [] X.env))) := by rfl) : PE X (.Call (.Attribute o nm apos) (e :: es) [] pos) (tMethS C nm sp W ta t) := by
  refine ⟨fun pins s σ H Q I h => PySem.W.methodCall_KW (pl := pl) (thn (ho.run pins s σ H _ I h) fun u s1 ⟨x, H1, I1, rx, a, dx, fs, ex, ea, l, q⟩ => ?_) ht⟩
  subst ex
  cases (show u = Value.ref a from rx)
  refine getmeth_ok I1 ea c G.mt l (PySem.W.callWith_K (first := [.ref a]) (h₀ := X.base) I.ok.mod.kin G.mt.kp (thn (ha.run pos pins s1 σ H1 _ I1 q) fun us s2 ⟨vs, H2, I2, r, q2⟩ => ⟨I2.kIn, ?_⟩) he hpl)
  exact run_fnSD (E := fun σ cls d H => W cls d σ H) (dvs := []) (us := .ref a :: us) (vs := .ref a :: vs) G.ok (hr.mono hj) G.bd .nil (passes_at tk σ) I2 (.cons rfl r) (by rw [List.append_nil]; exact q2)
end
end Ssb

/-! list(reversed(a list)) as one expression. -/
namespace Ssb
open PySem PySem.Spec PyProof.Rows L2 RT
section
variable {pr : Program} {wd : World} {Ar : Around} {Er : Value → Shared → Prop} {st : Shared}
/-- a fresh list taking what the walker over l, from its end, hands out -/
theorem ext_rev {R : Result → Shared → Prop} {it l S : Addr} {vs : Array Value} (hh : Ar.handled = none) (hit : st.heap.IsRevIter it l ((vs.size : Int) - 1)) (hl : st.heap.IsList l vs) (n1 : l ≠ it) (n2 : S ≠ it) (n3 : S ≠ l) (hn : vs.size ≤ sizeLine)
    (res : Value) (c₀ : Nat) (hS : st.heap.get? S = some { cls := .type "list", data := .seq #[] c₀ })
    (k : ∀ (h' : Heap) (tk : Nat) (acc : Array Value) (c' : Nat), (∀ b o, b ≠ S → b ≠ it → st.heap.get? b = some o → h'.get? b = some o) → h'.get? S = some { cls := .type "list", dict := none, data := .seq acc c', slots := #[] } →
      ItemsOf (fun i v => vs[vs.size - 1 - i]? = some v) acc vs.size → R (.ok (.ret res)) { st with heap := h', toks := tk }) :
    wpAny (model pr wd) Ar.in1 (Builtin.List.listExtendWith (.ref S) (.ref it) res) (fun fin z => match fin with | .done f => R (.ok f) z | .again c' => c'.quiet = true ∧ codeAny (model pr wd) Ar c' R z) (fun e z => R (.error e) z) st := by
  have W := (Walks.listRev (prog := pr) (w := wd) (A := Ar.in1) hh it l n1 vs).toS
  have out : S ∉ [it, l] := by simp [n2, n3]
  have ht : st.TypeIs (.ref it) "list_reverseiterator" := hit.typeIs
  have ns : Builtin.List.listSameRef (.ref S) (.ref it) = false := by simp [Builtin.List.listSameRef, n2]
  unfold Builtin.List.listExtendWith
  refine wpAny_bind (wpAny_typeOf ht ?_)
  rw [if_neg (by rw [ns]; decide)]
  refine wpAny_bind (wpAny_pyIter_revIter hit (wpAny_bind (wpAny_holding ?_)))
  unfold Builtin.List.listLengthHint
  refine wpAny_bind (wpAny_specialOf ht nolen_lri ?_)
  show wpAny _ _ (specialOf (.ref it) (Str.ofString "__length_hint__") >>= _) _ _ _
  refine wpAny_bind (wpAny_specialOf ht hint_lri ?_)
  generalize hid : ("list_reverseiterator.__length_hint__" : String) = hintName
  wp_delta
  rw [show splitId hintName = some ("list_reverseiterator", "__length_hint__") from by rw [← hid]; decide +kernel]
  subst hid
  refine wpAny_bind (wpAny_isInstance (b := true) ht (by rw [isSubtype_type]; kernel_rfl) (wpAny_pure ?_))
  rw [if_neg (by decide)]
  have e0 : (vs.size : Int) - 1 = (vs.size : Int) - 1 - ((0 : Nat) : Int) := by omega
  rw [e0] at hit
  refine wpAny_pure ⟨plainId_quiet F.plain_extend_loop _, codeAny_extend_loopS W hn S out res vs.size 0 _ _ _ rfl (Nat.zero_le _) ⟨Nat.zero_le _, hit, hl⟩ hS (ItemsOf.nil _) fun z acc c' mv hz hi => ?_⟩
  rw [Moved.eq_with mv]
  exact k z.heap z.toks acc c' (fun b o b1 b2 e => mv.heap b o (by simp [b1, b2]) e) hz hi
theorem list_init_rev {R : Result → Shared → Prop} {it l S : Addr} {vs : Array Value} (hh : Ar.handled = none) (hit : st.heap.IsRevIter it l ((vs.size : Int) - 1)) (hl : st.heap.IsList l vs) (n1 : l ≠ it) (n2 : S ≠ it) (n3 : S ≠ l) (hn : vs.size ≤ sizeLine)
    (hS : st.heap.get? S = some { cls := .type "list", data := .seq #[] })
    (k : ∀ (h' : Heap) (tk : Nat) (acc : Array Value) (c' : Nat), (∀ b o, b ≠ S → b ≠ it → st.heap.get? b = some o → h'.get? b = some o) → h'.get? S = some { cls := .type "list", dict := none, data := .seq acc c', slots := #[] } →
      ItemsOf (fun i v => vs[vs.size - 1 - i]? = some v) acc vs.size → R (.ok (.ret .none)) { st with heap := h', toks := tk }) :
    wpAny (model pr wd) Ar.in1 (Builtin.«list.__init__» ⟨[.ref S, .ref it], []⟩) (fun fin z => match fin with | .done f => R (.ok f) z | .again c' => c'.quiet = true ∧ codeAny (model pr wd) Ar c' R z) (fun e z => R (.error e) z) st := by
  show wpAny _ _ (Builtin.List.listItems (.ref S) >>= fun old => Builtin.List.listUpdate (.ref S) (fun _ => #[]) >>= fun _ => letGo old.toList.reverse >>= fun _ => Builtin.List.listExtendWith (.ref S) (.ref it) .none) _ _ st
  refine wpAny_bind ?_
  unfold Builtin.List.listItems
  refine wpAny_bind (wpAny_seqItems hS rfl (wpAny_pure (wpAny_bind ?_)))
  show wpAny _ _ (updateSeq S fun _ => #[]) _ _ _
  have kept : ∀ b o, b ≠ S → st.heap.get? b = some o → (st.heap.update S (Obj.mapSeq fun _ => (#[] : Array Value))).get? b = some o := fun b o hb e => (Heap.get?_update_other _ _ (Ne.symm hb)).trans e
  refine wpAny_updateSeq hS rfl (wpAny_bind (wpAny_letGo ?_))
  exact ext_rev hh (hit.at fun o e => kept it o (Ne.symm n2) e) (hl.at fun o e => kept l o (Ne.symm n3) e) n1 n2 n3 hn .none _ (Heap.get?_update_self (Obj.mapSeq fun _ => (#[] : Array Value)) hS rfl) fun h' tk acc c' q => k h' tk acc c' fun b o b1 b2 e => q b o b1 b2 (kept b o b1 e)
theorem call_list_rev {Q : Value → Shared → Prop} {it l : Addr} {vs : Array Value} (hh : Ar.handled = none) (hit : st.heap.IsRevIter it l ((vs.size : Int) - 1)) (hl : st.heap.IsList l vs) (n1 : l ≠ it) (hn : vs.size ≤ sizeLine)
    (k : ∀ (h' : Heap) (tk : Nat) (acc : Array Value) (c' : Nat), (∀ b o, b ≠ it → st.heap.get? b = some o → h'.get? b = some o) → h'.get? st.heap.objs.size = some { cls := .type "list", dict := none, data := .seq acc c', slots := #[] } →
      ItemsOf (fun i v => vs[vs.size - 1 - i]? = some v) acc vs.size → Q (.ref st.heap.objs.size) { st with heap := h', toks := tk }) : wpAny (model pr wd) Ar (call (.type "list") [.ref it]) Q Er st := by
  obtain ⟨oi, hoi, _⟩ := id hit
  obtain ⟨ol, hol, _⟩ := id hl
  refine callType_codes (Q₁ := fun u z => u = .ref st.heap.objs.size ∧ z = { st with heap := st.heap.push { cls := .type "list", data := .seq #[] } }) F.called_list (F.typeCall_list_1 _) F.entry_list_init (code_list_new _ ⟨rfl, rfl⟩) ?_
  rintro u z ⟨rfl, rfl⟩
  have hS : (st.heap.push { cls := .type "list", data := .seq #[] }).get? st.heap.objs.size = some { cls := .type "list", data := .seq #[] } := Heap.get?_push_size _ rfl
  refine ⟨⟨_, hS, rfl⟩, F.args_list_init_2 _ _, list_init_rev (Ar := Ar.in1) (it := it) (l := l) (vs := vs) hh (hit.at fun o e => Heap.get?_push_of_some _ e) (hl.push _) n1 (Nat.ne_of_gt (Heap.lt_size hoi)) (Nat.ne_of_gt (Heap.lt_size hol)) hn hS fun h' tk acc c' q hz hi => ⟨rfl, ?_⟩⟩
  exact k h' tk acc c' (fun b o hb e => q b o (Nat.ne_of_lt (Heap.lt_size e)) hb (Heap.get?_push_of_some _ e)) hz hi
end
/-- list(reversed(e)), e a list -/
def tLstRev (K : PySem.W.Frag) (te : TE) : TE := fun σ H Q => te σ H fun x H1 => ∃ (a : Addr) (xs : List V), x = .ref a ∧ SqL K H1 a xs ∧ ∀ p, H1 p = none → Q (.ref p) (upd H1 p (.lst xs.reverse))
section
variable {X : Cx}
theorem pe_lstRev {e : Expr} {te : TE} {q1 q2 c1 c2 : Pos} (hc : X.calm = true) (g1 : Gl X "list") (m1 : X.mg "list" = none) (g2 : Gl X "reversed") (m2 : X.mg "reversed" = none) (he : PE X e te)
    (h1 : starEach [e] X.env = (false, eval e X.env) :: starEach [] X.env := by rfl)
    (h2 : starEach [.Call (.Name "reversed" q2) [e] [] c2] X.env = (false, eval (.Call (.Name "reversed" q2) [e] [] c2) X.env) :: starEach [] X.env := by rfl) :
    PE X (.Call (.Name "list" q1) [.Call (.Name "reversed" q2) [e] [] c2] [] c1) (tLstRev X.K te) := by
  refine ⟨fun pins s σ H Q I h => ?_⟩
  refine Call_ (ld_blt I g1 m1 boot_list (PyProof.Rows.callWith_type1 (args_cons ?_ h2) h2 rfl))
  refine Call_ (ld_blt I g2 m2 PyProof.Rows.boot_reversed (PyProof.Rows.callWith_type1 (args_cons ?_ h1) h1 rfl))
  refine thn (he.run pins s σ H _ I h) fun u s1 ⟨v, H1, I1, r1, a, xs, ev, hq, q⟩ => args_nil ?_
  subst ev
  obtain rfl : u = Value.ref a := r1
  obtain ⟨its, rv, pl, hz⟩ := I1.list hq
  have il := pl.isList
  obtain ⟨ol, hol, _⟩ := id il
  refine call_reversed_list il (args_nil ?_)
  have I2 : Inv X pins σ H1 { s1 with heap := s1.heap.push (revObj a ((its.toArray.size : Int) - 1)) } := I1.kept (t' := s1.toks) fun b o e => Heap.get?_push_of_some _ e
  obtain ⟨f0, f1, f2, f3, f4, f5⟩ := I1.fpOk (H' := H1) (b := s1.heap.objs.size) (Nat.le_refl _) (I1.hok.fresh (Nat.le_refl _))
  have small : its.toArray.size ≤ sizeLine := by rw [List.size_toArray, ← rv.length]; exact hz
  refine call_list_rev (st := { s1 with heap := s1.heap.push (revObj a ((its.toArray.size : Int) - 1)) }) (it := s1.heap.objs.size) (l := a) (vs := its.toArray) (I1.ok.hd hc) ⟨_, Heap.get?_push_size _ rfl, rfl, rfl⟩ (il.push _) (Nat.ne_of_lt (Heap.lt_size hol)) small fun h' tk acc c' hk hz' hi => ?_
  have all : ∀ b o, s1.heap.get? b = some o → h'.get? b = some o := fun b o e => hk b o (Nat.ne_of_lt (Heap.lt_size e)) (Heap.get?_push_of_some _ e)
  have lo : s1.heap.objs.size ≤ (s1.heap.push (revObj a ((its.toArray.size : Int) - 1))).objs.size := by
    show s1.heap.objs.size ≤ (s1.heap.objs.push _).size
    rw [Array.size_push]; omega
  exact ⟨.ref _, upd H1 _ (.lst xs.reverse), I1.laid (t' := tk) all lo (show ObjOk X.prog X.w _ _ _ (.lst xs.reverse) from ⟨by rw [List.length_reverse]; exact hz, acc.toList, c', vals_rev rv hi, by rw [Array.toArray_toList]; exact hz'⟩), rfl, q _ (I1.hok.fresh lo)⟩
end
end Ssb

/-! f"{i:x}" of an int. -/
namespace Ssb
open PySem PySem.Spec PyProof.Rows Builtin Float
/-- an int in hex signs -/
def hexT (a : Int) : Str := ⟨((if a < 0 then [45] else []) ++ (Nat.toDigits 16 a.natAbs).map Char.toNat).toArray⟩
def fX : FormatSpec := { fill := 32, align := 62, type := some 120 }
theorem fX_ok : parseFormatSpec ("x" : Str).cps.toList "int" 62 = .ok fX := by kernel_rfl
section
variable {prog : Program} {w : World} {A : Around} {E : Value → Shared → Prop} {s : Shared}
theorem hexT_len (a : Int) : (hexT a).length ≤ 1 + (Nat.toDigits 16 a.natAbs).length := by
  show (((if a < 0 then [45] else []) ++ (Nat.toDigits 16 a.natAbs).map Char.toNat).toArray).size ≤ _
  rw [List.size_toArray, List.length_append, List.length_map]
  split <;> simp
theorem hex_field {f : FormatSpec} (hw : f.width = none) (hgr : f.grouping = none) (hsg : f.sign = none) (hfi : f.fill = 32) (hli : f.align = 62) (neg : Bool) (ds : List Nat) : intField' f neg [] ds [] 4 = ⟨((if neg = true then [45] else []) ++ ds).toArray⟩ := by
  have e : (if ds.isEmpty = true then ([] : List Nat) else List.replicate ((0 : Int).toNat - ds.length) 48 ++ ds) = ds := by
    cases ds with
    | nil => rfl
    | cons d ds => simp
  unfold intField'
  simp only [hw, hgr, hsg, hfi, hli]
  rw [if_neg (show ¬ ((32 : Nat) == 48 && (62 : Nat) == 61) = true by decide), e, if_neg (show ¬ ((62 : Nat) == 60) = true by decide), if_neg (show ¬ ((62 : Nat) == 94) = true by decide), if_neg (show ¬ ((62 : Nat) == 61) = true by decide)]
  have hp : ∀ k m : Nat, (-1 - ((k : Int) + (([] : List Nat).length : Int) + (([] : List Nat).length : Int)) - (m : Int)).toNat = 0 := fun k m => by
    rw [Int.toNat_eq_zero]
    simp only [List.length_nil]
    omega
  simp only [hp]
  cases neg <;> simp
theorem formatField_hex {a : Int} {t : Tok} {Q : Value → Shared → Prop} (hd : (Nat.toDigits 16 a.natAbs).length ≤ 100000) (h : Q (.str (hexT a) (s.toks + 1)) { s with toks := s.toks + 1 + 1 }) : wpAny (model prog w) A (formatField (.int a t) "x") Q E s := by
  have hlen : (hexT a).length ≤ sizeLine := by
    have := hexT_len a
    rw [sizeLine_eq]; omega
  have hne : (("x" : Str).length == 0) = false := by kernel_rfl
  have hasc : ((("x" : Str).cps.toList.drop 1).any (· ≥ 128) || (("x" : Str).cps.getD 0 0 ≥ 128 && !([60, 62, 61, 94] : List Nat).contains (("x" : Str).cps.getD 1 0))) = false := by kernel_rfl
  have hp := fX_ok
  show wpAny _ _ (holding [.int a t] (pyFormat (.int a t) ("x" : Str))) Q E s
  generalize hx : ("x" : Str) = spec at hne hasc hp ⊢
  have hsz : spec.length ≤ sizeLine := by rw [← hx]; decide
  refine wpAny_holding ?_
  unfold pyFormat
  refine wpAny_bind (wpAny_mkStr ?_ hsz)
  refine wpAny_bind (m := callSpecial? (.int a t) (Str.ofString "__format__") [.str spec s.toks]) (wpAny_callSpecial?_slot (name := Str.ofString "__format__") (typeIs_int _ a t) slot_int_format ?_)
  refine wpAny_call (codeAny_call_builtin slot_int_format.plain entry_int_format (slot_int_format.check _ _ _ _ _ _ _ _ (typeIs_int _ a t) (args_int_format _ _) ?_))
  unfold Builtin.«int.__format__»
  simp only [selfAndOne, noKeywords, Int.intOfSelf, asInt?, asStr?, List.isEmpty_nil, if_true, pure_bind, bind_pure, bind_assoc, hne, hasc, Bool.false_eq_true, if_false,
    show (Value.str spec s.toks == Value.none) = false from rfl]
  refine wpAny_bind (wpAny_typeNameOf (T := "str") (typeIs_str _ _ _) (by decide) fun _ => ?_)
  first | refine wpAny_bind (wpAny_typeNameOfCut_int ?_) | refine wpAny_bind (wpAny_typeNameOf_int ?_)
  simp only [hp]
  have hty : ∀ d, fX.type.getD d = 120 := fun _ => rfl
  have hpr : fX.precision = none := rfl
  have hz : fX.noNeg0 = false := rfl
  have hal : fX.alt = false := rfl
  have hw : fX.width = none := rfl
  have hgr : fX.grouping = none := rfl
  have hsg : fX.sign = none := rfl
  have hfi : fX.fill = 32 := rfl
  have hli : fX.align = 62 := rfl
  clear hp
  generalize fX = f at hty hpr hz hal hw hgr hsg hfi hli ⊢
  simp only [hty]
  rw [if_pos (by decide)]
  show wpAny _ _ (if _ then _ else _) _ _ _
  rw [if_neg (by simp [hpr])]
  show wpAny _ _ (if _ then _ else _) _ _ _
  rw [if_neg (by simp [hz])]
  show wpAny _ _ (if _ then _ else _) _ _ _
  rw [if_neg (by decide)]
  show wpAny _ _ (if _ then _ else _) _ _ _
  rw [if_neg (by decide)]
  show wpAny _ _ (if _ then _ else _) _ _ _
  rw [if_neg (by simp [hw])]
  show wpAny _ _ (retStr _) _ _ _
  unfold retStr
  have ez : intField' f (decide (a < 0)) [] ((Nat.toDigits 16 a.natAbs).map Char.toNat) [] 4 = hexT a := by
    rw [hex_field hw hgr hsg hfi hli]
    unfold hexT
    by_cases c : a < 0
    · rw [if_pos (decide_eq_true c), if_pos c]
    · rw [if_neg (by rw [decide_eq_false c]; exact Bool.false_ne_true), if_neg c]
  have hl2 : (intField' f (decide (a < 0)) [] ((Nat.toDigits 16 a.natAbs).map fun c => c.toNat) [] 4).length ≤ sizeLine := by
    have := hlen
    rw [← ez] at this
    exact this
  have hq2 : Q (.str (intField' f (decide (a < 0)) [] ((Nat.toDigits 16 a.natAbs).map fun c => c.toNat) [] 4) (s.toks + 1)) { s with toks := s.toks + 1 + 1 } := by
    have := h
    rw [← ez] at this
    exact this
  clear h hlen ez
  refine wpAny_bind (wpAny_mkStr (wpAny_pure ?_) ?hs2)
  case hs2 =>
    simp only [hal, Bool.false_eq_true, if_false, show ((120 : Nat) == 88) = false by decide, show ((16 : Nat) == 10) = false by decide]
    conv => lhs; arg 1; whnf
    simp only [intField', hgr, hsg] at hl2 ⊢
    exact hl2
  dsimp only
  refine wpAny_bind (wpAny_isInstance (typeIs_str _ _ _) isSubtype_str_str (wpAny_pure ?_))
  simp only [hal, Bool.false_eq_true, if_false, show ((120 : Nat) == 88) = false by decide, show ((16 : Nat) == 10) = false by decide]
  conv => arg 1; arg 1; whnf
  simp only [intField', hgr, hsg] at hq2 ⊢
  exact hq2
end
end Ssb

/-! list.index with a start; a slice assigned; a field in hex. -/
namespace PySem
namespace SeqAt
open AutoSeq1 (wpAny_loadPart')
open MeetsSeq MeetsSeq2 MeetsSeq3 SeqRoads2
theorem list_indexFrom (l : Addr) (items : Array Value) (n : Nat) (dd : Option Addr) (sl : Array (Option Value)) (x : Value) (e : Value → Bool) (a : Nat) (ta : Tok) (j : Nat) (hj : j < items.size) (haj : a ≤ j) (hsmall : (j : Int) < 2 ^ 63 - 1)
    (hit : e items[j] = true) (hno : ∀ m (hm : m < items.size), a ≤ m → m < j → e items[m] = false) :
    Meets (Builtin.«list.index» ⟨[.ref l, x, .int a ta], []⟩)
      (fun A R s => s.heap.get? l = some { cls := .type "list", dict := dd, data := .seq items n, slots := sl } ∧ (∀ y, y ∈ items → EqAt A.in1 s y x (e y)) ∧ R (.ok (.ret (.int j s.toks))) { s with toks := s.toks + 1 }) := by
  intro prog w A R s h
  obtain ⟨hp, g, d, tk, os⟩ := s; obtain ⟨hl, he, h⟩ := h
  wp_walk using wpAny_loadPart' hl
  have a1 : ((fun i : Int => if i < 0 then max 0 (i + (items.size : Int)) else i) ((some (a : Int)).getD 0)) = (a : Int) := by
    show (if (a : Int) < 0 then max 0 ((a : Int) + (items.size : Int)) else (a : Int)) = (a : Int)
    rw [if_neg (by omega)]
  have a2 : ((fun i : Int => if i < 0 then max 0 (i + (items.size : Int)) else i) ((none : Option Int).getD (2 ^ 63 - 1))) = 2 ^ 63 - 1 := by simp
  rw [a1, a2]
  exact ⟨plainId_quiet plain_index_loop _, codeAny_builtin entry_index_loop (by
    rw [Around.under_plainId plain_index_loop _]
    exact index_loopAt l items n dd sl x e (2 ^ 63 - 1) j hj hsmall hit _ a rfl haj hno prog w A R _ ⟨hl, he, h⟩)⟩
end SeqAt
end PySem
namespace Ssb
open PySem PySem.Spec PyProof.Rows L2
section
variable {X : Cx}
/-- xs.index(y, a) -/
def rIndexF (K : PySem.W.Frag) : V → List V → Hp → VK → Prop := fun x xs H Q => ∃ (l : Addr) (ys : List V) (y : V) (a j : Nat) (z : V), x = V.ref l ∧ xs = [y, .int a] ∧ SqL K H l ys ∧ flatV y = true ∧ ys.all flatV = true ∧ a ≤ j ∧ ys[j]? = some z ∧ eqV z y = true ∧
  (∀ (m : Nat) (z' : V), a ≤ m → m < j → ys[m]? = some z' → eqV z' y = false) ∧ Q (.int (j : Nat)) H
theorem mt_indexF : MtR X "list.index" (rIndexF X.K) := by
  intro pins s σ H x xs v us Q I rx rxs h
  obtain ⟨l, ys, y, a, j, z, rfl, rfl, hs, fy, fys, haj, hz, hzj, hno, q⟩ := h
  cases rx
  cases rxs with
  | cons ry rt =>
    rename_i uy ut
    cases rt with
    | cons ra rt2 =>
    rename_i ua ut2
    cases rt2
    obtain ⟨ta, rfl⟩ := ra
    obtain ⟨its, rv, ⟨⟨cls, dd, data, sl⟩, n, ho, hc, hdn, hd⟩, hlen⟩ := I.list hs
    simp only at hc hd
    subst hc hd
    obtain ⟨u, hu, ru⟩ := rv.get hz
    obtain ⟨hjl, hje⟩ := List.getElem?_eq_some_iff.mp hu
    have hvl := rv.length
    have hj : j < its.toArray.size := by simpa using hjl
    have hsl := sizeLine_eq
    refine call_meets PySem.F.slot_list_index ⟨_, ho, rfl⟩ PySem.F.entry_list_index (PySem.F.args_list_index_3 _ _ _)
      (SeqAt.list_indexFrom l its.toArray n dd sl uy (eqU y) a ta j hj haj (by omega) ?_ ?_) ⟨ho, fun u' hu' => mem_eqAt ry fy rv fys u' (by simpa using hu'), ?_⟩
    · have e1 : its.toArray[j] = u := by simpa using hje
      rw [e1, eqU_of ru (flat_at fys hz)]
      exact hzj
    · intro m hm ham hmj
      have hml : m < its.length := by simpa using hm
      have hmy : m < ys.length := by omega
      have hy' : ys[m]? = some ys[m] := List.getElem?_eq_getElem hmy
      obtain ⟨u2, hu2, ru2⟩ := rv.get hy'
      obtain ⟨_, hme⟩ := List.getElem?_eq_some_iff.mp hu2
      have e1 : its.toArray[m] = u2 := by simpa using hme
      rw [e1, eqU_of ru2 (flat_at fys hy')]
      exact hno m _ ham hmj hy'
    · exact ⟨.int (j : Nat), H, I.tok _, ⟨_, rfl⟩, q⟩
/-- {x:x} of an int -/
def tHex (te : TE) : TE := fun σ H Q => te σ H fun x H1 => ∃ i : Int, x = .int i ∧ (Nat.toDigits 16 i.natAbs).length ≤ 100000 ∧ Q (.str (hexT i)) H1
theorem pe_hex {e : Expr} {te : TE} {pos p2 : Pos} {p1 : Nat} {p3 : Pos} (he : PE X e te) : PE X (.FormattedValue e (-1) (some (.JoinedStr [.Constant (.str "x") p1 p3] p2)) pos) (tHex te) := by
  refine ⟨fun pins s σ H Q I h => ?_⟩
  refine wpAny_FormattedValue_spec (thn (he.run pins s σ H _ I h) fun v s1 ⟨x, H1, I1, r1, q1⟩ => ?_)
  obtain ⟨i, rfl, hz, q⟩ := q1
  obtain ⟨t, rfl⟩ := r1
  have p0 : PE X (.JoinedStr [.Constant (.str "x") p1 p3] p2) (tC (.str "x")) := pe_joined1 pe_str
  refine thn (p0.run pins s1 σ H1 (fun v H2 => v = .str "x" ∧ H2 = H1) I1 ⟨rfl, rfl⟩) fun v2 s2 ⟨x2, H2, I2, r2, q2⟩ => ?_
  obtain ⟨rfl, rfl⟩ := q2
  obtain ⟨t2, rfl⟩ := r2
  exact ⟨_, _, rfl, formatField_hex hz ⟨.str (hexT i), H2, I2.tok _, ⟨_, rfl⟩, q⟩⟩
theorem signs_at {z : Str} : ∀ {us : List Value} {cs : List Nat} {k : Nat}, us.length = cs.length → (∀ (j : Nat) (v : Value), us[j]? = some v → SignAt z (k + j) v) → (∀ j, cs[j]? = z.cps[k + j]?) → Vals (cs.map fun c => V.str ⟨#[c]⟩) us
  | [], [], _, _, _, _ => .nil
  | [], _ :: _, _, h, _, _ => by simp at h
  | _ :: _, [], _, h, _, _ => by simp at h
  | u :: us, c :: cs, k, hl, h, hc => by
    obtain ⟨d, t, e1, e2⟩ := h 0 u rfl
    have e3 := hc 0
    rw [e1] at e3
    have e4 : c = d := Option.some.inj e3
    subst e4
    rw [List.map_cons]
    refine .cons ⟨t, e2⟩ (signs_at (z := z) (k := k + 1) (by simpa using hl) (fun j v e => ?_) fun j => ?_)
    · have := h (j + 1) v (by simpa using e)
      rw [show k + (j + 1) = k + 1 + j by omega] at this
      exact this
    · have := hc (j + 1)
      rw [show k + (j + 1) = k + 1 + j by omega] at this
      rw [← this]; rfl
/-- list(a text) -/
def rListStr : List V → Hp → VK → Prop := fun xs H Q => ∃ z : Str, xs = [.str z] ∧ z.length ≤ sizeLine ∧ ∀ p, H p = none → Q (.ref p) (upd H p (.lst (z.cps.toList.map fun c => V.str ⟨#[c]⟩)))
theorem call_listS (hcalm : X.calm = true) : CallR X (.type "list") rListStr := by
  intro pins s σ H xs us Q I r q
  obtain ⟨z, ex, hz, q⟩ := q
  subst ex
  obtain ⟨u, eu, rx⟩ := vals1 r
  subst eu
  obtain ⟨t, rfl⟩ := rx
  refine call_list_str (I.ok.hd hcalm) z t (fun h' tk acc c' hk hD hacc => ?_) hz
  have hv : Vals (z.cps.toList.map fun c => V.str ⟨#[c]⟩) acc.toList := by
    refine signs_at (z := z) (k := 0) (by rw [Array.length_toList, Array.length_toList]; exact hacc.1) (fun j v e => ?_) fun j => by rw [Nat.zero_add, Array.getElem?_toList]
    rw [Nat.zero_add]
    exact hacc.2 j v (by rw [← Array.getElem?_toList]; exact e)
  exact ⟨.ref s.heap.objs.size, upd H s.heap.objs.size (.lst (z.cps.toList.map fun c => V.str ⟨#[c]⟩)), I.laid (t' := tk) hk (Nat.le_refl _)
    (show ObjOk X.prog X.w _ _ _ (.lst _) from ⟨by rw [List.length_map]; exact hz, acc.toList, c', hv, by rw [Array.toArray_toList]; exact hD⟩), rfl, q _ (I.hok.fresh (Nat.le_refl _))⟩
end
end Ssb

/-! xs[a:a + 1] = [..]. -/
namespace Ssb
open PySem PySem.Spec PyProof.Rows L2
open AutoSeq1 (wpAny_loadPart')
open MeetsSeq MeetsSeq2 MeetsSeq3 SeqRoads2 Builtin
/-- the ends of xs[a:a + 1] where a is the list's length or less -/
theorem ends_at {a n : Nat} (ha : a ≤ n) : sliceBounds (some (a : Int)) (some ((a : Int) + 1)) none n = ((a : Int), ((min (a + 1) n : Nat) : Int), 1) := by
  unfold sliceBounds
  have h1 : ¬ ((a : Int) < 0) := by omega
  have h2 : ¬ ((a : Int) + 1 < 0) := by omega
  simp only [Option.getD_none, h1, h2, if_false, show (1 : Int) > 0 from by decide, if_true, Prod.mk.injEq, and_true]
  omega
theorem meets_put (l b sl : Addr) (items new : Array Value) (n n2 : Nat) (a : Nat) (ta tb : Tok) (ha : a ≤ items.size) (hne : l ≠ b) (hsz : items.size + new.size ≤ sizeLine) :
    Meets (Builtin.«list.__setitem__» ⟨[.ref l, .ref sl, .ref b], []⟩)
      (fun A R s => s.heap.get? l = some { cls := .type "list", data := .seq items n } ∧ s.heap.get? b = some { cls := .type "list", data := .seq new n2 } ∧ s.heap.IsSliceOf sl (.int a ta) (.int ((a : Int) + 1) tb) .none ∧
        R (.ok (.ret .none)) { s with heap := s.heap.update l (Obj.mapSeq fun xs => xs.extract 0 a ++ new ++ xs.extract (min (a + 1) items.size) xs.size) }) := by
  intro prog w A R s h
  obtain ⟨hl, hb, hs, h⟩ := h
  obtain ⟨os, ho, hc, hd⟩ := id hs
  have ty : s.TypeIs (.ref sl) "slice" := ⟨os, ho, hc⟩
  have one : Builtin.List.listSubscript? (.ref sl) = Builtin.List.listSubscript? (.ref sl) := rfl
  wp_walk using wpAny_loadPart' hl, wpAny_loadPart' hb
  rw [slice_no_index]
  wp_walk
  rw [hd]
  wp_walk using wpAny_loadPart' hl, wpAny_loadPart' hb
  rw [hd]
  wp_walk using wpAny_loadPart' hl, wpAny_loadPart' hb
  rw [PySem.F.slot_int_index.lookup]
  wp_walk using wpAny_loadPart' hl, wpAny_loadPart' hb
  rw [hd]
  wp_walk using wpAny_loadPart' hl, wpAny_loadPart' hb
  rw [PySem.F.slot_int_index.lookup]
  wp_walk using wpAny_loadPart' hl, wpAny_loadPart' hb
  have same : ¬ Builtin.List.listSameRef (.ref l) (.ref b) = true := by simp [Builtin.List.listSameRef, hne]
  rw [if_neg same]
  wp_walk using wpAny_loadPart' hl, wpAny_loadPart' hb
  have tl : ¬ Builtin.List.listTooLong (items.size + new.size) = true := by rw [notLongL hsz]; exact Bool.false_ne_true
  rw [if_neg tl]
  have z1 : (Max.max 0 (Min.min (if (a : Int) < 0 then (a : Int) + (items.size : Int) else (a : Int)) (items.size : Int))) = (a : Int) := by
    rw [if_neg (by omega)]; omega
  have z2 : (Max.max 0 (Min.min (if (a : Int) + 1 < 0 then (a : Int) + 1 + (items.size : Int) else (a : Int) + 1) (items.size : Int))) = ((min (a + 1) items.size : Nat) : Int) := by
    rw [if_neg (by omega)]; omega
  rw [z1, z2, show (Max.max (a : Int) ((min (a + 1) items.size : Nat) : Int)).toNat = min (a + 1) items.size by omega, Int.toNat_natCast]
  wp_walk using wpAny_loadPart' hl, wpAny_loadPart' hb
  have pl : (Obj.mapSeq (fun xs => xs.extract 0 a ++ new ++ xs.extract (min (a + 1) items.size)) { cls := .type "list", data := .seq items n }).data.pastItsLine = none :=
    pastItsLine_seq (by show (items.extract 0 a ++ new ++ items.extract (min (a + 1) items.size)).size ≤ _; simp only [Array.size_append, Array.size_extract]; omega)
  rw [pl]
  wp_walk
  exact h
section
variable {X : Cx}
/-- o[a:a + 1] = [..], a the list's length or less -/
def gSlice1 (to tl th : TE) : TG := fun v σ H Q => to σ H fun o H1 => tl σ H1 fun x H2 => th σ H2 fun y H3 => ∃ (l b : Addr) (xs ys : List V) (a : Nat), o = .ref l ∧ v = .ref b ∧ x = .int (a : Int) ∧ y = .int ((a : Int) + 1) ∧ H3 l = some (.lst xs) ∧ H3 b = some (.lst ys) ∧ l ≠ b ∧ a ≤ xs.length ∧ xs.length + ys.length ≤ sizeLine ∧
  Q σ (upd H3 l (.lst (xs.take a ++ ys ++ xs.drop (a + 1))))
theorem pg_slice1 {o lo hi : Expr} {to tl th : TE} {p2 pos : Pos} (ho : PE X o to) (hl : PE X lo tl) (hh : PE X hi th) : PG X (.Subscript o (.Slice (some lo) (some hi) none p2) pos) (gSlice1 to tl th) := by
  refine ⟨fun pins s σ H v u Q I r h => ?_⟩
  rw [arm_assign_Subscript]
  refine wpAny_bind (wpAny_holding (thn (ho.run pins s σ H _ I h) fun ov s1 ⟨x, H1, I1, r1, q1⟩ => ?_))
  refine wpAny_bind (wpAny_holding (wpAny_Slice ?_))
  rw [evalPart_some, evalPart_some, evalPart_none]
  refine thn (hl.run pins s1 σ H1 _ I1 q1) fun vl s2 ⟨xl, H2, I2, pl, q2⟩ => thn (hh.run pins s2 σ H2 _ I2 q2) fun vu s3 ⟨xh, H3, I3, pu, q3⟩ => wpAny_pure ?_
  obtain ⟨l, b, xs, ys, a, rfl, rfl, rfl, rfl, hx, hb, hne, ha, hz, q⟩ := q3
  cases r1
  cases r
  obtain ⟨ta, rfl⟩ := pl
  obtain ⟨tb, rfl⟩ := pu
  have I4 : Inv X pins σ H3 { s3 with heap := s3.heap.push { cls := .type "slice", data := .fields #[.int (a : Int) ta, .int ((a : Int) + 1) tb, .none] } } := I3.kept (t' := s3.toks) fun b ob q => Heap.get?_push_of_some _ q
  obtain ⟨_, its, n, rv, hl, e⟩ := I4.lstM hx
  obtain ⟨_, its2, n2, rv2, hl2, e2⟩ := I4.lstM hb
  refine wpAny_bind (wpAny_standAt (wpAny_bind (wpAny_holding ?_)))
  have IL := PySem.IsL.isList e
  refine wpAny_holding (wpAny_bind (wpAny_sequenceKey IL.typeIs (by decide) (wpAny_bind (wpAny_callSpecial?_slot (name := "__setitem__") IL.typeIs slot_list_setitem (call_meets slot_list_setitem IL.typeIs entry_list_setitem (args_list_setitem _ _ _)
    (meets_put l b _ its.toArray its2.toArray n n2 a ta tb (by rw [List.size_toArray]; omega) hne (by rw [List.size_toArray, List.size_toArray]; omega)) ⟨e, e2, Heap.IsSliceOf.new .., ?_⟩)))))
  refine wpAny_pure (wpAny_release ⟨σ, _, I4.lset (its' := its.take a ++ its2 ++ its.drop (a + 1)) (t' := _) hx e ?_ (Vals.append (Vals.append (rv.take _) rv2) (rv.drop _)) ?_, q⟩)
  · have := splice_eq its its2 a (min (a + 1) its.length)
    have dm : its.drop (min (a + 1) its.length) = its.drop (a + 1) := by
      rcases Nat.le_total (a + 1) its.length with c | c
      · rw [Nat.min_eq_left c]
      · rw [Nat.min_eq_right c, List.drop_eq_nil_of_le (Nat.le_refl _), List.drop_eq_nil_of_le c]
    rw [dm] at this
    rw [List.size_toArray] at this ⊢
    exact this
  · rw [List.length_append, List.length_append, List.length_take, List.length_drop]
    omega
end
end Ssb

/-! name = {k: v for ..}, the name a local. -/
namespace Ssb
open PySem PySem.Spec PyProof.Rows L2
abbrev Blk (X : Cx) (scope : Scope) (F : Cx → Prop) : Prop := ∀ (s : Shared) (H : Hp) (C : Addr) (cl : List (Str × Addr)) (fp : List Addr), F (X.blk s H scope (compEnvC scope cl C X.env) fp)
section
variable {X : Cx} {i : Nat} {y : Str} {py pos spos : Pos} {kx vx tg iter : Expr} {ifs : List Expr} {scope : Scope} {own : List (Str × Nat)} {wi : TI} {g : TG} {tt : TT} {tk tv : TE}
theorem ps_setDc (hc : X.calm = true) (hN : X.N.Nodup) (hy : X.N[i]? = some y) (hyl : X.env.scope.names.lookup y = some .local) (hsw : swapsWith (.DictComp kx vx [⟨tg, iter, ifs, 0⟩] scope pos) (some (.Name y py)) spos.line X.env = pure true)
    (hi : PI X tg iter wi) (ok : BlkOk X.N X.env.scope scope own) (hg : Blk X scope fun B => PG B tg g) (ht : Blk X scope fun B => PTs B ifs tt) (hk : Blk X scope fun B => PE B kx tk) (he : Blk X scope fun B => PE B vx tv)
    (hs : ∀ x, foldedSetIterable iter X.env x = pure x := by intro _; rfl) : PS X (.Assign [.Name y py] (.DictComp kx vx [⟨tg, iter, ifs, 0⟩] scope pos) spos) (tAsg (tDc wi g tt tk tv (own.map (·.2))) (gName i)) := by
  refine ⟨fun pins s σ H D I h => ?_⟩
  rw [exec_Assign_Name_used _ _ _ _ hsw]
  have h : tDc wi g tt tk tv (own.map (·.2)) σ H (fun x H1 => gName i x σ H1 D.nx) := h
  refine wpAny_bind (wpAny_standAt (wpAny_bind ?_))
  show wpAny _ X.A (do let _ ← comprehension (.DictComp kx vx [⟨tg, iter, ifs, 0⟩] scope pos) scope X.env (firstIterPos [⟨tg, iter, ifs, 0⟩] pos) newDict false (eval iter X.env) (some (assign (.Name y py) X.env))) _ _ s
  refine wpAny_bind (thn (dc_core (Qf := fun _ s' => SP X pins D .next s') hc hN I hi ok hg ht hk he hs h fun L C s' m H' I' q hn f => ?_) fun _ s' hq => wpAny_pure (wpAny_pure hq))
  show wpAny _ _ (assign (.Name y py) X.env (.ref L)) _ _ _
  refine wpAny_assign_Name (store_ok2 (v := V.ref L) I' hN hy (.inl hyl) rfl (fun s2 I2 ⟨a, sb, ha⟩ => ?_) (.inr hyl))
  obtain ⟨z0, z1, z3, z4, z5⟩ : _ ∧ _ ∧ _ ∧ _ ∧ _ := ⟨f.1, f.2.1, f.2.2.2.1, f.2.2.2.2.1, f.2.2.2.2.2⟩
  have ne : C ≠ a := by
    rcases ha with z | z
    · rw [z]; exact z1
    · exact fun e => z4 y a z e.symm
  exact ⟨m, hn.sameBut sb ne, fun h3 sb3 => ⟨_, H', I2.turned (t' := s2.toks) (fun b o hb e => (sb3.2 b hb).trans e) z0 z1 z3 z4 z5, q⟩⟩
theorem sw_trueD {gs : List Comprehension} {l : Nat} {env : Env} (hk : env.scope.kind = .function) (hy : env.scope.names.lookup y = some .local) (hl : (py.line == pos.line) = true) (ha : (scope.names.any fun (n, k) => n == y && (k == .local || k == .cell)) = false) :
    swapsWith (.DictComp kx vx gs scope pos) (some (.Name y py)) l env = pure true := by
  have e1 : env.kindOf y = some .local := hy
  have e2 : env.blockKind = .function := by
    unfold Env.blockKind
    rw [hk]; rfl
  unfold swapsWith
  simp only [e2, e1, ha, Expr.pos, hl]
  rfl
end
end Ssb

/-! x in a tuple of any data; a sign n times. -/
namespace Ssb
open PySem PySem.Spec PyProof.Rows L2
section
variable {X : Cx}
/-- x in (..), x not in (..): deep -/
def rInU (K : PySem.W.Frag) (neg : Bool) : R2 := fun x y H Q => ∃ d ds, Dp K H x d ∧ Dp K H y (.tuple ds) ∧ SeqAt.shaped d = true ∧ SeqAt.shaped (.tuple ds) = true ∧ Q (.bl (if neg then !ds.any (fun z => PyData.eqv z d) else ds.any fun z => PyData.eqv z d)) H
theorem op_inU (hu : X.A.units + 65 < cLine) : OpR X (compareOp .In) (rInU X.K false) := by
  rintro pins s σ H x y v u Q I rx ry ⟨d, ds, hd, he, sd, se, q⟩
  obtain ⟨bs, r2⟩ := Dp.reads I (.tuple ds) y u he ry
  obtain ⟨as, r1⟩ := Dp.reads I d x v hd rx
  exact SeqAt.in_tuple_reads r2 r1 (SeqAt.canLay_of_shaped se) (SeqAt.canLay_of_shaped sd) (room_in_shaped sd hu) ⟨.bl _, H, I, rfl, q⟩
theorem op_notInU (hu : X.A.units + 65 < cLine) : OpR X (compareOp .NotIn) (rInU X.K true) := by
  rintro pins s σ H x y v u Q I rx ry ⟨d, ds, hd, he, sd, se, q⟩
  obtain ⟨bs, r2⟩ := Dp.reads I (.tuple ds) y u he ry
  obtain ⟨as, r1⟩ := Dp.reads I d x v hd rx
  exact SeqAt.notIn_tuple_reads r2 r1 (SeqAt.canLay_of_shaped se) (SeqAt.canLay_of_shaped sd) (room_in_shaped sd hu) ⟨.bl _, H, I, rfl, q⟩
/-- "c" * n -/
def rMulS : R2 := fun x y H Q => ∃ (c : Nat) (n : Int), x = .str ⟨#[c]⟩ ∧ y = .int n ∧ 1 ≤ n ∧ n ≤ 1000 ∧ Q (.str ⟨(List.replicate n.toNat c).toArray⟩) H
theorem rep_sign (c : Nat) : ∀ (n : Nat) (acc : Array Nat), (List.replicate n #[c]).foldl (· ++ ·) acc = acc ++ (List.replicate n c).toArray
  | 0, acc => by simp
  | n + 1, acc => by
    rw [List.replicate_succ, List.foldl_cons, rep_sign c n, List.replicate_succ]
    apply Array.toList_inj.mp
    simp
theorem op_mulS : OpR X (binaryOp .Mult) rMulS := by
  rintro pins s σ H x y v u Q I rx ry ⟨c, n, rfl, rfl, n1, n2, q⟩
  obtain ⟨t, rfl⟩ := rx
  obtain ⟨t2, rfl⟩ := ry
  obtain ⟨k, rfl⟩ := Int.eq_ofNat_of_zero_le (show 0 ≤ n by omega)
  rw [Int.toNat_natCast] at q
  have l1 : (⟨#[c]⟩ : Str).length = 1 := rfl
  refine P.mul_str (by simp; omega) (fun _ _ => ?_) (fun _ _ => ?_) ?_
  · rw [l1]
    have : 1 ≤ ((2 : Int) ^ 63 - 1) / (k : Int) := (Int.le_ediv_iff_mul_le (by omega)).mpr (by omega)
    omega
  · rw [l1, Nat.one_mul, Int.toNat_natCast]
    unfold Builtin.Str.tooLong
    rw [sizeLine_eq]
    exact decide_eq_false (by omega)
  · rw [if_neg (by omega)]
    by_cases h1 : k = 1
    · subst h1
      rw [if_pos (by rfl)]
      exact ⟨.str _, H, I, ⟨t, rfl⟩, q⟩
    · rw [if_neg (by rw [l1]; simp; omega), Int.toNat_natCast, rep_sign, Array.empty_append]
      exact ⟨by show (List.replicate k c).toArray.size ≤ _; rw [List.size_toArray, List.length_replicate, sizeLine_eq]; omega, .str _, H, I.tok _, ⟨_, rfl⟩, q⟩
end
end Ssb

/-! tuples of the module: a constant that is a tuple of tuples of texts and ints -/
namespace Ssb
open PySem PySem.Spec PyProof.Rows L2
def lkTup (K : PySem.W.Frag) (a : Addr) (xs : List V) : Prop := ∃ (o : Obj) (its : Array Value) (n : Nat), K.lookup a = some o ∧ o.cls = .type "tuple" ∧ o.data = .seq its n ∧ its.size ≤ sizeLine ∧ Vals xs its.toList
theorem lkTup.sq {K : PySem.W.Frag} {a : Addr} {xs : List V} (h : lkTup K a xs) (H : Hp) : SqT K H a xs := .inr h
/-- the datum of the module at v -/
def RepK (K : PySem.W.Frag) : Nat → D → V → Prop
  | _ + 1, .int i, v => v = .int i
  | _ + 1, .str s, v => v = .str s
  | n + 1, .tup l, v => ∃ a xs, v = .ref a ∧ lkTup K a xs ∧ Paired (fun d x => RepK K n d x) l xs
  | _, _, _ => False
def TupK (K : PySem.W.Frag) (a : Addr) (l : List D) : Prop := ∃ xs, lkTup K a xs ∧ Paired (fun d x => RepK K 3 d x) l xs
theorem tup_mk {K : PySem.W.Frag} {a a1 a2 a3 : Addr} {s1 s2 s3 : Str} {i1 i2 i3 : Int} {k1 k2 k3 t1 t2 t3 : Tok} {d0 d1 d2 d3 : Option Addr} {n0 n1 n2 n3 : Nat} {l0 l1 l2 l3 : Array (Option Value)}
    (h0 : K.lookup a = some ⟨.type "tuple", d0, .seq #[.ref a1, .ref a2, .ref a3] n0, l0⟩)
    (h1 : K.lookup a1 = some ⟨.type "tuple", d1, .seq #[.str s1 k1, .int i1 t1] n1, l1⟩)
    (h2 : K.lookup a2 = some ⟨.type "tuple", d2, .seq #[.str s2 k2, .int i2 t2] n2, l2⟩)
    (h3 : K.lookup a3 = some ⟨.type "tuple", d3, .seq #[.str s3 k3, .int i3 t3] n3, l3⟩) : TupK K a [.tup [.str s1, .int i1], .tup [.str s2, .int i2], .tup [.str s3, .int i3]] :=
  have two : ∀ {b : Addr} {s : Str} {i : Int} {k t : Tok} {d : Option Addr} {n : Nat} {l : Array (Option Value)}, K.lookup b = some ⟨.type "tuple", d, .seq #[.str s k, .int i t] n, l⟩ → RepK K 3 (.tup [.str s, .int i]) (.ref b) := fun h =>
    ⟨_, [.str _, .int _], rfl, ⟨_, _, _, h, rfl, rfl, by show 2 ≤ sizeLine; decide, .cons ⟨_, rfl⟩ (.cons ⟨_, rfl⟩ .nil)⟩, .cons rfl (.cons rfl .nil)⟩
  ⟨[.ref a1, .ref a2, .ref a3], ⟨_, _, _, h0, rfl, rfl, by show 3 ≤ sizeLine; decide, .cons rfl (.cons rfl (.cons rfl .nil))⟩, .cons (two h1) (.cons (two h2) (.cons (two h3) .nil))⟩
end Ssb

/-! a text against a dict; (x, n) in a tuple of (text, int)s, x of any kind -/
namespace Ssb
open PySem PySem.Spec PyProof.Rows L2 PySem.SeqAt
open AutoSeq1 (wpAny_loadPart')
open MeetsSeq
theorem str_eq_declines_dict (b : Str) (u : Tok) (l : Addr) (c : Value) (es : Array DictEntry) (ep : Nat) (dd : Option Addr) (sl : Array (Option Value)) :
    Meets (Builtin.«str.__eq__» ⟨[.str b u, .ref l], []⟩) (fun _ R s => s.heap.get? l = some { cls := c, dict := dd, data := .dict es ep, slots := sl } ∧ R (.ok (.ret .notImplemented)) s) :=
  .of_wp fun prog w A R s h => by obtain ⟨hp, g, d, tk, os⟩ := s; obtain ⟨hl, h⟩ := h; wp_walk using wpAny_loadPart' hl, wpAny_load hl; exact ⟨_, rfl, h⟩
theorem dict_eq_declines_str (l : Addr) (es : Array DictEntry) (ep : Nat) (dd : Option Addr) (sl : Array (Option Value)) (b : Str) (u : Tok) :
    Meets (Builtin.«dict.__eq__» ⟨[.ref l, .str b u], []⟩) (fun _ R s => s.heap.get? l = some { cls := .type "dict", dict := dd, data := .dict es ep, slots := sl } ∧ R (.ok (.ret .notImplemented)) s) :=
  .of_wp fun prog w A R s h => by
    obtain ⟨hl, h⟩ := h
    unfold Builtin.«dict.__eq__»
    refine wpAny_bind ?_
    unfold Builtin.Dict.dictSlotArgs
    refine wpAny_bind (wpAny_notOrdered_dict ⟨_, hl, rfl⟩ ?_)
    show wpAny _ _ (pure (Value.ref l, Value.str b u)) _ _ s
    refine wpAny_pure ?_
    obtain ⟨hp, g, d, tk, os⟩ := s
    have f1 := F.sub_str_dict
    wp_walk using wpAny_loadPart' hl, wpAny_load hl
    exact ⟨_, rfl, h⟩
section
variable {A : Around} {s : Shared}
theorem RcAt.str_dict {l : Addr} {es : Array DictEntry} {ep : Nat} {dd : Option Addr} {sl : Array (Option Value)} (b : Str) (u : Tok) (ho : s.heap.get? l = some { cls := .type "dict", dict := dd, data := .dict es ep, slots := sl }) (hu : A.units < cLine) : RcAt A s (.str b u) (.ref l) false := fun prog w E Q h =>
  rc_eq_decline_or (k := false) (typeIs_str s b u) ⟨_, ho, rfl⟩ (by decide) F.sub_dict_str F.slot_str_eq F.slot_dict_eq_refl
    (fun _ hq => call_meets F.slot_str_eq (typeIs_str s b u) F.entry_str_eq (F.args_str_eq_2 _ _) (str_eq_declines_dict b u l (.type "dict") es ep dd sl) ⟨ho, hq⟩)
    (fun _ hq => call_meets F.slot_dict_eq_refl ⟨_, ho, rfl⟩ F.entry_dict_eq (F.args_dict_eq_2 _ _) (dict_eq_declines_str l es ep dd sl b u) ⟨ho, hq⟩)
    (fun _ hq => wpAny_of_eq (rfl : isSame (.str b u) (.ref l) = pure false) hq) (.inr hu) h
theorem EqAt.str_dict {l : Addr} {es : Array DictEntry} {ep : Nat} {dd : Option Addr} {sl : Array (Option Value)} (b : Str) (u : Tok) (ho : s.heap.get? l = some { cls := .type "dict", dict := dd, data := .dict es ep, slots := sl }) (hu : A.units < cLine) : EqAt A s (.str b u) (.ref l) false := fun prog w E Q h => by
  unfold eqBool
  refine wpAny_holding ?_
  refine wpAny_ite_split (fun hab => absurd (eq_of_beq hab) nofun) (fun _ => ?_)
  exact wpAny_bind (RcAt.str_dict b u ho hu prog w E _ (wpAny_truthy_bool h))
end
/-- of any kind: flat, or a list, a tuple, a dict -/
inductive Kd (H : Hp) : V → Prop
  | flat {x : V} : flatV x = true → Kd H x
  | lst {a : Addr} {xs : List V} : H a = some (.lst xs) → Kd H (.ref a)
  | tup {a : Addr} {xs : List V} : H a = some (.tup xs) → Kd H (.ref a)
  | dic {a : Addr} {es : List (Key × V)} : H a = some (.dK es) → Kd H (.ref a)
section
variable {X : Cx} {pins : List (Addr × Obj)} {σ : L2.St} {H : Hp} {sh : Shared}
theorem eqAt_str (I : Inv X pins σ H sh) {A : Around} {x : V} {v : Value} {s0 : Str} {t : Tok} (h : Kd H x) (rx : RelV x v) (hu : A.units < cLine) : SeqAt.EqAt A sh (.str s0 t) v (decide (x = .str s0)) := by
  cases h with
  | flat f =>
    have := eqAt_V (A := A) (s := sh) (y := .str s0) (u := .str s0 t) ⟨t, rfl⟩ rx rfl f
    have e : eqV (.str s0) x = decide (x = .str s0) := by
      cases x with
      | str z => show (s0 == z) = _; rw [Bool.eq_iff_iff, beq_iff_eq, decide_eq_true_eq]; exact ⟨fun e => by rw [e], fun e => by cases e; rfl⟩
      | non => rfl
      | bl b => rfl
      | int i => rfl
      | _ => cases f
    rw [← e]; exact this
  | lst ha =>
    cases rx
    obtain ⟨its, _, ⟨o, n, e, c, _, d⟩, _⟩ := I.list (.of ha)
    exact EqAt.str_list s0 t ⟨o, e, c, n, d⟩ hu
  | tup ha =>
    cases rx
    obtain ⟨its, _, p, _⟩ := I.tuple (.of ha)
    exact EqAt.str_tuple s0 t p hu
  | dic ha =>
    cases rx
    obtain ⟨_, ya, va, ra, da⟩ := (show ObjOk X.prog X.w H sh.heap _ (.dK _) from I.hok _ _ ha)
    obtain ⟨⟨cls, dd, data, sl⟩, es, ep, ho, hc, hdat, _⟩ := id da
    have hcls : cls = .type "dict" := hc.1
    simp only at hdat
    subst hcls hdat
    exact EqAt.str_dict s0 t ho hu
end
theorem lk_inj {K : PySem.W.Frag} {a : Addr} {xs ys : List V} (h : lkTup K a xs) (h2 : lkTup K a ys) : xs = ys := by
  obtain ⟨o, its, n, e, _, d, _, r⟩ := h
  obtain ⟨o', its', n', e', _, d', _, r'⟩ := h2
  rw [e] at e'; cases e'; rw [d] at d'; cases d'
  exact r.inj r'
theorem vals_refs : ∀ {cs : List Addr} {us : List Value}, Vals (cs.map V.ref) us → us = cs.map Value.ref
  | [], us, h => by cases h; rfl
  | c :: cs, us, h => by
    cases h with
    | cons a b => cases a; rw [vals_refs b]; rfl
theorem any_refs {e : Value → Bool} {g : Str × Int → Bool} {R : Str × Int → Addr → Prop} : ∀ {fs : List (Str × Int)} {cs : List Addr}, Paired R fs cs → (∀ p c, c ∈ cs → R p c → e (.ref c) = g p) → (cs.map Value.ref).any e = fs.any g
  | _, _, .nil, _ => rfl
  | _, _, .cons h t, k => by
    rw [List.map_cons, List.any_cons, List.any_cons, k _ _ List.mem_cons_self h, any_refs t fun p c hc r => k p c (List.mem_cons_of_mem _ hc) r]
/-- (x, n) in the module's tuple of (text, int)s -/
def rInF (K : PySem.W.Frag) : R2 := fun x y H Q => ∃ (a : Addr) (v0 : V) (n : Int) (c : Addr) (cs : List Addr) (fs : List (Str × Int)), x = .ref a ∧ H a = some (.tup [v0, .int n]) ∧ Kd H v0 ∧ y = .ref c ∧ lkTup K c (cs.map V.ref) ∧
  Paired (fun p a => lkTup K a [.str p.1, .int p.2]) fs cs ∧ Q (.bl (fs.any fun p => decide (v0 = .str p.1) && decide (p.2 = n))) H
theorem op_inF {X : Cx} (hu : X.A.units + 65 < cLine) : OpR X (compareOp .In) (rInF X.K) := by
  rintro pins s σ H x y v u Q I rx ry ⟨a, v0, n, c, cs, fs, rfl, ha, kd, rfl, hc, hfs, q⟩
  cases rx; cases ry
  obtain ⟨its, r1, p1, _⟩ := I.tuple (.of ha)
  obtain ⟨us, r2, p2, _⟩ := I.tuple (hc.sq H)
  have eus := vals_refs r2
  subst eus
  have hits : ∃ w0 t, its = [w0, .int n t] ∧ RelV v0 w0 := by
    cases r1 with
    | cons r0 r =>
      cases r with
      | cons r1 r => cases r; obtain ⟨t, rfl⟩ := r1; exact ⟨_, t, rfl, r0⟩
  obtain ⟨w0, t, rfl, r0⟩ := hits
  have key : ∀ (p : Str × Int) (b : Addr), lkTup X.K b [.str p.1, .int p.2] → SeqAt.EqAt X.A.in1 s (.ref b) (.ref a) (decide (v0 = .str p.1) && decide (p.2 = n)) := fun p b hb => by
    by_cases e : b = a
    · subst e
      have := I.tuple_inj (hb.sq H) (.of ha)
      simp only [List.cons.injEq, V.int.injEq, and_true] at this
      rw [← this.1, this.2, decide_eq_true rfl, decide_eq_true rfl]
      exact SeqAt.EqAt.same _
    · obtain ⟨ws, r3, p3, _⟩ := I.tuple (hb.sq H)
      have hws : ∃ t1 t2, ws = [.str p.1 t1, .int p.2 t2] := by
        cases r3 with
        | cons r0 r =>
          cases r with
          | cons r1 r => cases r; obtain ⟨t1, rfl⟩ := r0; obtain ⟨t2, rfl⟩ := r1; exact ⟨t1, t2, rfl⟩
      obtain ⟨t1, t2, rfl⟩ := hws
      have := SeqAt.RcAt.tuples (A := X.A.in1) (e := fun j => if j = 0 then decide (v0 = .str p.1) else decide (p.2 = n)) p3 p1 (by show X.A.units + 1 < cLine; omega) fun j h1 h2 => by
        have h1 : j < 2 := h1
        match j, h1 with
        | 0, _ => exact eqAt_str I kd r0 (by show X.A.units + 1 + 1 < cLine; omega)
        | 1, _ =>
          have := SeqAt.EqAt.int_int (A := X.A.in1.in1) (s := s) p.2 t2 n t
          rw [show (p.2 == n) = decide (p.2 = n) by rw [Bool.eq_iff_iff, beq_iff_eq, decide_eq_true_eq]] at this
          exact this
      have h2 := SeqAt.EqAt.of_refs e this
      have e2 : ((List.range (min #[Value.str p.1 t1, Value.int p.2 t2].size #[w0, Value.int n t].size)).all (fun j => if j = 0 then decide (v0 = .str p.1) else decide (p.2 = n)) && #[Value.str p.1 t1, Value.int p.2 t2].size == #[w0, Value.int n t].size) = (decide (v0 = .str p.1) && decide (p.2 = n)) := by
        show ((List.range 2).all _ && true) = _
        simp [List.range_succ]
      rw [e2] at h2
      exact h2
  classical
  let e : Value → Bool := fun z => decide (∃ (p : Str × Int) (b : Addr), z = Value.ref b ∧ lkTup X.K b [.str p.1, .int p.2] ∧ (decide (v0 = .str p.1) && decide (p.2 = n)) = true)
  have he : ∀ (p : Str × Int) (b : Addr), lkTup X.K b [.str p.1, .int p.2] → e (.ref b) = (decide (v0 = .str p.1) && decide (p.2 = n)) := fun p b hb => by
    show decide _ = _
    rw [Bool.eq_iff_iff, decide_eq_true_eq]
    refine ⟨fun ⟨p2, b2, eb, h2, h3⟩ => ?_, fun h => ⟨p, b, rfl, hb, h⟩⟩
    cases eb
    have := lk_inj hb h2
    simp only [List.cons.injEq, V.str.injEq, V.int.injEq, and_true] at this
    rw [this.1, this.2]; exact h3
  refine SeqAt.in_tupleAt (e := e) p2 (fun z hz => ?_) ?_
  · have hz : z ∈ cs.map Value.ref := by simpa using hz
    obtain ⟨b, hb, rfl⟩ := List.mem_map.mp hz
    obtain ⟨i, hi⟩ := List.mem_iff_getElem?.mp hb
    obtain ⟨p, _, hp⟩ := pair_back hfs hi
    rw [he p b hp]
    exact key p b hp
  · have := any_refs (e := e) (g := fun p => decide (v0 = .str p.1) && decide (p.2 = n)) hfs fun p b _ hp => he p b hp
    rw [List.any_toArray, this]
    exact ⟨.bl _, H, I, rfl, q⟩
/-- the forms of a constant -/
theorem TupK.forms {K : PySem.W.Frag} {c : Addr} {fs : List (Str × Int)} (h : TupK K c (fs.map fun p => .tup [.str p.1, .int p.2])) : ∃ cs : List Addr, lkTup K c (cs.map V.ref) ∧ Paired (fun p a => lkTup K a [.str p.1, .int p.2]) fs cs := by
  obtain ⟨xs, hx, pr⟩ := h
  have : ∀ {fs : List (Str × Int)} {xs : List V}, Paired (fun d x => RepK K 3 d x) (fs.map fun p => D.tup [.str p.1, .int p.2]) xs → ∃ cs : List Addr, xs = cs.map V.ref ∧ Paired (fun p a => lkTup K a [.str p.1, .int p.2]) fs cs := by
    intro fs
    induction fs with
    | nil => intro xs h; cases h; exact ⟨[], rfl, .nil⟩
    | cons p fs ih =>
      intro xs h
      cases h with
      | cons h t =>
        obtain ⟨cs, rfl, pc⟩ := ih t
        obtain ⟨a, ys, rfl, ha, py⟩ := h
        refine ⟨a :: cs, rfl, .cons ?_ pc⟩
        cases py with
        | cons h1 t1 =>
          cases t1 with
          | cons h2 t2 =>
            cases t2
            have h1 : _ = V.str p.1 := h1
            have h2 : _ = V.int p.2 := h2
            subst h1 h2
            exact ha
  obtain ⟨cs, rfl, pc⟩ := this pr
  exact ⟨cs, hx, pc⟩
end Ssb

namespace Ssb
open PySem PySem.Spec PyProof.Rows L2
/-- x not in (a, b), a and b texts, x of any kind -/
def rNotIn2 : R2 := fun x y H Q => ∃ (b : Addr) (s1 s2 : Str), y = .ref b ∧ H b = some (.tup [.str s1, .str s2]) ∧ Kd H x ∧ Q (.bl (!(decide (x = .str s1) || decide (x = .str s2)))) H
theorem op_notIn2 {X : Cx} (hu : X.A.units + 20 < cLine) : OpR X (compareOp .NotIn) rNotIn2 := by
  intro pins s σ H x y v u Q I rx ry ⟨b, s1, s2, ey, hb, kd, q⟩
  cases ey
  obtain rfl : u = Value.ref b := ry
  obtain ⟨its, r1, p1, _⟩ := I.tuple (.of hb)
  obtain ⟨t1, t2, rfl⟩ : ∃ t1 t2, its = [Value.str s1 t1, Value.str s2 t2] := by
    cases r1 with
    | cons r0 r =>
      cases r with
      | cons r1 r => cases r; obtain ⟨t1, rfl⟩ := r0; obtain ⟨t2, rfl⟩ := r1; exact ⟨t1, t2, rfl⟩
  refine SeqAt.notIn_tupleAt (fun z => match z with
    | .str a _ => decide (x = .str a)
    | _ => false) p1 (fun z hz => ?_) ⟨.bl (!(decide (x = .str s1) || decide (x = .str s2))), H, I, ?_, q⟩
  · have hz : z = Value.str s1 t1 ∨ z = Value.str s2 t2 := by simpa using hz
    rcases hz with rfl | rfl
    · exact eqAt_str I kd rx (by show X.A.units + 1 < cLine; omega)
    · exact eqAt_str I kd rx (by show X.A.units + 1 < cLine; omega)
  · show Value.bool _ = Value.bool _
    congr 1
    simp
end Ssb

/-! {k: v for ..} with keys that are None or tuples. -/
namespace Ssb
open PySem PySem.Spec PyProof.Rows L2
/-- what one turn does: the pair goes into the dict at D, then on with M -/
def NTurn (w : World) (vs : List Nat) (g : TG) (tt : TT) (tk tv : TE) (D : Addr) (σ : L2.St) (x : V) (H : Hp) (M : Hp → Prop) : Prop := g x (wipe σ vs) H fun ρ G => wipe ρ vs = wipe σ vs ∧ tt ρ G fun yes G1 =>
  if yes = true then tk ρ G1 fun y G2 => tv ρ G2 fun z G3 => ∃ xs d, G3 D = some (DkO w D xs) ∧ Keys G3 xs ∧ KeyV G3 d y ∧ xs.length < sizeLine ∧ M (upd G3 D (DkO w D (putX xs d y z))) else M G1
def tDn (w : World) (wi : TI) (g : TG) (tt : TT) (tk tv : TE) (vs : List Nat) : TE := fun σ H Q => wi σ H fun J G => ∀ D, G D = none → ∃ W : Nat → Nat → Hp → Prop, (∃ m, W 0 m (upd G D (DkO w D []))) ∧
  ∀ i m G1, W i m G1 → (J.stop i G1 ∧ Q (.ref D) G1) ∨ (J.go i G1 ∧ ∃ M : Hp → Prop, (∀ G2, M G2 → ∃ j, j < m ∧ W (i + 1) j G2) ∧ ∀ x G2, J.yld i G1 x G2 → NTurn w vs g tt tk tv D σ x G2 M)
section
variable {X : Cx} {pins : List (Addr × Obj)} {σ : L2.St} {H : Hp} {s : Shared}
theorem n_compSet {A : Around} {E : Value → Shared → Prop} {a : Addr} {xs : List XEnt} {d : D} {y v : V} {u r : Value} {Q : Unit → Shared → Prop} (hu : A.units + 10 < cLine) (I : L2.Inv X pins σ H s) (e : H a = some (DkO X.w a xs)) (hk : Keys H xs) (ky : KeyV H d y) (hl : xs.length < sizeLine) (ry : RelV y u) (rv : RelV v r)
    (h : ∀ s', L2.Inv X pins σ (upd H a (DkO X.w a (putX xs d y v))) s' → Q () s') : wpAny (model X.prog X.w) A (dictSet a u r) Q E s := by
  obtain ⟨h1, h2, ys, nd, pr, hn, his⟩ := dn_of I.hok hk (.inl e)
  have hz : ys.length ≤ sizeLine := by rw [← Paired.length pr]; exact h1
  refine n_set (by omega) (key_n I.hok ky ry) nd his hn hz fun h' nd' sb => h _ ?_
  have he : ∃ q, h'.get? a = some q := let ⟨q, _, _, hq, _⟩ := nd'; ⟨q, hq⟩
  refine d_write I (by rw [e]; exact True.intro) sb he (dn_new ?_ h2 nd' (rel_put pr ry rv) ?_)
  · have := putX_len (xs := xs) (d := d) (a := y) (v := v); omega
  · rw [putX_xk]
    refine putN_nd ?_
    rw [xk_keys pr]; exact hn
variable {kx vx tg iter : Expr} {ifs : List Expr} {scope : Scope} {own : List (Str × Nat)} {pos pos' : Pos} {wi : TI} {g : TG} {tt : TT} {tk tv : TE}
theorem dn_core {Q : VK} {use : Option (Value → Sem Unit)} {Qf : Value → Shared → Prop} (hu : X.A.units + 20 < cLine) (hc : X.calm = true) (hN : X.N.Nodup) (I : L2.Inv X pins σ H s) (hi : PI X tg iter wi) (ok : BlkOk X.N X.env.scope scope own)
    (hg : Blk X scope fun B => PG B tg g) (ht : Blk X scope fun B => PTs B ifs tt) (hk : Blk X scope fun B => PE B kx tk) (he : Blk X scope fun B => PE B vx tv) (hs : ∀ x, foldedSetIterable iter X.env x = pure x) (h : tDn X.w wi g tt tk tv (own.map (·.2)) σ H Q)
    (out : ∀ D C s' m H', L2.Inv X pins σ H' s' → Q (.ref D) H' → s'.heap.Ns C m → FpOk X pins H' C → compPost (model X.prog X.w) X.A X.xe use Qf (.ref D) C (.ok .next) s') :
    wpAny (model X.prog X.w) X.A (comprehension (.DictComp kx vx [⟨tg, iter, ifs, 0⟩] scope pos) scope X.env pos' newDict false (eval iter X.env) use) Qf X.xe s := by
  have free : ∀ y ∈ scope.names, y.2 = .free → ∃ c, X.env.cells.lookup y.1 = some c := fun y hy e => (ok.free y hy e).elim (fun k => I.ok.has _ (.inl k)) fun k => I.ok.has _ (.inr k)
  refine wpAny_comprehension_free (use := use) rfl hs (closure_ok free) ok.kind (fun y hy e => by rw [ok.uniq y hy, e]) (thn (hi.run pins s σ H _ I h) fun _ s1 hx => thn hx fun _ s2 ⟨it, fp, tn, J, G, e, I2, T, st2, f2, q⟩ => ?_)
  subst e
  refine wpAny_newObj_type (newEnv_comp ?_)
  generalize hD : s2.heap.objs.size = D
  obtain ⟨W, ⟨m0, w0⟩, turn⟩ := q D (I2.hok.fresh (Nat.le_of_eq hD))
  generalize hs3 : ({ s2 with heap := s2.heap.push { cls := .type "dict", data := .dict #[] } } : Shared) = s3
  have h3 : s3.heap = s2.heap.push { cls := .type "dict", data := .dict #[] } := by rw [← hs3]
  have I3 : L2.Inv X pins σ (upd G D (DkO X.w D [])) s3 := by
    subst hs3 hD
    exact I2.laid (a := s2.heap.objs.size) (o := DkO X.w s2.heap.objs.size []) (t' := s2.toks) (fun _ _ q => Heap.get?_push_of_some _ q) (Nat.le_refl _) (dn_new (Nat.zero_le _) (beq_eq_false_iff_ne.mpr (Ne.symm (Nat.ne_of_lt I2.big))) (ys := []) ⟨_, #[], 0, Heap.get?_push_size _ rfl, ⟨rfl, rfl, rfl⟩, rfl, rfl⟩ .nil List.nodup_nil)
  have f3 : ∀ b ∈ fp, FpOk X pins (upd G D (DkO X.w D [])) b ∧ b < s3.heap.objs.size := fun b hb => by
    obtain ⟨o, eo, _⟩ := T.obj _ _ st2 b hb
    have lt := Heap.lt_size eo
    refine ⟨⟨?_, (f2 b hb).2⟩, by rw [h3, Heap.size_push]; exact Nat.lt_succ_of_lt lt⟩
    rw [upd_ne (by rw [← hD]; exact Nat.ne_of_lt lt)]
    exact (f2 b hb).1
  have I4 := block_start I3 ok hN f3
  have st3 : tn 0 s3.heap := T.keep _ _ _ st2 fun b _ o e => by rw [h3]; exact Heap.get?_push_of_some _ e
  have pg := hg s3 (upd G D (DkO X.w D [])) s3.heap.objs.size (cellsFrom (s3.heap.objs.size + 1) scope.names (cloFrom X.env.cells scope.names [])) fp
  have pt := ht s3 (upd G D (DkO X.w D [])) s3.heap.objs.size (cellsFrom (s3.heap.objs.size + 1) scope.names (cloFrom X.env.cells scope.names [])) fp
  have pk := hk s3 (upd G D (DkO X.w D [])) s3.heap.objs.size (cellsFrom (s3.heap.objs.size + 1) scope.names (cloFrom X.env.cells scope.names [])) fp
  have pe := he s3 (upd G D (DkO X.w D [])) s3.heap.objs.size (cellsFrom (s3.heap.objs.size + 1) scope.names (cloFrom X.env.cells scope.names [])) fp
  show codeAny _ _ (.compStart (.DictComp kx vx [⟨tg, iter, ifs, 0⟩] scope pos) 0 (.ref it) (.ref D) (compEnvC scope (cellsFrom (s3.heap.objs.size + 1) scope.names (cloFrom X.env.cells scope.names [])) s3.heap.objs.size X.env)) (compPost (model X.prog X.w) X.A X.xe use Qf (.ref D) s3.heap.objs.size) { s3 with heap := pushCells (s3.heap.push { cls := .type "dict", data := .dict #[] }) scope.names }
  have nfp : ∀ b ∈ fp, (upd G D (DkO X.w D [])) b = none := fun b hb => (f3 b hb).1.1
  generalize hce : compEnvC scope (cellsFrom (s3.heap.objs.size + 1) scope.names (cloFrom X.env.cells scope.names [])) s3.heap.objs.size X.env = ce at I4 pg pt pk pe ⊢
  have cL : ce.locals = s3.heap.objs.size := by subst hce; rfl
  generalize hG3 : upd G D (DkO X.w D []) = G3 at I3 I4 pg pt pk pe w0 nfp f3
  generalize hs4 : ({ s3 with heap := pushCells (s3.heap.push { cls := .type "dict", data := .dict #[] }) scope.names } : Shared) = s4 at I4 ⊢
  have st4 : tn 0 s4.heap := T.keep _ _ _ st3 fun b _ o e => by rw [← hs4]; exact pushCells_keeps _ _ _ _ (Heap.get?_push_of_some _ e)
  have stat : ∀ {ρ : L2.St} {G' : Hp} {s' : Shared}, L2.Inv (X.blk s3 G3 scope ce fp) [] ρ G' s' → (∀ b ∈ fp, G' b = none) → ∀ b ∈ fp, FpOk (X.blk s3 G3 scope ce fp) [] G' b := fun J' hn b hb =>
    ⟨hn b hb, (J'.ok.exf b hb).1, J'.ok.exfs b hb, .inl hb, fun x c e => (J'.ok.exf b hb).2 x c e, fun p hp => absurd (show p ∈ ([] : List (Addr × Obj)) ++ [] from hp) (by simp)⟩
  have loop : codeAny (model X.prog X.w) X.A (.compLoop (.DictComp kx vx [⟨tg, iter, ifs, 0⟩] scope pos) 0 (.ref it) (.ref D) ce) (compPost (model X.prog X.w) X.A X.xe use Qf (.ref D) s3.heap.objs.size) s4 := by
    refine compLoop_anyD (fun n s' => ∃ i G', L2.Inv (X.blk s3 G3 scope ce fp) [] (wipe σ (own.map (·.2))) G' s' ∧ tn i s'.heap ∧ (∀ b ∈ fp, G' b = none) ∧ W i n G') ?_ m0 ⟨0, G3, I4, st4, nfp, w0⟩
    rintro n s5 ⟨i, G5, I5, st5, n5, w5⟩
    rcases turn i n G5 w5 with ⟨stop, done⟩ | ⟨go, M, hM, step⟩
    · refine thnF (T.done (X.blk s3 G3 scope ce fp) rfl rfl rfl hc i [] s5 _ G5 (fun _ _ => False) I5 (stat I5 n5) st5 stop) fun r s6 ⟨hr, I6⟩ => ?_
      subst hr
      have I7 : L2.Inv X pins σ G5 s6 := I3.call' (ch := fp) I6.os I6.base I6.hok I6.bare fun b hb => ⟨(f3 b hb).1.2.2.2.1, (f3 b hb).1.2.1, (f3 b hb).1.2.2.2.2.1, (f3 b hb).1.2.2.2.2.2⟩
      have fr : G5 ce.locals = none := I6.free
      obtain ⟨m, ns, _⟩ := I6.loc
      have ns : s6.heap.Ns ce.locals m := ns
      rw [cL] at ns fr
      exact out D s3.heap.objs.size s6 m G5 I7 done ns (I3.fpOk (Nat.le_refl _) fr)
    · refine thnF (T.item (X.blk s3 G3 scope ce fp) rfl rfl rfl hc i [] s5 _ G5 (fun _ _ => False) I5 (stat I5 n5) st5 go) fun r s6 ⟨u, hr, h6⟩ => ?_
      subst hr
      refine thnF h6 fun _ s7 ⟨x, G7, I7, r7, y7, st7, n7⟩ => ?_
      refine thnF (pg.run _ s7 _ G7 x u _ (I7.pinned (stat I7 n7) (T.obj _ _ st7)) r7 (step x G7 y7)) fun _ s8 ⟨σ8, G8, I8, hw8, q8⟩ => thnF (pt.run _ s8 σ8 G8 _ I8 q8) fun b s9 ⟨G9, I9, q9⟩ => ?_
      have fin : ∀ {s' : Shared} {G' : Hp}, L2.Inv (X.blk s3 G3 scope ce fp) ([] ++ pinsAt fp s7.heap) σ8 G' s' → M G' → ∃ m, m < n ∧ ∃ i G', L2.Inv (X.blk s3 G3 scope ce fp) [] (wipe σ (own.map (·.2))) G' s' ∧ tn i s'.heap ∧ (∀ b ∈ fp, G' b = none) ∧ W i m G' := fun {s' G'} I' nx => by
        obtain ⟨m', hm, w'⟩ := hM G' nx
        have pin : ∀ b ∈ fp, ∀ o, s7.heap.get? b = some o → s'.heap.get? b = some o ∧ G' b = none := fun b hb o e => ⟨(I'.pin (b, o) (List.mem_append_right _ (List.mem_append_right _ (mem_pinsAt hb e)))).1, (I'.pin (b, o) (List.mem_append_right _ (List.mem_append_right _ (mem_pinsAt hb e)))).2.1⟩
        refine ⟨m', hm, i + 1, G', (I'.unpinned (pins := [])).weak (by rw [← hw8, wipe_length]) (fun j v e => (wipe_some (by rw [← hw8] at e; exact e)).1), T.keep _ _ _ st7 fun b hb o e => (pin b hb o e).1, fun b hb => ?_, w'⟩
        obtain ⟨o, e, _⟩ := T.obj _ _ st7 b hb
        exact (pin b hb o e).2
      cases b with
      | false =>
        simp only [Bool.false_eq_true, if_false] at q9 ⊢
        exact fin I9 q9
      | true =>
        simp only [if_true] at q9 ⊢
        refine thnF (pk.run _ s9 σ8 G9 _ I9 q9) fun z s10 ⟨yk, G10, I10, r10, q10⟩ => thnF (pe.run _ s10 σ8 G10 _ I10 q10) fun z2 s11 ⟨yv, G11, I11, r11, xs, d, hD11, hks, hky, hz, nx⟩ => ?_
        exact n_compSet (X := X.blk s3 G3 scope ce fp) (by show X.A.units + 10 < cLine; omega) I11 hD11 hks hky hz r10 r11 fun s12 I12 => fin I12 nx
  exact codeAny_compStart_dict loop (T.self X.A 0 _ _ _ st4 loop)
/-- name = {k: v for ..} -/
theorem ps_setDn {i : Nat} {y : Str} {py spos : Pos} (hu : X.A.units + 20 < cLine) (hc : X.calm = true) (hN : X.N.Nodup) (hy : X.N[i]? = some y) (hyl : X.env.scope.names.lookup y = some .local) (hsw : swapsWith (.DictComp kx vx [⟨tg, iter, ifs, 0⟩] scope pos) (some (.Name y py)) spos.line X.env = pure true)
    (hi : PI X tg iter wi) (ok : BlkOk X.N X.env.scope scope own) (hg : Blk X scope fun B => PG B tg g) (ht : Blk X scope fun B => PTs B ifs tt) (hk : Blk X scope fun B => PE B kx tk) (he : Blk X scope fun B => PE B vx tv)
    (hs : ∀ x, foldedSetIterable iter X.env x = pure x := by intro _; rfl) : PS X (.Assign [.Name y py] (.DictComp kx vx [⟨tg, iter, ifs, 0⟩] scope pos) spos) (tAsg (tDn X.w wi g tt tk tv (own.map (·.2))) (gName i)) := by
  refine ⟨fun pins s σ H D I h => ?_⟩
  rw [exec_Assign_Name_used _ _ _ _ hsw]
  have h : tDn X.w wi g tt tk tv (own.map (·.2)) σ H (fun x H1 => gName i x σ H1 D.nx) := h
  refine wpAny_bind (wpAny_standAt (wpAny_bind ?_))
  show wpAny _ X.A (do let _ ← comprehension (.DictComp kx vx [⟨tg, iter, ifs, 0⟩] scope pos) scope X.env (firstIterPos [⟨tg, iter, ifs, 0⟩] pos) newDict false (eval iter X.env) (some (assign (.Name y py) X.env))) _ _ s
  refine wpAny_bind (thn (dn_core (Qf := fun _ s' => SP X pins D .next s') hu hc hN I hi ok hg ht hk he hs h fun L C s' m H' I' q hn f => ?_) fun _ s' hq => wpAny_pure (wpAny_pure hq))
  show wpAny _ _ (assign (.Name y py) X.env (.ref L)) _ _ _
  refine wpAny_assign_Name (store_ok2 (v := V.ref L) I' hN hy (.inl hyl) rfl (fun s2 I2 ⟨a, sb, ha⟩ => ?_) (.inr hyl))
  obtain ⟨z0, z1, z3, z4, z5⟩ : _ ∧ _ ∧ _ ∧ _ ∧ _ := ⟨f.1, f.2.1, f.2.2.2.1, f.2.2.2.2.1, f.2.2.2.2.2⟩
  have ne : C ≠ a := by
    rcases ha with z | z
    · rw [z]; exact z1
    · exact fun e => z4 y a z e.symm
  exact ⟨m, hn.sameBut sb ne, fun h3 sb3 => ⟨_, H', I2.turned (t' := s2.toks) (fun b o hb e => (sb3.2 b hb).trans e) z0 z1 z3 z4 z5, q⟩⟩
end
end Ssb

/-! for k in d, keys of d None or tuples, d locked while the loop runs. -/
namespace Ssb
open PySem PySem.Spec PyProof.Rows L2
/-- the keys of such a locked dict, in their order -/
def Itn (w : World) (d : Addr) (o : Obj) (xs : List XEnt) : It :=
  ⟨fun c G => G d = some (.frz o (DkO w d xs)) ∧ c < xs.length, fun c G x G' => G' = G ∧ ∃ e : XEnt, xs[c]? = some e ∧ x = e.2.1, fun c G => G d = some (.frz o (DkO w d xs)) ∧ xs.length ≤ c⟩
section
variable {X : Cx} {pins : List (Addr × Obj)} {σ : L2.St} {H : Hp} {s : Shared} {d : Addr} {o : Obj} {xs : List XEnt}
theorem frz_n (I : L2.Inv X pins σ H s) (h : H d = some (.frz o (DkO X.w d xs))) : (d == sysModules) = false ∧ s.heap.get? d = some o ∧ o.ExactDict ∧ ∃ (es : Array DictEntry) (ep : Nat), o.data = .dict es ep ∧ es.size = xs.length ∧ ∀ (c : Nat) (e : XEnt), xs[c]? = some e → ∃ en : DictEntry, es[c]? = some en ∧ RelV e.2.1 en.key := by
  obtain ⟨hd, ⟨_, hs, ys, ⟨o', es, ep, ho, hx, hdt, hes⟩, pr, _⟩, _⟩ := I.hok d _ h
  rw [hd] at ho
  cases ho
  have len := Paired.length pr
  have size : es.size = ys.length := by rw [← Array.length_toList, hes, List.length_map]
  refine ⟨hs, hd, hx, es, ep, hdt, by omega, fun c e he => ?_⟩
  obtain ⟨y, hy, _, r, _⟩ := paired_get pr he
  refine ⟨nEnt X.w y, ?_, r⟩
  rw [← Array.getElem?_toList, hes, List.getElem?_map, hy]; rfl
end
section
variable {P : Program} {w : World} {K : PySem.W.Frag} {tg : Expr} {d : Addr} {o : Obj} {es : Array DictEntry} {ep : Nat} {xs : List XEnt}
theorem turn_n (it : Addr) (hod : o.data = .dict es ep) : Turn P w K tg (Itn w d o xs) [it] it (fun c h => h.IsKeyIter it d c xs.length ep) where
  mem := by simp
  obj := fun c h st b hb => by
    obtain rfl : b = it := List.mem_singleton.mp hb
    obtain ⟨oi, e, _, dd⟩ := st
    exact ⟨oi, e, fun v z => by rw [dd] at z; cases z⟩
  keep := fun c h h' st k => st.at fun oi e => k it List.mem_cons_self oi e
  item := by
    rintro X rfl rfl rfl hc c pins s σ H E I hf st ⟨hd, hi⟩
    obtain ⟨f0, f1, f2, f3, f4, f5⟩ := hf it List.mem_cons_self
    obtain ⟨hs, hgd, hx, es', ep', hdt, hsz, ent⟩ := frz_n I hd
    obtain ⟨rfl, rfl⟩ := dict_ep hod hdt
    have he := List.getElem?_eq_getElem hi
    obtain ⟨en, hen, r⟩ := ent c _ he
    refine next_key_item st hgd hdt hsz hen fun h' st' sb => ?_
    have I1 : L2.Inv X pins σ H { s with heap := h' } := I.turned (t' := s.toks) (fun b ob hb e => (sb.2 b hb).trans e) f0 f1 f3 f4 f5
    obtain ⟨oi, e, cl, dd⟩ := id st'
    exact ⟨en.key, rfl, go_of (s := { s with heap := h' }) e cl dd (by decide) ⟨_, H, I1, r, ⟨rfl, _, he, rfl⟩, st', fun b hb => (hf b hb).1⟩⟩
  done := by
    rintro X rfl rfl rfl hc c pins s σ H E I hf st ⟨hd, hi⟩
    obtain ⟨f0, f1, f2, f3, f4, f5⟩ := hf it List.mem_cons_self
    obtain ⟨hs, hgd, hx, es', ep', hdt, hsz, ent⟩ := frz_n I hd
    obtain ⟨rfl, rfl⟩ := dict_ep hod hdt
    exact next_key_end (I.ok.hd hc) st hgd hdt hsz hi fun h' eb => ⟨rfl, I.turned (t' := s.toks) (fun b ob hb e => eb b ob hb e) f0 f1 f3 f4 f5⟩
  self := fun A c s Q E st h => by
    refine wpAny_pyIter_slot st.typeIs F.slot_dict_keyiterator_iter (wpAny_call_entry F.slot_dict_keyiterator_iter st.typeIs F.entry_dict_keyiterator_iter ?_ (F.args_dict_keyiterator_iter_1 _))
    show wpAny _ _ (ret (.ref it)) _ _ s
    exact wpAny_pure ⟨_, rfl, "dict_keyiterator", _, st.typeIs, F.slot_dict_keyiterator_next.lookup, h⟩
end
def iNKeys (w : World) (td : TE) : TI := fun σ H R => td σ H fun x G => ∃ d o xs, x = .ref d ∧ G d = some (.frz o (DkO w d xs)) ∧ R (Itn w d o xs) G
theorem pi_nkeys {X : Cx} {tg e : Expr} {td : TE} (he : PE X e td) : PI X tg e (iNKeys X.w td) := by
  refine ⟨fun pins s σ H R I h => thn (he.run pins s σ H _ I h) fun u s1 ⟨x, G, I1, rx, d, o, xs, ex, hd, q⟩ => ?_⟩
  subst ex
  obtain rfl : u = Value.ref d := rx
  obtain ⟨hs, hgd, hx, es, ep, hdt, hsz, _⟩ := frz_n I1 hd
  refine iter_keys hs hgd hx hdt (pi_one (tk := s1.toks) I1 _ (turn_n _ hdt) ⟨_, Heap.get?_push_size _ rfl, rfl, ?_⟩ q)
  rw [hsz] <;> rfl
theorem walk_n {w : World} {d : Addr} {o : Obj} {xs : List XEnt} : Walk (Itn w d o xs) xs.length (fun G => G d = some (.frz o (DkO w d xs))) (fun c G x G' => G' = G ∧ ∃ e : XEnt, xs[c]? = some e ∧ x = e.2.1) :=
  ⟨fun _ _ hi q => ⟨q, hi⟩, fun _ q => ⟨q, Nat.le_refl _⟩, fun _ _ _ _ _ _ y => y⟩
/-- for k in d: .., d locked -/
theorem for_lockN {w : World} {d : Addr} {xs : List XEnt} {D : Ends} {ts : TS} {g : TG} {td : TE} {σ : L2.St} {H : Hp} (hd : H d = some (DkO w d xs)) (hv : ∀ od, Evl.Ev td σ (upd H d (.frz od (DkO w d xs))) (.ref d)) (Pv : Obj → Nat → L2.St → Hp → Prop) (h0 : ∀ od G, Evl.Ex (upd H d (.frz od (DkO w d xs))) G → Pv od 0 σ G)
    (hG : ∀ od c σ' G, c ≤ xs.length → Pv od c σ' G → G d = some (.frz od (DkO w d xs))) (hs : ∀ od c (e : XEnt) σ' G, xs[c]? = some e → Pv od c σ' G → g e.2.1 σ' G fun σ2 G2 => ts (shut D d (DkO w d xs) od (Pv od (c + 1))) σ2 G2) (hn : ∀ od σ' G, Pv od xs.length σ' G → D.nx σ' (upd G d (DkO w d xs))) :
    tLock (tFor (iNKeys w td) g ts) D σ H := by
  refine ⟨d, DkO w d xs, hd, trivial, fun od => hv od _ (Evl.Ex.refl _) _ fun G e => ⟨d, od, xs, rfl, e _ _ upd_same, ?_⟩⟩
  exact for_it walk_n (Pv od) (h0 od G e) (fun c σ' G' hc p => hG od c σ' G' hc p) (fun c x σ' G' G2 hc p y => by
    obtain ⟨rfl, en, hen, rfl⟩ := y
    exact hs od c en σ' _ hen p) fun σ' G' p => ⟨hG od _ σ' G' (Nat.le_refl _) p, hn od σ' G' p⟩
end Ssb

/-! dict(xs), xs a list of pairs whose keys are None or tuples. -/
namespace Ssb
open PySem PySem.Spec PyProof.Rows L2
def putAll (es : List XEnt) : List XEnt := es.foldl (fun acc e => putX acc e.1 e.2.1 e.2.2) []
def foldN (ys : List NEnt) : List NEnt := ys.foldl (fun acc y => putN acc y.1 y.2.1 y.2.2) []
theorem foldN_snoc {ys : List NEnt} {y : NEnt} : foldN (ys ++ [y]) = putN (foldN ys) y.1 y.2.1 y.2.2 := by unfold foldN; rw [List.foldl_append]; rfl
theorem putAll_snoc {es : List XEnt} {e : XEnt} : putAll (es ++ [e]) = putX (putAll es) e.1 e.2.1 e.2.2 := by unfold putAll; rw [List.foldl_append]; rfl
theorem foldN_len : ∀ {n : Nat} {ys : List NEnt}, ys.length = n → (foldN ys).length ≤ n ∧ ((foldN ys).map (·.1)).Nodup
  | 0, ys, h => by
    obtain rfl := List.length_eq_zero_iff.mp h
    exact ⟨Nat.le_refl _, List.nodup_nil⟩
  | n + 1, ys, h => by
    have hne : ys ≠ [] := fun e => by rw [e] at h; cases h
    obtain ⟨l, y, rfl⟩ : ∃ l y, ys = l ++ [y] := ⟨ys.dropLast, ys.getLast hne, (List.dropLast_concat_getLast hne).symm⟩
    rw [List.length_append] at h
    obtain ⟨h1, h2⟩ := foldN_len (n := n) (ys := l) (by have : [y].length = 1 := rfl; omega)
    rw [foldN_snoc]
    exact ⟨Nat.le_trans (putN_len _ _ _ _) (by omega), putN_nd h2⟩
theorem foldN_mem {P : NestedKey → Value → Prop} {ys : List NEnt} (h : ∀ y ∈ ys, P y.1 y.2.1) : ∀ y ∈ foldN ys, P y.1 y.2.1 := by
  have key : ∀ {l acc : List NEnt}, (∀ y ∈ acc, P y.1 y.2.1) → (∀ y ∈ l, P y.1 y.2.1) → ∀ y ∈ l.foldl (fun acc y => putN acc y.1 y.2.1 y.2.2) acc, P y.1 y.2.1 := fun {l} => by
    induction l with
    | nil => exact fun h _ => h
    | cons a l ih =>
      intro acc ha hl
      refine ih (fun y hy => ?_) fun y hy => hl y (List.mem_cons_of_mem _ hy)
      rcases putN_mem hy with ⟨x, hx, e1, e2⟩ | ⟨e1, e2⟩
      · rw [← e1, ← e2]; exact ha x hx
      · rw [e1, e2]; exact hl a List.mem_cons_self
  exact key (fun y hy => nomatch hy) h
theorem rel_all {es : List XEnt} {ys : List NEnt} (h : Paired RelE es ys) : Paired RelE (putAll es) (foldN ys) := by
  have key : ∀ {es : List XEnt} {ys : List NEnt} {acc : List XEnt} {acc2 : List NEnt}, Paired RelE acc acc2 → Paired RelE es ys → Paired RelE (es.foldl (fun acc e => putX acc e.1 e.2.1 e.2.2) acc) (ys.foldl (fun acc y => putN acc y.1 y.2.1 y.2.2) acc2) := fun {es} => by
    induction es with
    | nil => intro ys acc acc2 ha hp; cases hp; exact ha
    | cons e es ih =>
      intro ys acc acc2 ha hp
      cases hp with
      | cons h0 hp =>
        have := rel_put (d := e.1) ha h0.2.1 h0.2.2
        rw [h0.1] at this
        have r := ih this hp
        exact r
  exact key .nil h
section
variable {X : Cx}
/-- the pairs of the list at p -/
def PrAt (H : Hp) (es : List XEnt) (zs : List V) : Prop := Paired (fun (e : XEnt) z => ∃ t, z = .ref t ∧ H t = some (.tup [e.2.1, e.2.2]) ∧ KeyV H e.1 e.2.1) es zs
def rDictN (w : World) : List V → Hp → VK → Prop := fun vs H Q => ∃ (p : Addr) (zs : List V) (es : List XEnt), vs = [.ref p] ∧ H p = some (.lst zs) ∧ PrAt H es zs ∧ es.length ≤ sizeLine ∧ ∀ d, H d = none → Q (.ref d) (upd H d (DkO w d (putAll es)))
theorem pr_vals {P : Program} {w : World} {H : Hp} {h : Heap} (ok : HOk P w H h) : ∀ {es : List XEnt} {zs : List V} {us : List Value}, PrAt H es zs → Vals zs us → ∃ (ys : List NEnt) (ts : List Addr), us = ts.map Value.ref ∧ ts.length = es.length ∧ Paired RelE es ys ∧ (∀ y ∈ ys, NKey h y.1 y.2.1) ∧ ∀ (j : Nat) (y : NEnt), ys[j]? = some y → ∃ t, ts[j]? = some t ∧ PairAt h t y.2.1 y.2.2
  | [], zs, us, pr, rv => by
    cases pr; cases rv
    exact ⟨[], [], rfl, rfl, .nil, (fun y hy => by cases hy), fun j y h => by cases j <;> cases h⟩
  | e :: es, zs, us, pr, rv => by
    cases pr with
    | cons p1 pr =>
    cases rv with
    | cons r1 rv =>
    obtain ⟨ys, ts, e1, e2, e3, e4, e5⟩ := pr_vals ok pr rv
    obtain ⟨t, rfl, ht, hk⟩ := p1
    cases r1
    obtain ⟨_, its, rt, o, ho, hc, n1, hd⟩ := (show ObjOk P w H h t (.tup [e.2.1, e.2.2]) from ok t _ ht)
    obtain ⟨k, v, rfl, rk, rw'⟩ : ∃ k v, its = [k, v] ∧ RelV e.2.1 k ∧ RelV e.2.2 v := by
      cases rt with
      | cons a rt =>
      cases rt with
      | cons b rt => cases rt; exact ⟨_, _, rfl, a, b⟩
    refine ⟨(nkD e.1, k, v) :: ys, t :: ts, by rw [e1]; rfl, by rw [List.length_cons, List.length_cons, e2], .cons ⟨rfl, rk, rw'⟩ e3, fun y hy => ?_, fun j y hj => ?_⟩
    · rcases List.mem_cons.mp hy with rfl | hy
      · exact key_n ok hk rk
      · exact e4 y hy
    · cases j with
      | zero => cases hj; exact ⟨t, rfl, .inl ⟨o, ho, hc, n1, hd⟩⟩
      | succ j => exact e5 j y hj
theorem call_dict_n {X : Cx} (hu : X.A.units + 20 < cLine) (hc : X.calm = true) : CallR X (.type "dict") (rDictN X.w) := by
  rintro pins s σ H vs us Q I r ⟨p, zs, es, rfl, hp, pr, hz, q⟩
  obtain ⟨u, rfl, rx⟩ := vals1 r
  obtain rfl : u = Value.ref p := rx
  obtain ⟨_, its, n, rv, hg⟩ := (show ObjOk X.prog X.w H s.heap p (.lst zs) from I.hok p _ hp)
  obtain ⟨ys, ts, e1, e2, prl, his, hpair⟩ := pr_vals I.hok pr rv
  subst e1
  have ly : ys.length = es.length := (Paired.length prl).symm
  have P := PairArg.list (prog := X.prog) (w := X.w) p (ts.map Value.ref).toArray (fun j => ts.getD j 0) (ys.map fun y => (y.2.1, y.2.2))
  have items : PairItems s.heap (ts.map Value.ref).toArray (fun j => ts.getD j 0) (ys.map fun y => (y.2.1, y.2.2)) := by
    refine ⟨by simp [e2, ly], fun j k v hj => ?_⟩
    rw [List.getElem?_map] at hj
    cases hy : ys[j]? with
    | none => rw [hy] at hj; cases hj
    | some y =>
      rw [hy] at hj
      cases hj
      obtain ⟨t, ht, pa⟩ := hpair j y hy
      have eg : ts.getD j 0 = t := by rw [List.getD_eq_getElem?_getD, ht]; rfl
      refine ⟨?_, by show PairAt s.heap (ts.getD j 0) _ _; rw [eg]; exact pa⟩
      show (ts.map Value.ref).toArray[j]? = some (.ref (ts.getD j 0))
      rw [eg, List.getElem?_toArray, List.getElem?_map, ht]; rfl
  have ok : PlainSeq "list" s.heap p (ts.map Value.ref).toArray ∧ PairItems s.heap (ts.map Value.ref).toArray (fun j => ts.getD j 0) (ys.map fun y => (y.2.1, y.2.2)) := ⟨⟨_, n, hg, rfl, rfl, rfl⟩, items⟩
  refine call_dict_arg P ok fun s1 hs1 hdf ok1 => ?_
  subst hs1
  have old : ∀ b o, s.heap.get? b = some o → b ≠ s.heap.objs.size := fun b o e => Nat.ne_of_lt (Heap.lt_size e)
  have tabK : ∀ h : Heap, (∀ b o, b ≠ s.heap.objs.size → s.heap.get? b = some o → h.get? b = some o) → ∀ l : List NEnt, (∀ y ∈ l, y ∈ ys) → ∀ y ∈ foldN l, NKey h y.1 y.2.1 := fun h hk l hl => foldN_mem fun y hy => ⟨NestedIs.at (fun b ob vs n hb _ => hk b ob (old b ob hb) hb) _ _ (his y (hl y hy)).1, (his y (hl y hy)).2⟩
  refine updateFrom_arg (Tab := fun i h => NDict X.w h s.heap.objs.size (foldN (ys.take i)) ∧ ∀ b o, b ≠ s.heap.objs.size → s.heap.get? b = some o → h.get? b = some o) P .none (I.ok.hd hc) ok1 hdf ⟨⟨_, #[], 0, Heap.get?_push_size _ rfl, ⟨rfl, rfl, rfl⟩, rfl, rfl⟩, fun b o _ e => Heap.get?_push_of_some _ e⟩ (fun i h tb => let ⟨⟨_, _, _, ho, _⟩, _⟩ := tb; Heap.lt_size ho) (fun i h h' wr' hd hw tb hk => ?_) (fun i k v s' Q' E' hi hrel tb _ hQ => ?_) fun h' tk tb hk => ?_
  · obtain ⟨⟨o, es', ep, ho, r⟩, tk⟩ := tb
    refine ⟨⟨o, es', ep, hk _ _ hd ho, r⟩, fun b ob hb e => hk b ob (fun hm => ?_) (tk b ob hb e)⟩
    rcases hw b hm with z | z
    · cases z
    · have := Heap.get?_push_of_some { cls := .type "dict", data := .dict #[] } e
      rw [z] at this; cases this
  · obtain ⟨y, hy, ek, ev⟩ : ∃ y, ys[i]? = some y ∧ y.2.1 = k ∧ y.2.2 = v := by
      have hrel : (ys.map fun y => (y.2.1, y.2.2))[i]? = some (k, v) := hrel
      rw [List.getElem?_map] at hrel
      cases hy : ys[i]? with
      | none => rw [hy] at hrel; cases hrel
      | some y => rw [hy] at hrel; cases hrel; exact ⟨y, rfl, rfl, rfl⟩
    subst ek ev
    have hym := List.mem_of_getElem? hy
    have fl := foldN_len (n := (ys.take i).length) (ys := ys.take i) rfl
    have ll : (ys.take i).length ≤ es.length := by rw [List.length_take]; omega
    refine n_set (k := y.1) (ys := foldN (ys.take i)) (by show X.A.units + 1 + 1 + 8 < cLine; omega) ⟨NestedIs.at (fun b ob vs n hb _ => tb.2 b ob (old b ob hb) hb) _ _ (his y hym).1, (his y hym).2⟩ tb.1 (tabK _ tb.2 _ fun z hz => List.mem_of_mem_take hz) fl.2 (by omega) fun h' nd sb => hQ h' _ ⟨?_, fun b ob hb e => (sb.2 b hb).trans (tb.2 b ob hb e)⟩ sb
    rw [List.take_add_one, hy]
    show NDict X.w h' _ (foldN (ys.take i ++ [y]))
    rw [foldN_snoc]; exact nd
  · have tb1 := tb.1
    rw [List.take_of_length_le (by simp)] at tb1
    have fl := foldN_len (n := ys.length) (ys := ys) rfl
    have ra := rel_all prl
    refine ⟨rfl, .ref s.heap.objs.size, _, I.laid (a := s.heap.objs.size) (o := DkO X.w s.heap.objs.size (putAll es)) (t' := tk) (fun b ob e => hk b ob (old b ob e) (fun h => nomatch h) (Heap.get?_push_of_some _ e)) (Nat.le_refl _) (dn_new (by rw [Paired.length ra]; omega) (beq_eq_false_iff_ne.mpr (Ne.symm (Nat.ne_of_lt I.big))) tb1 ra (by rw [xk_keys ra]; exact fl.2)), rfl, q _ (I.hok.fresh (Nat.le_refl _))⟩
end
end Ssb

/-! len(d), d.clear() for a dict whose keys are None or tuples. -/
namespace Ssb
open PySem PySem.Spec PyProof.Rows L2
section
variable {X : Cx} {pins : List (Addr × Obj)} {σ : L2.St} {H : Hp} {s : Shared} {a : Addr} {xs : List XEnt}
theorem raw_n (I : L2.Inv X pins σ H s) (e : Rd H a (DkO X.w a xs)) : (a == sysModules) = false ∧ xs.length ≤ sizeLine ∧ ∃ es ep, s.heap.DictRaw a es ep ∧ es.size = xs.length := by
  obtain ⟨⟨z, hs, ys, ⟨o, es, ep, ho, hx, hdt, hes⟩, pr, _⟩, _⟩ := (show ObjOk X.prog X.w H s.heap a (DkO X.w a xs) from e.ok I.hok)
  have len := Paired.length pr
  exact ⟨hs, z, es, ep, ⟨o, ho, hx, hdt⟩, by rw [← Array.length_toList, hes, List.length_map]; omega⟩
end
def rLenN (w : World) : List V → Hp → VK → Prop := fun vs H Q => ∃ (a : Addr) (xs : List XEnt), vs = [.ref a] ∧ Rd H a (DkO w a xs) ∧ Q (.int (xs.length : Int)) H
theorem call_lenN {X : Cx} : CallR X (.builtin "len") (rLenN X.w) := by
  rintro pins s σ H vs us Q I r ⟨a, xs, rfl, e, q⟩
  obtain ⟨u, rfl, rx⟩ := vals1 r
  obtain rfl : u = .ref a := rx
  obtain ⟨hs, z, es, ep, hm, hsz⟩ := raw_n I e
  rw [sizeLine_eq] at z
  refine Calls.call_function_entry kind_len plain_len entry_len (args_len1 _) ?_
  unfold Builtin.«len»
  refine wpAny_bind (m := oneArg "len" _) (wpAny_pure (wpAny_bind (m := callSpecial? (.ref a) (Str.ofString "__len__")) (wpAny_callSpecial?_slot (name := Str.ofString "__len__") hm.typeIs F.slot_dict_len (call_len_raw hs hm ?_))))
  refine wpAny_bind (wpAny_holding (wpAny_pure (wpAny_bind (wpAny_letGo ?_))))
  have lo : ¬ ((es.size : Nat) : Int) < 0 := by omega
  have hi : ¬ ((es.size : Nat) : Int) ≥ 2 ^ 63 := by omega
  show wpAny _ _ (if ((es.size : Nat) : Int) < 0 then _ else _) _ _ _
  rw [if_neg lo]
  show wpAny _ _ (if ((es.size : Nat) : Int) ≥ 2 ^ 63 then _ else _) _ _ _
  rw [if_neg hi]
  refine wpAny_bind (wpAny_mkInt (wpAny_pure ⟨_, rfl, .int (xs.length : Int), H, (I.tok _), ⟨_, by rw [hsz]⟩, q⟩))
def rClearN (w : World) : V → List V → Hp → VK → Prop := fun x vs H Q => ∃ (a : Addr) (xs : List XEnt), x = .ref a ∧ vs = [] ∧ H a = some (DkO w a xs) ∧ Q .non (upd H a (DkO w a []))
theorem mtd_clearN {X : Cx} : MtR X "dict.clear" (rClearN X.w) := by
  rintro pins s σ H x vs v us Q I rx rv ⟨a, xs, rfl, rfl, e, q⟩
  obtain rfl : v = Value.ref a := rx
  have hus := rv.zero
  subst hus
  obtain ⟨hs, z, es, ep, hm, hsz⟩ := raw_n I (.inl e)
  refine call_meetsIn PySem.F.slot_dict_clear hm.typeIs PySem.F.entry_dict_clear (PySem.F.args_dict_clear_1 _) (meets_dict_clear_raw a) ⟨es, ep, hm, by omega, fun h' hr sb => ?_⟩
  obtain ⟨o, ho, hx, hdt⟩ := hr
  exact ⟨.non, _, d_write (t' := s.toks) I (by rw [e]; exact True.intro) sb ⟨o, ho⟩ (dn_new (Nat.zero_le _) hs (ys := []) ⟨o, #[], ep + 1, ho, hx, hdt, rfl⟩ .nil List.nodup_nil), rfl, q⟩
def tClearN (w : World) (to : TE) : TE := fun σ H Q => to σ H fun x H1 => ∃ a xs, x = .ref a ∧ H1 a = some (DkO w a xs) ∧ Q .non (upd H1 a (DkO w a []))
theorem pe_clearN {X : Cx} {o : Expr} {to : TE} {apos cpos : Pos} (ho : PE X o to) (hbase : attributeBase o "clear" X.env (eval o X.env) = eval o X.env := by rfl) (hline : (apos.endLine == cpos.line) = true := by rfl) : PE X (.Call (.Attribute o "clear" apos) [] [] cpos) (tClearN X.w to) := by
  refine ⟨fun pins s σ H Q I h => ?_⟩
  refine wpAny_Call_method0_late hbase hline (thn (ho.run pins s σ H _ I h) fun v s1 ⟨x, H1, I1, r1, a, xs, ex, hd, q1⟩ => ?_)
  cases ex
  obtain rfl : v = Value.ref a := r1
  obtain ⟨hs, z, es, ep, hm, hsz⟩ := raw_n I1 (.inl hd)
  refine ⟨"dict", "dict.clear", PySem.F.plainAttrs_dict, PySem.F.slot_dict_clear, PySem.F.type_dict_clear, hm.typeIs, fun b e2 => ?_, Calls.callWith_builtin rfl (PySem.evalArgs_none (mtd_clearN pins s1 σ H1 (.ref a) [] _ [] Q I1 rfl .nil ⟨a, xs, rfl, rfl, hd, q1⟩))⟩
  cases e2
  obtain ⟨ob, h1, h2, _⟩ := hm
  exact ⟨ob, h1, h2.2.1⟩
end Ssb

/-! key not in d; isinstance(x, T) where x may be such a dict. -/
namespace Ssb
open PySem PySem.Spec PyProof.Rows L2
def rNNin (w : World) : R2 := fun y x H Q => ∃ a o, x = .ref a ∧ NGet w H a y o ∧ Q (.bl (!o.isSome)) H
theorem op_nnin {X : Cx} (hu : X.A.units + 20 < cLine) : OpR X (compareOp .NotIn) (rNNin X.w) := by
  rintro pins s σ H y x u xv Q I ry rx ⟨a, o, rfl, g, q⟩
  obtain rfl : xv = Value.ref a := rx
  show wpAny _ _ (do return Value.bool (!(← contains (.ref a) u))) _ _ s
  exact wpAny_bind (n_contains (by omega) I g ry fun s' I' => wpAny_pure ⟨.bl (!o.isSome), H, I', rfl, q⟩)
/-- isinstance(x, T), x any value known so far, or a dict whose keys are None or tuples -/
def rIsiN (K : PySem.W.Frag) (w : World) : List V → Hp → VK → Prop := fun vs H Q => rIsi K vs H Q ∨ ∃ (a : Addr) (xs : List XEnt) (n : String) (b : Bool), vs = [.ref a, .ty n] ∧ Rd H a (DkO w a xs) ∧ kitB "dict" n = some b ∧ Q (.bl b) H
theorem call_isiN {X : Cx} : CallR X (.builtin "isinstance") (rIsiN X.K X.w) := by
  rintro pins s σ H vs us Q I r (h | ⟨a, xs, n, b, rfl, e, hk, q⟩)
  · exact call_isi pins s σ H vs us Q I r h
  · obtain ⟨u1, u2, rfl, r1, r2⟩ := vals2 r
    obtain rfl : u1 = .ref a := r1
    obtain rfl : u2 = .type n := r2
    obtain ⟨hs, z, es, ep, ⟨o, ho, hx, _⟩, _⟩ := raw_n I e
    exact PySem.W.kia_one PySem.W.kitx_dict I.kIn ⟨o, ho, hx.1⟩ (kit_ty hk) (fun z => nomatch z) fun tk => ⟨.bl b, H, I.tok tk, rfl, q⟩
theorem ev_isiN {K : PySem.W.Frag} {w : World} {te : TE} {σ : L2.St} {H : Hp} {a : Addr} {xs : List XEnt} {n : String} {b : Bool} (h : Evl.Ev te σ H (.ref a)) (hd : Rd H a (DkO w a xs)) (hk : kitB "dict" n = some b) : Evl.Ev (tCB (rIsiN K w) (tCons te (tCons (tC (.ty n)) tNil))) σ H (.bl b) := fun H1 e Q q =>
  h H1 e _ fun H2 e2 => .inr ⟨a, xs, n, b, rfl, hd.imp (fun z => (e.trans e2) _ _ z) (fun ⟨o, z⟩ => ⟨o, (e.trans e2) _ _ z⟩), hk, q H2 e2⟩
end Ssb

/-! d.get(k) of a dict whose keys are None and tuples: None where k is not in it. -/
namespace Ssb
open PySem PySem.Spec PyProof.Rows L2
section
variable {X : Cx} {pins : List (Addr × Obj)} {σ : L2.St} {H : Hp} {s : Shared} {a : Addr} {y v : V} {u r : Value} {o : Option V} {A : Around} {E : Value → Shared → Prop}
theorem n_get1 {Q : Value → Shared → Prop} (hu : A.units + 10 < cLine) (I : L2.Inv X pins σ H s) (g : NGet X.w H a y o) (ry : RelV y u) (h : ∀ z s', L2.Inv X pins σ H s' → RelV (o.getD .non) z → Q z s') :
    wpAny (model X.prog X.w) A (call (.builtin "dict.get") [.ref a, u]) Q E s := by
  obtain ⟨ty1, _, hd1⟩ := ng_at I g
  refine call_meetsIn PySem.F.slot_dict_get ty1 PySem.F.entry_dict_get (PySem.F.args_dict_get_2 _ _) (S := fun B R t => B = A ∧ t = s ∧ ∀ z t2, L2.Inv X pins σ H t2 → RelV (o.getD .non) z → R (.ok (.ret z)) t2) (.of_wp fun B R t hS => ?_) ⟨rfl, rfl, fun z t2 I2 r2 => h z t2 I2 r2⟩
  obtain ⟨rfl, rfl, hq⟩ := hS
  show wpAny _ _ (dictGet a u >>= _) _ _ _
  refine wpAny_bind (ng_get (by show B.units + 1 + 8 < cLine; omega) I g ry fun p t2 I2 rp => ?_)
  cases o with
  | some v =>
    cases p with
    | some z => exact wpAny_pure ⟨z, rfl, hq z t2 I2 rp⟩
    | none => exact rp.elim
  | none =>
    cases p with
    | some z => exact rp.elim
    | none => exact wpAny_bind (wpAny_missed_other hd1 (wpAny_pure ⟨.none, rfl, hq .none t2 I2 rfl⟩))
end
def tNGet1 (w : World) (to : TE) (t : TA) : TE := fun σ H Q => to σ H fun x H1 => (∃ a, x = .ref a ∧ ∃ xs, Rd H1 a (DkO w a xs) ∧ Keys H1 xs) ∧ t σ H1 fun xs H2 => ∃ a y o, x = .ref a ∧ xs = [y] ∧ NGet w H2 a y o ∧ Q (o.getD .non) H2
section
variable {X : Cx} {o e : Expr} {es : List Expr} {to : TE} {t : TA} {apos cpos : Pos}
theorem pe_nget1 (hu : X.A.units + 20 < cLine) (ho : PE X o to) (ha : PA X (e :: es) t)
    (hbase : attributeBase o "get" X.env (eval o X.env) = eval o X.env := by rfl)
    (hfew : ((backTo cpos (starEach (e :: es) X.env)).all (fun z => !z.1) && (backToKw cpos (keywordEach [] X.env)).all (fun z => z.1.isSome)
      && decide ((e :: es).length + ([] : List Keyword).length + (if ([] : List Keyword).isEmpty then 0 else 1) < 30)) = true := by rfl)
    (hline : (apos.endLine == cpos.line) = true := by rfl) (hs : starEach (e :: es) X.env = (false, eval e X.env) :: starEach es X.env := by rfl) (hplain : (backTo cpos (starEach es X.env)).any (·.1) = false := by rfl) :
    PE X (.Call (.Attribute o "get" apos) (e :: es) [] cpos) (tNGet1 X.w to t) := by
  refine ⟨fun pins s σ H Q I h => ?_⟩
  refine wpAny_Call_method_late hbase hfew hline rfl (thn (ho.run pins s σ H _ I h) fun v s1 ⟨x, H1, I1, r1, ⟨a, ex, xs, hd, hk⟩, q1⟩ => ?_)
  cases ex
  obtain rfl : v = Value.ref a := r1
  obtain ⟨_, hm, ys, nd, _⟩ := dn_of I1.hok hk hd
  refine ⟨"dict", "dict.get", PySem.F.plainAttrs_dict, PySem.F.slot_dict_get, PySem.F.type_dict_get, nd.typeIs, fun b e2 => ?_, ?_⟩
  · cases e2
    obtain ⟨ob, _, _, g1, g2, _⟩ := nd
    exact ⟨ob, g1, g2.2.1⟩
  have hA := ha.run cpos pins s1 σ H1 _ I1 q1
  rw [hs] at hA ⊢
  refine Calls.callWith_builtin ?_ (Calls.evalArgs_plain ?_)
  · show (false || (backTo cpos (starEach es X.env)).any (·.1)) = false
    rw [hplain] <;> rfl
  · refine thn hA fun us s2 ⟨vs, H2, I2, r2, ⟨b, y, o2, eb, ey, g, q2⟩⟩ => ?_
    cases eb
    cases ey
    cases r2 with
    | cons ry r2 =>
    cases r2
    exact n_get1 (by omega) I2 g ry fun z s' I' rz => ⟨_, H2, I', rz, q2⟩
end
end Ssb

/-! try: .. except C0: .. except C as e: .. (C0 does not fit; e is not kept behind the suite). -/
namespace Ssb
open PySem PySem.Spec L2 PyProof.Rows
section
variable {X : Cx} {x0 x n : Str} {c0 c : Value} {i : Nat} {body suite suite0 : List Stmt} {b0 b₀ : Stmt} {np0 np pos pos0 pos' : Pos} {tb : WX → TS} {ts : Addr → Value → Option Addr → TS} {Wout : WX}
/-- the first clause is asked and does not fit -/
def wSkp (K : PySem.W.Frag) (c0 : Value) (W : WX) : WX := fun cls d σ H => PySem.W.exmOne K cls c0 = some false ∧ W cls d σ H
theorem ps_try_as2 (hs : X.stack = X.env :: X.outer) (hf : X.env.frame = some X.env.locals) (hN : X.N.Nodup) (hi : X.N[i]? = some n) (hln : X.env.kindOf n = some .local) (hc0 : Names X x0 c0) (hc : Names X x c) (tk : Takes X Wout)
    (hb : ∀ (W : WX) (pn : List (Addr × Obj)) (xe : Value → Shared → Prop), Takes (X.tr pn xe) W → PassesOwn (model X.prog X.w) X.A X.env xe → PSs (X.tr pn xe) body (tb W))
    (hsu : ∀ (a : Addr) (oe : Obj) (cls : Value) (d : Option Addr) (pn : List (Addr × Obj)), Zc cls d oe → (∃ vs, oe.data = .fields vs) → PSs (X.suite a ((a, oe) :: pn)) (b₀ :: suite) (ts a cls d)) :
    PS X (.Try body [.ExceptHandler (some (.Name x0 np0)) none (b0 :: suite0) pos0, .ExceptHandler (some (.Name x np)) (some n) (b₀ :: suite) pos'] [] [] pos) (fun D σ H => tb (wSkp X.K c0 (wAs X.K c i ts Wout D)) D σ H) := by
  refine ⟨fun pins s σ H D I h => ?_⟩
  have ok := I.ok
  have fr0 : X.A.frames = some (X.env :: X.outer) := by rw [ok.frames, hs]
  refine wpAny_Try_except (wpAny_mono ((hb (wSkp X.K c0 (wAs X.K c i ts Wout D)) (X.pn ++ pins) (fun e s₁ => wpAny (model X.prog X.w) X.A (noteFrame e X.env) (fun _ s₂ => wpAny (model X.prog X.w) X.A (setFlight e none) (fun _ s₃ => wpAny (model X.prog X.w) X.A (handleBy e X.env [.ExceptHandler (some (.Name x0 np0)) none (b0 :: suite0) pos0, .ExceptHandler (some (.Name x np)) (some n) (b₀ :: suite) pos']) (SP X pins D) X.xe s₃) X.xe s₂) X.xe s₁) (fun u s' xx => ?_) PassesOwn.looking).run [] s σ H D (I.toTry _) h) (fun f s1 hsp => ?_) (fun e s1 he => he))
  · obtain ⟨a, B, sI, pins', σ1, HH, cls, d, rfl, J0, nb, up, sky, na, os, ag, hb0, b, hb1, hyes, hno⟩ := xx
    have J : Inv X pins σ1 HH sI := J0.ofTry ok
    rw [show (X.tr (X.pn ++ pins) _).stack = X.env :: X.outer from hs] at sky
    refine Sky.land Zc.steady fr0 hf sky fun h3 fl3 up3 => ?_
    have J3 : Inv X pins σ1 HH { s' with heap := h3 } := J.landed nb fl3.1 (up.trans up3) os ag
    obtain ⟨oe3, vs3, he3, hz3, hd3⟩ := fl3.there
    have nfr : a ∉ frs (X.env :: X.outer) := fun hm => by
      obtain ⟨_, o', e', hnf⟩ := fl3.2.2.1.mem hm
      rw [he3] at e'; cases e'; exact hnf _ hd3
    have nL : a ≠ X.env.locals := fun z => nfr (List.mem_filterMap.mpr ⟨X.env, List.mem_cons_self, (by rw [hf, z])⟩)
    have nF : a ∉ X.fs := fun hm => (List.mem_filterMap.mp hm).elim fun e he => nfr (List.mem_filterMap.mpr ⟨e, List.mem_cons_of_mem _ he.1, he.2⟩)
    have young : sI.heap.get? a = none := by
      cases hg : sI.heap.get? a with
      | none => rfl
      | some o =>
        have := nb a o hg (by rw [show (X.tr (X.pn ++ pins) _).stack = X.env :: X.outer from hs]; exact nfr)
        rw [fl3.2.1] at this; cases this
    have n0 : ∀ b o, X.s_0.heap.get? b = some o → b ∉ X.ex → b ≠ a := fun b o q hx z => by
      obtain ⟨o', h'⟩ := J.base.there b o q hx
      rw [z, young] at h'; cases h'
    have np0 : ∀ p ∈ X.pn ++ pins, p.1 ≠ a := fun p hp z => by
      have := (J.pin p hp).1
      rw [z, young] at this; cases this
    have S3 := J3.suite he3 hd3 na nL nF
    have looks : PySem.W.Looks (model X.prog X.w) h3 (typeOf (.ref a)) cls := fun A Q E s k q => wpAny_typeOf_ref (k _ _ he3) (by rw [hz3.1]; exact q)
    have LM := PySem.W.exm_one (M := model X.prog X.w) J3.kIn looks hb1
    have LM0 := PySem.W.exm_one (M := model X.prog X.w) J3.kIn looks hb0
    have ask : ∀ {y : Str} {cy : Value} {npy : Pos}, Names X y cy → ∀ {Q : Value → Shared → Prop} {E : Value → Shared → Prop}, Q cy { s' with heap := h3 } → wpAny (model X.prog X.w) (X.A.mark (some (.ref a))) (eval (.Name y npy) X.env) Q E { s' with heap := h3 } := fun {y cy npy} hy {Q E} q => by
      obtain ⟨hg, hdb, hm | ⟨hm, hv, hnn⟩⟩ := hy
      · exact ld_glob S3 hg hm q hdb
      · exact ld_blt S3 hg hm hv q hnn hdb
    refine wpAny_handleBy_cons (codeAny_handlers_test (ask hc0 (LM0.here ?_))) (by intro q; cases q)
    show wpAny _ X.A (handleBy (.ref a) X.env [.ExceptHandler (some (.Name x np)) (some n) (b₀ :: suite) pos']) _ _ _
    refine wpAny_handleBy_cons (codeAny_handlers_test (ask hc (LM.here ?_))) (by intro q; cases q)
    cases b with
    | true =>
      refine codeAny_handlers_suite_as (HandSPX.lands_againZ fl3 fun h4 fl4 up4 => ?_)
      have J4 : Inv X pins σ1 HH { s' with heap := h4 } := J.landed nb fl4.1 ((up.trans up3).trans up4) os ag
      obtain ⟨oe4, vs4, he4, hz4, hd4⟩ := fl4.there
      refine store_ok (X := X.suite a ((a, oe4) :: (X.pn ++ pins))) (v := .ref a) (J4.suite he4 hd4 na nL nF) hN hi (.inl hln) rfl (fun s5 S5 => ?_) (.inr hln)
      refine wpAny_mono ((hsu a oe4 cls d (X.pn ++ pins) hz4 ⟨_, hd4⟩).run [] s5 _ HH _ S5 (hyes rfl a na)) (fun f s6 hsp => ?_) (fun _ _ z => False.elim z)
      have fin : ∀ {σ6 : L2.St} {H6 : Hp} {Q : Shared → Prop}, Inv (X.suite a ((a, oe4) :: (X.pn ++ pins))) [] σ6 H6 s6 → (∀ s7, Inv X pins (σ6.set i none) H6 s7 → Q s7) →
          wpAny (model X.prog X.w) X.A (do bindName X.env n .none; unbindBehindTheSuite X.env n pos') (fun _ s7 => Q s7) X.xe s6 := fun {σ6 H6 Q} S6 hq => gone_ok (S6.unsuite ok) hN hi hln hq
      cases f with
      | ret u => obtain ⟨v6, σ6, H6, S6, r6, q6⟩ := hsp; exact fin S6 fun s7 J7 => ⟨_, _, _, J7, r6, q6⟩
      | next => obtain ⟨σ6, H6, S6, q6⟩ := hsp; exact fin S6 fun s7 J7 => ⟨_, _, J7, q6⟩
      | brk => obtain ⟨σ6, H6, S6, q6⟩ := hsp; exact fin S6 fun s7 J7 => ⟨_, _, J7, q6⟩
      | cont => obtain ⟨σ6, H6, S6, q6⟩ := hsp; exact fin S6 fun s7 J7 => ⟨_, _, J7, q6⟩
    | false =>
      show wpAny _ X.A (handleBy (.ref a) X.env []) _ _ _
      obtain ⟨k1, k2, k3, oe, vs, T, oT, ts', he, hz, hd, h1, hr⟩ := id fl3
      refine wpAny_handleBy_nil ?_
      unfold PySem.passOn
      refine wpAny_bind (wpAny_field he hd h1 ?_)
      rw [if_neg (show ¬ ((Value.ref T == Value.none) = true) by simp)]
      have go : wpAny (model X.prog X.w) X.A (setFlight (.ref a) X.env.frame) (fun _ s4 => wpAny (model X.prog X.w) X.A (throw (.ref a) : Sem Flow) (SP X pins D) X.xe s4) X.xe { s' with heap := h3 } := by
        rw [hf]
        exact HandSPX.setFlight_upZ fl3 fun h4 hh4 up4 => wpAny_throw (tk _ _ ⟨a, B, sI, pins, σ1, HH, cls, d, rfl, J, nb, (up.trans up3).trans up4, .inr (.inr (by rw [hs]; exact hh4)), na, os, ag, hno rfl⟩)
      first
        | exact wpAny_bind go
        | exact wpAny_bind (wpAny_pure (wpAny_bind go))
  · cases f with
    | ret u => obtain ⟨v, σ1, HH, J, r, q⟩ := hsp; exact ⟨v, σ1, HH, J.ofTry ok, r, q⟩
    | next => obtain ⟨σ1, HH, J, q⟩ := hsp; exact wpAny_execs_nil ⟨σ1, HH, J.ofTry ok, q⟩
    | brk => obtain ⟨σ1, HH, J, q⟩ := hsp; exact ⟨σ1, HH, J.ofTry ok, q⟩
    | cont => obtain ⟨σ1, HH, J, q⟩ := hsp; exact ⟨σ1, HH, J.ofTry ok, q⟩
end
end Ssb

/-! == of nested tuples and dicts, either answer; == and != of instances by an own __eq__, either answer. -/
namespace Ssb
open PySem PySem.Spec PyProof.Rows L2
open Evl (Ex Ev EvT EvL EvA EvU)
/-- x == y answers b -/
inductive EqB (K : PySem.W.Frag) (H : Hp) : Nat → V → V → Bool → Prop
  | leaf {n : Nat} {x y : V} : flatV x = true → flatV y = true → EqB K H n x y (eqV x y)
  | same {n : Nat} {a : Addr} : EqB K H n (.ref a) (.ref a) true
  | tups {n : Nat} {a c : Addr} {xs ys : List V} {e : Nat → Bool} : a ≠ c → SqT K H a xs → SqT K H c ys → (∀ (j : Nat) (x y : V), xs[j]? = some x → ys[j]? = some y → EqB K H n x y (e j)) →
      EqB K H (n + 1) (.ref a) (.ref c) ((List.range (min xs.length ys.length)).all e && xs.length == ys.length)
  | dics {n : Nat} {a c : Addr} {ks ls : List (Key × V)} {e : Key → Bool} : a ≠ c → H a = some (.dK ks) → H c = some (.dK ls) → (∀ (k : Key) (x y : V), (k, x) ∈ ks → valV ls k = some y → EqB K H n x y (e k)) →
      EqB K H (n + 1) (.ref a) (.ref c) (ks.length == ls.length && ks.all fun p => (valV ls p.1).isSome && e p.1)
theorem kv_some {κ : Type} [DecidableEq κ] {ls : List (κ × V)} {vb : List (κ × Value)} (rb : KV ls vb) (k : κ) : (valV ls k).isSome = (valueAt vb k).isSome := by
  have := rb.val k
  cases c : valV ls k with
  | none =>
    rw [c] at this
    cases d : valueAt vb k with
    | none => rfl
    | some u => rw [d] at this; exact this.elim
  | some v =>
    rw [c] at this
    cases d : valueAt vb k with
    | none => rw [d] at this; exact this.elim
    | some u => rfl
theorem kv_all {κ : Type} [DecidableEq κ] {ls : List (κ × V)} {vb : List (κ × Value)} (rb : KV ls vb) (e : κ → Bool) {ks : List (κ × V)} {va : List (κ × Value)} (ra : KV ks va) : (ks.all fun p => (valV ls p.1).isSome && e p.1) = va.all fun p => (valueAt vb p.1).isSome && e p.1 := by
  unfold KV at ra
  induction ra with
  | nil => rfl
  | @cons p q ps qs h t ih => rw [List.all_cons, List.all_cons, ih, h.1, kv_some rb]
theorem kv_mem {κ : Type} {ks : List (κ × V)} {va : List (κ × Value)} (ra : KV ks va) : ∀ {k : κ} {v : Value}, (k, v) ∈ va → ∃ x, (k, x) ∈ ks ∧ RelV x v := by
  unfold KV at ra
  induction ra with
  | nil => intro k v h; exact nomatch h
  | @cons p q ps qs h t ih =>
    intro k v hm
    rcases List.mem_cons.mp hm with hm | hm
    · refine ⟨p.2, ?_, ?_⟩
      · have : p.1 = k := by rw [h.1, ← hm]
        rw [← this]; exact List.mem_cons_self
      · rw [← hm] at h; exact h.2
    · obtain ⟨x, h1, h2⟩ := ih hm
      exact ⟨x, List.mem_cons_of_mem _ h1, h2⟩
section
variable {X : Cx} {pins : List (Addr × Obj)} {σ : L2.St} {H : Hp} {s : Shared}
theorem vals_at {xs : List V} {us : List Value} (r : Vals xs us) {j : Nat} (h : j < us.length) : ∃ x, xs[j]? = some x ∧ RelV x us[j] := by
  induction r generalizing j with
  | nil => exact absurd h (Nat.not_lt_zero j)
  | cons a b ih =>
    cases j with
    | zero => exact ⟨_, rfl, a⟩
    | succ j => exact ih (Nat.lt_of_succ_lt_succ h)
theorem eqB_tree (I : Inv X pins σ H s) {n : Nat} {x y : V} {b : Bool} (h : EqB X.K H n x y b) : ∀ {v u : Value}, RelV x v → RelV y u → PySem.W.EqTree X.prog X.w s n v u b := by
  induction h with
  | leaf fx fy => exact fun rx ry => .leaf fun A hu => eqAt_V rx ry fx fy
  | same => exact fun rx ry => by cases rx; cases ry; exact .same
  | @tups n a c xs ys e ne ha hc _ ih =>
    intro v u rx ry
    cases rx; cases ry
    obtain ⟨us, r1, p1, _⟩ := I.tuple ha
    obtain ⟨ws, r2, p2, _⟩ := I.tuple hc
    have e1 : xs.length = us.toArray.size := by rw [List.size_toArray]; exact r1.length
    have e2 : ys.length = ws.toArray.size := by rw [List.size_toArray]; exact r2.length
    rw [e1, e2]
    refine .tuples ne p1 p2 fun j h1 h2 => ?_
    obtain ⟨x, hx, rx⟩ := vals_at r1 (j := j) (by simpa using h1)
    obtain ⟨y, hy, ry⟩ := vals_at r2 (j := j) (by simpa using h2)
    have := ih j x y hx hy rx ry
    simpa using this
  | @dics n a c ks ls e ne ha hc _ ih =>
    intro v u rx ry
    cases rx; cases ry
    obtain ⟨_, ya, va, ra, da⟩ := (show ObjOk X.prog X.w H s.heap a (.dK ks) from I.hok a _ ha)
    obtain ⟨_, yb, vb, rb, db⟩ := (show ObjOk X.prog X.w H s.heap c (.dK ls) from I.hok c _ hc)
    rw [kv_all rb e ra, ra.length, rb.length]
    refine .dicts (knd := mixKind X.prog X.w) ne ya yb da db fun k v y hm hv => ?_
    obtain ⟨x, hx, rx⟩ := kv_mem ra hm
    have := rb.val k
    rw [hv] at this
    cases hy : valV ls k with
    | none => rw [hy] at this; exact this.elim
    | some y' => rw [hy] at this; exact ih k x y' hx hy rx this
end
section
variable {X : Cx}
/-- a == b of two dicts, at the top -/
def rEqQ (K : PySem.W.Frag) : R2 := fun x y H Q => ∃ n a c ks ls, ∃ e : Key → Bool, n ≤ 50 ∧ x = .ref a ∧ y = .ref c ∧ H a = some (.dK ks) ∧ H c = some (.dK ls) ∧ (∀ (k : Key) (x y : V), (k, x) ∈ ks → valV ls k = some y → EqB K H n x y (e k)) ∧
  Q (.bl (ks.length == ls.length && ks.all fun p => (valV ls p.1).isSome && e p.1)) H
theorem op_eqQ (hu : X.A.units + 64 < cLine) : OpR X (compareOp .Eq) (rEqQ X.K) := by
  intro pins s σ H x y v u Q I rx ry h
  obtain ⟨n, a, c, ks, ls, e, hn, rfl, rfl, ha, hc, he, q⟩ := h
  cases rx; cases ry
  obtain ⟨_, ya, va, ra, da⟩ := (show ObjOk X.prog X.w H s.heap a (.dK ks) from I.hok a _ ha)
  obtain ⟨_, yb, vb, rb, db⟩ := (show ObjOk X.prog X.w H s.heap c (.dK ls) from I.hok c _ hc)
  refine PySem.W.eq_dictsT (knd := mixKind X.prog X.w) (n := n) (e := e) ya yb da db (fun k v y hm hv => ?_) (by omega) ?_
  · obtain ⟨x, hx, rx⟩ := kv_mem ra hm
    have := rb.val k
    rw [hv] at this
    cases hy : valV ls k with
    | none => rw [hy] at this; exact this.elim
    | some y' => rw [hy] at this; exact eqB_tree I (he k x y' hx hy) rx this
  · rw [← kv_all rb e ra, ← ra.length, ← rb.length]
    exact ⟨.bl _, H, I, rfl, q⟩
end
end Ssb

/-! == and != of an instance by an own __eq__ (no own __ne__), either answer, with a value of any type on the right. -/
namespace PySem.W
open Builtin PyProof.Rows
section
variable {prog : Program} {w : World} {M : Model} {A : Around} {E : Value → Shared → Prop} {s : Shared} {K : Frag} {x C f : Addr} {ox : Obj} {od : Option Obj}
/-- a built-in bound to it -/
theorem sq_bound {name : Str} {id : String} {args : List Value} {Q : Option Value → Shared → Prop} (X : K.In s.heap) (I : InstAt s.heap x ox C od) (hs : findIn K (.ref C) name = some (some (.builtin id)))
    (hb : ∀ self, bindSpecial (.builtin id) self = pure (.builtin id, [self])) (h : wpAny M A (call (.builtin id) (.ref x :: args)) (fun v => Q (some v)) E s) : wpAny M A (callSpecialIfBound? (.ref x) name args) Q E s := by
  simp only [callSpecialIfBound?, bindSpecialIfBound?]
  refine wpAny_holding (wpAny_bind (wpAny_bind (wpAny_bind (I.type.here ((looks_findIn X hs).here ?_)))))
  refine wpAny_bind (wpAny_askSetting (wpAny_ite ?_))
  have fin : wpAny M A (call (.builtin id) ([.ref x] ++ args) >>= fun v => pure (some v)) Q E s := wpAny_bind (wpAny_mono h (fun v s' h' => wpAny_pure h') fun _ _ h' => h')
  split
  · exact wpAny_bind ((Looks.of_pure (hb _)).here (wpAny_pure (by exact fin)))
  · exact wpAny_tryCatch (wpAny_bind ((Looks.of_pure (hb _)).here (wpAny_pure (by exact fin))))
/-- object.__ne__ by an own __eq__ that answers True or False -/
theorem sq_one {b : Value} {Q : Value → Shared → Prop} (hu : A.in1.units < cLine) (X : K.In s.heap) (I : InstAt s.heap x ox C od) (hm : mroIn K C (.type "object") = some true) (hn : findIn K (.ref C) "__ne__" = some (some (.builtin "object.__ne__")))
    (hs : findIn K (.ref C) "__eq__" = some (some (.ref f))) (hf : isFn K (.ref f) = true)
    (h : wpAny (model prog w) A.in1 (call (.ref f) [.ref x, b]) (fun v s' => ∃ r, v = .bool r ∧ Q (.bool (!r)) s') E s) : wpAny (model prog w) A (tryCompare (.ref x) "__ne__" b) (fun r s' => ∃ v, r = some v ∧ Q v s') E s := by
  unfold tryCompare
  refine wpAny_bind (sq_bound X I hn (by intro self; exact PySem.F.slot_tuple_iterator_ne.bind self) (wpAny_call (codeAny_call_builtin PySem.F.slot_tuple_iterator_ne.plain PySem.F.cmpEntry_ne (check_slot (i := "object.__ne__") (owner := "object") (n := "__ne__") PySem.F.cmpKind_ne PySem.F.cmpSplit_ne (I.type.andThen (looks_mroIn X hm)) (PySem.F.cmpArgs_ne _ _) ?_))))
  unfold Builtin.«object.__ne__»
  refine wpAny_bind (m := slotArgs "__ne__" 1 _) (wpAny_pure ?_)
  refine wpAny_bind (m := cRoomFor _ _) (wpAny_cRoomFor hu ?_)
  refine wpAny_bind (m := callSpecialIfBound? (.ref x) (Str.ofString "__eq__") [b]) (ifBound_K X I hs hf (wpAny_mono h (fun r s' hq => ?_) fun _ _ y => y))
  obtain ⟨r', rfl, q⟩ := hq
  refine wpAny_bind (m := truthy (.bool _)) (wpAny_truthy_bool ?_)
  first | exact ⟨_, rfl, wpAny_pure q⟩ | exact wpAny_pure ⟨_, rfl, q⟩ | exact wpAny_pure (wpAny_pure ⟨_, rfl, q⟩)
end
section
variable {prog : Program} {w : World} {A : Around} {E : Value → Shared → Prop} {s : Shared} {K : Frag} {x C L f : Addr} {h₀ : Heap} {m : Str → Option Value} {ox : Obj} {od : Option Obj} {b tb : Value}
theorem sq_ne {Q : Value → Shared → Prop} (hu : A.units < cLine) (hu1 : A.in1.units < cLine) (F : Fr h₀ L s.heap m) (X₀ : K.In h₀) (I : InstAt s.heap x ox C od) (hb : Looks (model prog w) s.heap (typeOf b) tb) (hn : notFirst K C tb = true)
    (hm : mroIn K C (.type "object") = some true) (hne : findIn K (.ref C) "__ne__" = some (some (.builtin "object.__ne__"))) (hs : findIn K (.ref C) "__eq__" = some (some (.ref f))) (hf : isFn K (.ref f) = true)
    (h : wpAny (model prog w) A.in1 (call (.ref f) [.ref x, b]) (fun v s' => ∃ r, v = .bool r ∧ Q (.bool (!r)) s') E s) : wpAny (model prog w) A (richCompare .NotEq (.ref x) b) Q E s := by
  have X := X₀.keeps F.keep
  have one := sq_one (Q := Q) hu1 X I hm hne hs hf h
  unfold richCompare
  simp only [oneThing_ref]
  refine wpAny_holding (wpAny_bind (wpAny_cRoomFor hu ?_))
  refine wpAny_bind (I.type.here (wpAny_bind (hb.here ?_)))
  split
  · rename_i q
    have e : subIn K tb (.ref C) = some false := by
      rcases Bool.or_eq_true_iff.mp hn with e | e
      · rw [beq_iff_eq.mp e] at q; simp at q
      · exact beq_iff_eq.mp e
    refine wpAny_bind ((looks_subIn X e).here ?_)
    simp only [Bool.false_eq_true, if_false]
    refine wpAny_bind (wpAny_mono one (fun r s' z => ?_) fun _ _ e => e)
    obtain ⟨v, rfl, hq⟩ := z
    exact wpAny_pure hq
  · refine wpAny_bind (wpAny_pure ?_)
    simp only [Bool.false_eq_true, if_false]
    refine wpAny_bind (wpAny_mono one (fun r s' z => ?_) fun _ _ e => e)
    obtain ⟨v, rfl, hq⟩ := z
    exact wpAny_pure hq
end
end PySem.W
namespace Ssb
open PySem PySem.Spec PyProof.Rows L2
section
variable {X : Cx}
/-- an own __eq__ answers: what sp says of the two -/
def spB2 (R : V → V → Hp → Bool → Prop) : Sp := fun vs H Q _ => ∃ (a : Addr) (y : V) (b : Bool), vs = [.ref a, y] ∧ R (.ref a) y H b ∧ ∀ H', Evl.Ex H H' → Q (.bl b) H'
structure EqFacts (K : PySem.W.Frag) (C f : Addr) : Prop where
  fn : PySem.W.isFn K (.ref f) = true
  eq : PySem.W.findIn K (.ref C) "__eq__" = some (some (.ref f))
structure NeFacts (K : PySem.W.Frag) (C : Addr) : Prop where
  ne : PySem.W.findIn K (.ref C) "__ne__" = some (some (.builtin "object.__ne__"))
  ob : PySem.W.mroIn K C (.type "object") = some true
/-- x == y where x is an instance of C with an own __eq__; y of a type that is no subclass of C -/
def rOwnB (K : PySem.W.Frag) (C : Addr) (R : V → V → Hp → Bool → Prop) (g : Bool → Bool) : R2 := fun x y H Q => ∃ a dx fs t b, x = .ref a ∧ H a = some (.ins C dx fs) ∧ TyX K H y t ∧ PySem.W.notFirst K C t = true ∧ R x y H b ∧ ∀ H', Evl.Ex H H' → Q (.bl (g b)) H'
theorem op_ownEq {CX : CXT} {C f : Addr} {fd : FuncData} {ps : List Str} {n : Nat} {R : V → V → Hp → Bool → Prop} (hr : Room n X.A) (F : FnOk X.prog X.w X.K X.mg X.base CX n f fd ps (spB2 R))
    (hs : EqFacts X.K C f) (hb : Binds X.K fd ps []) (hx : Passes CX X (fun _ _ _ => False)) : OpR X (compareOp .Eq) (rOwnB X.K C R id) := by
  intro pins s σ H x y u v Q I rx ry d
  obtain ⟨a, dx, fs, t, b, rfl, ha, ty, hn, hR, q⟩ := d
  cases rx
  obtain ⟨mA, J, _⟩ := ins_get I.hok ha
  obtain ⟨od, J, _⟩ := J.look
  obtain ⟨m, hF⟩ := I.fr
  obtain ⟨P, Z, hP, _⟩ := kit_of I ry ty
  show wpAny (model X.prog X.w) X.A (richCompare .Eq (.ref a) v) (EP X pins σ Q) X.xe s
  refine PySem.W.cmp_K (op := .Eq) (tb := t) hr.units0 hF I.ok.mod.kin J (Z.ty _ _ I.kIn hP) hn hs.eq hs.fn ?_
  have hsp : spB2 R [.ref a, y] H (fun v H' => v = .bl b ∧ Evl.Ex H H') (fun _ _ _ => False) := ⟨a, y, b, rfl, hR, fun H' e => ⟨rfl, e⟩⟩
  have e0 : Env0 X.prog X.w X.K X.mg X.base X.A X.stack s H := I.env0
  have hl := F.len _ _ _ _ hsp
  have r2 : Vals [V.ref a, y] [Value.ref a, v] := .cons rfl (.cons ry .nil)
  refine wpAny_call (codeAny_mono (F.run X.A X.stack s H ⟨[.ref a, v], []⟩ [.ref a, v] [.ref a, y] _ (fun _ _ _ => False) hr e0 (by
    have := hb s [.ref a, v] I.kIn (by simpa using hl)
    simpa using this) r2 hsp) fun r s' hq => ?_)
  cases r with
  | error e => exact hx pins σ H s e s' I hq
  | ok fl =>
    cases fl with
    | ret w =>
      obtain ⟨z, H', I', rz, ez, ex⟩ := I.after hq
      subst ez
      cases rz
      exact ⟨.bl b, H', I', rfl, q H' ex⟩
    | next => exact False.elim hq
    | brk => exact False.elim hq
    | cont => exact False.elim hq
theorem op_ownNe {CX : CXT} {C f : Addr} {fd : FuncData} {ps : List Str} {n : Nat} {R : V → V → Hp → Bool → Prop} (hr : Room (n + 1) X.A) (F : FnOk X.prog X.w X.K X.mg X.base CX n f fd ps (spB2 R))
    (hs : EqFacts X.K C f) (hn2 : NeFacts X.K C) (hb : Binds X.K fd ps []) (hx : Passes CX X (fun _ _ _ => False)) : OpR X (compareOp .NotEq) (rOwnB X.K C R not) := by
  intro pins s σ H x y u v Q I rx ry d
  obtain ⟨a, dx, fs, t, b, rfl, ha, ty, hn, hR, q⟩ := d
  cases rx
  obtain ⟨mA, J, _⟩ := ins_get I.hok ha
  obtain ⟨od, J, _⟩ := J.look
  obtain ⟨m, hF⟩ := I.fr
  obtain ⟨P, Z, hP, _⟩ := kit_of I ry ty
  show wpAny (model X.prog X.w) X.A (richCompare .NotEq (.ref a) v) (EP X pins σ Q) X.xe s
  refine PySem.W.sq_ne (tb := t) hr.units0 hr.in1.units0 hF I.ok.mod.kin J (Z.ty _ _ I.kIn hP) hn hn2.ob hn2.ne hs.eq hs.fn ?_
  have hsp : spB2 R [.ref a, y] H (fun v H' => v = .bl b ∧ Evl.Ex H H') (fun _ _ _ => False) := ⟨a, y, b, rfl, hR, fun H' e => ⟨rfl, e⟩⟩
  have e0 : Env0 X.prog X.w X.K X.mg X.base X.A.in1 X.stack s H := by
    have e := I.env0
    exact ⟨e.frames, e.mod, e.bs, e.bsz, e.funs, e.frf, e.hok, e.bare⟩
  have hl := F.len _ _ _ _ hsp
  have r2 : Vals [V.ref a, y] [Value.ref a, v] := .cons rfl (.cons ry .nil)
  refine wpAny_call (codeAny_mono (F.run X.A.in1 X.stack s H ⟨[.ref a, v], []⟩ [.ref a, v] [.ref a, y] _ (fun _ _ _ => False) hr.in1 e0 (by
    have := hb s [.ref a, v] I.kIn (by simpa using hl)
    simpa using this) r2 hsp) fun r s' hq => ?_)
  cases r with
  | error e => exact hx pins σ H s e s' I hq
  | ok fl =>
    cases fl with
    | ret w =>
      obtain ⟨z, H', I', rz, ez, ex⟩ := I.after hq
      subst ez
      cases rz
      exact ⟨b, rfl, .bl (!b), H', I', rfl, q H' ex⟩
    | next => exact False.elim hq
    | brk => exact False.elim hq
    | cont => exact False.elim hq
end
end Ssb

/-! Data of any form on the heap: None, bools, ints, texts, lists, tuples, dicts with int and text keys. -/
namespace Ssb
open PySem PySem.Spec PyProof.Rows L2
open Evl (Ex Ev EvT EvL EvA EvU)
inductive G where
  | non | bl (b : Bool) | int (i : Int) | str (s : Str) | lst (l : List G) | tup (l : List G) | dic (l : List (Key × G))
abbrev KG := Key × G
def kLen : Key → Nat
  | .inr s => s.length
  | .inl _ => 0
/-- keys of a dict: different, none longer than m -/
def okK (m : Nat) (l : List KG) : Prop := (l.map fun p : KG => p.1).Nodup ∧ ∀ p ∈ l, kLen p.1 ≤ m
/-- g stands at v: no deeper than n, nothing longer than m, its lists and dicts at places of S -/
def Rp (H : Hp) (m : Nat) : Nat → (Addr → Prop) → G → V → Prop
  | 0, _, _, _ => False
  | _ + 1, _, .non, v => v = .non
  | _ + 1, _, .bl b, v => v = .bl b
  | _ + 1, _, .int i, v => v = .int i
  | _ + 1, _, .str s, v => v = .str s ∧ s.length ≤ m
  | n + 1, S, .lst l, v => ∃ a xs, v = .ref a ∧ S a ∧ H a = some (.lst xs) ∧ l.length ≤ m ∧ Paired (fun d x => Rp H m n S d x) l xs
  | n + 1, S, .tup l, v => ∃ a xs, v = .ref a ∧ H a = some (.tup xs) ∧ l.length ≤ m ∧ Paired (fun d x => Rp H m n S d x) l xs
  | n + 1, S, .dic l, v => ∃ a es, v = .ref a ∧ S a ∧ H a = some (.dK es) ∧ l.length ≤ m ∧ okK m l ∧ Paired (fun (q : KG) (e : Key × V) => e.1 = q.1 ∧ Rp H m n (fun b => S b ∧ b ≠ a) q.2 e.2) l es
section
variable {H H' : Hp} {m m' : Nat}
theorem rp_to : ∀ {n : Nat} {S : Addr → Prop} {d : G} {v : V}, (∀ b o, H b = some o → (S b ∨ ∃ xs, o = .tup xs) → H' b = some o) → Rp H m n S d v → Rp H' m n S d v
  | 0, _, _, _, _, h => h.elim
  | n + 1, S, d, v, k, h => by
    cases d with
    | non => exact h
    | bl b => exact h
    | int i => exact h
    | str s => exact h
    | lst l =>
      obtain ⟨a, xs, e, s, ha, hl, p⟩ := h
      exact ⟨a, xs, e, s, k a _ ha (.inl s), hl, pair_imp p fun d x r => rp_to k r⟩
    | tup l =>
      obtain ⟨a, xs, e, ha, hl, p⟩ := h
      exact ⟨a, xs, e, k a _ ha (.inr ⟨xs, rfl⟩), hl, pair_imp p fun d x r => rp_to k r⟩
    | dic l =>
      obtain ⟨a, es, e, s, ha, hl, nd, p⟩ := h
      exact ⟨a, es, e, s, k a _ ha (.inl s), hl, nd, pair_imp p fun q x r => ⟨r.1, rp_to (fun b o hb z => k b o hb (z.imp (·.1) id)) r.2⟩⟩
theorem rp_ex {n : Nat} {S : Addr → Prop} {d : G} {v : V} (e : Ex H H') (h : Rp H m n S d v) : Rp H' m n S d v := rp_to (fun b o hb _ => e b o hb) h
theorem rp_S : ∀ {n : Nat} {S S' : Addr → Prop} {d : G} {v : V}, (∀ b, S b → S' b) → Rp H m n S d v → Rp H m n S' d v
  | 0, _, _, _, _, _, h => h.elim
  | n + 1, S, S', d, v, k, h => by
    cases d with
    | non => exact h
    | bl b => exact h
    | int i => exact h
    | str s => exact h
    | lst l =>
      obtain ⟨a, xs, e, s, ha, hl, p⟩ := h
      exact ⟨a, xs, e, k a s, ha, hl, pair_imp p fun d x r => rp_S k r⟩
    | tup l =>
      obtain ⟨a, xs, e, ha, hl, p⟩ := h
      exact ⟨a, xs, e, ha, hl, pair_imp p fun d x r => rp_S k r⟩
    | dic l =>
      obtain ⟨a, es, e, s, ha, hl, nd, p⟩ := h
      exact ⟨a, es, e, k a s, ha, hl, nd, pair_imp p fun q x r => ⟨r.1, rp_S (fun b z => ⟨k b z.1, z.2⟩) r.2⟩⟩
/-- deeper and longer -/
theorem rp_up : ∀ {n n' : Nat} {S : Addr → Prop} {d : G} {v : V}, n ≤ n' → m ≤ m' → Rp H m n S d v → Rp H m' n' S d v
  | 0, _, _, _, _, _, _, h => h.elim
  | n + 1, n', S, d, v, hn, hm, h => by
    obtain ⟨n', rfl⟩ : ∃ k, n' = k + 1 := ⟨n' - 1, by omega⟩
    have hn : n ≤ n' := by omega
    cases d with
    | non => exact h
    | bl b => exact h
    | int i => exact h
    | str s => exact ⟨h.1, Nat.le_trans h.2 hm⟩
    | lst l =>
      obtain ⟨a, xs, e, s, ha, hl, p⟩ := h
      exact ⟨a, xs, e, s, ha, Nat.le_trans hl hm, pair_imp p fun d x r => rp_up hn hm r⟩
    | tup l =>
      obtain ⟨a, xs, e, ha, hl, p⟩ := h
      exact ⟨a, xs, e, ha, Nat.le_trans hl hm, pair_imp p fun d x r => rp_up hn hm r⟩
    | dic l =>
      obtain ⟨a, es, e, s, ha, hl, nd, p⟩ := h
      exact ⟨a, es, e, s, ha, Nat.le_trans hl hm, ⟨nd.1, fun p hp => Nat.le_trans (nd.2 p hp) hm⟩, pair_imp p fun q x r => ⟨r.1, rp_up hn hm r.2⟩⟩
theorem rp_dom : ∀ {n : Nat} {S : Addr → Prop} {d : G} {v : V}, Rp H m n S d v → Rp H m n (fun b => S b ∧ H b ≠ none) d v
  | 0, _, _, _, h => h.elim
  | n + 1, S, d, v, h => by
    have some_ : ∀ {a : Addr} {o : HO}, H a = some o → H a ≠ none := fun {a o} h e => by rw [e] at h; cases h
    cases d with
    | non => exact h
    | bl b => exact h
    | int i => exact h
    | str s => exact h
    | lst l =>
      obtain ⟨a, xs, e, s, ha, hl, p⟩ := h
      exact ⟨a, xs, e, ⟨s, some_ ha⟩, ha, hl, pair_imp p fun d x r => rp_dom r⟩
    | tup l =>
      obtain ⟨a, xs, e, ha, hl, p⟩ := h
      exact ⟨a, xs, e, ha, hl, pair_imp p fun d x r => rp_dom r⟩
    | dic l =>
      obtain ⟨a, es, e, s, ha, hl, nd, p⟩ := h
      exact ⟨a, es, e, ⟨s, some_ ha⟩, ha, hl, nd, pair_imp p fun q x r => ⟨r.1, rp_S (fun b z => ⟨⟨z.1.1, z.2⟩, z.1.2⟩) (rp_dom r.2)⟩⟩
theorem rp_lock {n : Nat} {S : Addr → Prop} {d : G} {v : V} {a : Addr} {es : List (Key × V)} {u : HO} (ha : H a = some (.dK es)) (hS : ∀ b, S b → b ≠ a) (h : Rp H m n S d v) : Rp (upd H a u) m n S d v :=
  rp_to (fun b o hb z => by
    have ne : b ≠ a := by
      rcases z with z | ⟨xs, rfl⟩
      · exact hS b z
      · intro e; rw [e, ha] at hb; cases hb
    rw [upd_ne ne]; exact hb) h
theorem rp_upd {n : Nat} {S : Addr → Prop} {d : G} {v : V} {a : Addr} {o u : HO} (ha : H a = some o) (no : ∀ xs, o ≠ .tup xs) (hS : ∀ b, S b → b ≠ a) (h : Rp H m n S d v) : Rp (upd H a u) m n S d v :=
  rp_to (fun b o' hb z => by
    have ne : b ≠ a := by
      rcases z with z | ⟨xs, rfl⟩
      · exact hS b z
      · intro e; rw [e, ha] at hb; cases hb; exact no xs rfl
    rw [upd_ne ne]; exact hb) h
theorem rp_in {H1 H2 : Hp} {n : Nat} {S : Addr → Prop} {x : G} {v : V} {d : Addr} {es : List (Key × V)} {u : HO} (hd : H1 d = some (.dK es)) (e2 : Ex (upd H1 d u) H2) (h : Rp H1 m n (fun b => S b ∧ b ≠ d) x v) : Rp H2 m n (fun b => S b ∧ b ≠ d) x v :=
  rp_ex e2 (rp_lock hd (fun _ z => z.2) h)
theorem rp_pos {n : Nat} {S : Addr → Prop} {d : G} {v : V} (h : Rp H m n S d v) : ∃ k, n = k + 1 := by
  cases n with
  | zero => exact h.elim
  | succ n => exact ⟨n, rfl⟩
end
def kG : Key → G
  | .inr s => .str s
  | .inl i => .int i
theorem rp_key {H : Hp} {m n : Nat} {S : Addr → Prop} {k : Key} (h : kLen k ≤ m) : Rp H m (n + 1) S (kG k) (kV k) := by
  cases k with
  | inl i => exact (rfl : kV (Sum.inl i) = V.int i)
  | inr s => exact ⟨rfl, h⟩
/-! ### kinds -/
def gT : G → String
  | .non => "NoneType" | .bl _ => "bool" | .int _ => "int" | .str _ => "str" | .lst _ => "list" | .tup _ => "tuple" | .dic _ => "dict"
theorem rp_ty {K : PySem.W.Frag} {H : Hp} {m n : Nat} {S : Addr → Prop} {d : G} {v : V} (h : Rp H m n S d v) : TyOf K H v (.type (gT d)) := by
  obtain ⟨n, rfl⟩ := rp_pos h
  cases d with
  | non => have e : v = .non := h; subst e; exact .non
  | bl b => have e : v = .bl b := h; subst e; exact .bl b
  | int i => have e : v = .int i := h; subst e; exact .int i
  | str s => have e : v = .str s := h.1; subst e; exact .str s
  | lst l => obtain ⟨a, xs, rfl, _, ha, _⟩ := h; exact .lst ha
  | tup l => obtain ⟨a, xs, rfl, ha, _⟩ := h; exact .tup ha
  | dic l => obtain ⟨a, es, rfl, _, ha, _⟩ := h; exact .dK ha
/-- isinstance of a datum: what it says -/
def isK (g : G) (T : String) : Bool := (kitB (gT g) T).getD false
theorem kits : ∀ a ∈ ["NoneType", "bool", "int", "str", "list", "tuple", "dict"], ∀ b ∈ ["bool", "int", "str", "list", "tuple", "dict"], (kitB a b).isSome = true := by decide +kernel
theorem kit_some (g : G) {T : String} (h : T ∈ ["bool", "int", "str", "list", "tuple", "dict"]) : kitB (gT g) T = some (isK g T) := by
  have := kits (gT g) (by cases g <;> simp [gT]) T h
  unfold isK
  cases e : kitB (gT g) T with
  | none => rw [e] at this; cases this
  | some b => rfl
theorem ev_isG {K : PySem.W.Frag} {σ : L2.St} {H : Hp} {te : TE} {m n : Nat} {S : Addr → Prop} {d : G} {v : V} {T : String} (h : Ev te σ H v) (hr : Rp H m n S d v) (hT : T ∈ ["bool", "int", "str", "list", "tuple", "dict"] := by decide) : Ev (tCB (rIsi K) (tCons te (tCons (tC (.ty T)) tNil))) σ H (.bl (isK d T)) :=
  ev_isi h (fun H1 e1 => .base (rp_ty (rp_ex e1 hr))) (kit_ty (kit_some d hT))
/-! ### what a dict tells -/
def lkG (l : List KG) (k : Key) : Option G := (l.find? fun p => decide (p.1 = k)).map (·.2)
theorem lkG_cons (p : KG) (l : List KG) (k : Key) : lkG (p :: l) k = if p.1 = k then some p.2 else lkG l k := by
  unfold lkG
  rw [List.find?_cons]
  by_cases h : p.1 = k
  · rw [decide_eq_true h, if_pos h]; rfl
  · rw [decide_eq_false h, if_neg h]
theorem pair_lkG {F : G → V → Prop} : ∀ {l : List KG} {es : List (Key × V)}, Paired (fun (q : KG) (e : Key × V) => e.1 = q.1 ∧ F q.2 e.2) l es → ∀ k, (∃ d v, lkG l k = some d ∧ valV es k = some v ∧ F d v) ∨ (lkG l k = none ∧ valV es k = none)
  | _, _, .nil, k => .inr ⟨rfl, rfl⟩
  | q :: l, e :: es, .cons h t, k => by
    rw [lkG_cons, vV_cons, h.1]
    by_cases c : q.1 = k
    · rw [if_pos c, if_pos c]; exact .inl ⟨_, _, rfl, rfl, h.2⟩
    · rw [if_neg c, if_neg c]; exact pair_lkG t k
theorem lkG_mem : ∀ {l : List KG} {k : Key} {d : G}, lkG l k = some d → (k, d) ∈ l
  | p :: l, k, d, h => by
    rw [lkG_cons] at h
    by_cases c : p.1 = k
    · rw [if_pos c] at h; cases h; rw [← c]; exact List.mem_cons_self
    · rw [if_neg c] at h; exact List.mem_cons_of_mem _ (lkG_mem h)
theorem lkG_of : ∀ {l : List KG} {k : Key} {d : G}, (l.map fun p : KG => p.1).Nodup → (k, d) ∈ l → lkG l k = some d
  | p :: l, k, d, nd, h => by
    rw [List.map_cons, List.nodup_cons] at nd
    rw [lkG_cons]
    rcases List.mem_cons.mp h with h | h
    · subst h; rw [if_pos rfl]
    · rw [if_neg, lkG_of nd.2 h]
      intro e
      exact nd.1 (e ▸ List.mem_map.mpr ⟨_, h, rfl⟩)
theorem pair_keysG {F : KG → Key × V → Prop} {l : List KG} {es : List (Key × V)} (h : Paired (fun p e => e.1 = p.1 ∧ F p e) l es) : (es.map fun e : Key × V => e.1) = l.map fun p : KG => p.1 := by
  induction h with
  | nil => rfl
  | cons h t ih => rw [List.map_cons, List.map_cons, ih, h.1]
theorem valV_atK : ∀ {es : List (Key × V)} {i : Nat} {k : Key} {v : V}, (es.map fun e : Key × V => e.1).Nodup → es[i]? = some (k, v) → valV es k = some v
  | [], i, k, v, _, h => by simp at h
  | e :: es, 0, k, v, _, h => by
    simp at h; subst h
    rw [vV_cons, if_pos rfl]
  | e :: es, i + 1, k, v, nd, h => by
    have h2 : es[i]? = some (k, v) := by simpa using h
    rw [List.map_cons, List.nodup_cons] at nd
    rw [vV_cons, if_neg, valV_atK nd.2 h2]
    intro z
    refine nd.1 ?_
    rw [z]
    exact List.mem_map.mpr ⟨(k, v), List.mem_of_getElem? h2, rfl⟩
theorem vK_no : ∀ {es : List (Key × V)} {k : Key}, k ∉ (es.map fun e : Key × V => e.1) → valV es k = none
  | [], _, _ => rfl
  | e :: es, k, h => by
    rw [vV_cons, if_neg (fun z => h (by rw [← z]; exact List.mem_cons_self))]
    exact vK_no fun z => h (List.mem_cons_of_mem _ z)
/-! ### from data with text keys -/
mutual
def emb : D → G
  | .non => .non | .bl b => .bl b | .int i => .int i | .str s => .str s | .lst l => .lst (embL l) | .tup l => .tup (embL l) | .dic l => .dic (embD l)
def embL : List D → List G
  | [] => [] | d :: l => emb d :: embL l
def embD : List (Str × D) → List KG
  | [] => [] | p :: l => (Sum.inr p.1, emb p.2) :: embD l
end
theorem embL_eq : ∀ l : List D, embL l = l.map emb
  | [] => by rw [embL]; rfl
  | d :: l => by rw [embL, embL_eq l]; rfl
theorem embD_eq : ∀ l : List (Str × D), embD l = l.map fun p => ((Sum.inr p.1, emb p.2) : KG)
  | [] => by rw [embD]; rfl
  | d :: l => by rw [embD, embD_eq l]; rfl
/-- nothing longer than m, no name twice -/
def szD (m : Nat) : Nat → D → Prop
  | n + 1, .str s => s.length ≤ m
  | n + 1, .lst l => l.length ≤ m ∧ ∀ x ∈ l, szD m n x
  | n + 1, .tup l => l.length ≤ m ∧ ∀ x ∈ l, szD m n x
  | n + 1, .dic l => l.length ≤ m ∧ (l.map (·.1)).Nodup ∧ ∀ p ∈ l, p.1.length ≤ m ∧ szD m n p.2
  | _, _ => True
theorem pair_map2 {α β γ δ : Type} {F : α → β → Prop} {F' : γ → δ → Prop} {f : α → γ} {g : β → δ} : ∀ {l : List α} {k : List β}, Paired F l k → (∀ a ∈ l, ∀ b, F a b → F' (f a) (g b)) → Paired F' (l.map f) (k.map g)
  | _, _, .nil, _ => .nil
  | _, _, .cons h t, k => .cons (k _ List.mem_cons_self _ h) (pair_map2 t fun a ha b hb => k a (List.mem_cons_of_mem _ ha) b hb)
theorem rp_emb {H : Hp} {m : Nat} : ∀ {n : Nat} {S : Addr → Prop} {d : D} {v : V}, Rep H n S d v → szD m n d → Rp H m n S (emb d) v
  | 0, _, _, _, h, _ => h.elim
  | n + 1, S, d, v, h, z => by
    cases d with
    | non => rw [emb]; exact h
    | bl b => rw [emb]; exact h
    | int i => rw [emb]; exact h
    | str s => rw [emb]; exact ⟨h, z⟩
    | lst l =>
      obtain ⟨a, xs, e, s, ha, hl, p⟩ := h
      rw [emb, embL_eq]
      refine ⟨a, xs, e, s, ha, by rw [List.length_map]; exact z.1, ?_⟩
      have := pair_map2 (F' := fun d x => Rp H m n S d x) (f := emb) (g := _root_.id) p fun d hd x r => rp_emb r (z.2 d hd)
      rw [List.map_id] at this; exact this
    | tup l =>
      obtain ⟨a, xs, e, ha, hl, p⟩ := h
      rw [emb, embL_eq]
      refine ⟨a, xs, e, ha, by rw [List.length_map]; exact z.1, ?_⟩
      have := pair_map2 (F' := fun d x => Rp H m n S d x) (f := emb) (g := _root_.id) p fun d hd x r => rp_emb r (z.2 d hd)
      rw [List.map_id] at this; exact this
    | dic l =>
      obtain ⟨a, es, e, s, ha, hl, p⟩ := h
      rw [emb, embD_eq]
      refine ⟨a, es, e, s, ha, by rw [List.length_map]; exact z.1, ?_, ?_⟩
      · refine ⟨?_, fun p hp => ?_⟩
        · have : ((l.map fun p => ((Sum.inr p.1, emb p.2) : KG)).map fun p : KG => p.1) = (l.map (·.1)).map Sum.inr := by rw [List.map_map, List.map_map]; rfl
          rw [this]
          exact List.Pairwise.map _ (fun a b h z => h (Sum.inr.inj z)) z.2.1
        · obtain ⟨q, hq, rfl⟩ := List.mem_map.mp hp
          exact (z.2.2 q hq).1
      · have := pair_map2 (F' := fun (q : KG) (e : Key × V) => e.1 = q.1 ∧ Rp H m n (fun b => S b ∧ b ≠ a) q.2 e.2) (f := fun p : Str × D => ((Sum.inr p.1, emb p.2) : KG)) (g := fun e : Key × V => e) p fun q hq x r => (show x.1 = Sum.inr q.1 ∧ Rp H m n (fun b => S b ∧ b ≠ a) (emb q.2) x.2 from ⟨r.1, rp_emb r.2 (z.2.2 q hq).2⟩)
        rw [List.map_id'] at this; exact this
end Ssb

/-! C(..) that may raise, at the caller's slots; try with two clauses, the first of which never fits, the second kept. -/
namespace Ssb
open PySem PySem.Spec L2 PyProof.Rows
def tMakeS (C : Addr) (sp : Sp) (W : WX) (t : TA) : TE := fun σ H Q => t σ H fun vs H1 => ∀ x dx, H1 x = none → H1 dx = none → dx ≠ x →
  sp (.ref x :: vs) (upd (upd H1 dx (.own x)) x (.ins C dx [])) (fun v H2 => v = .non ∧ Q (.ref x) H2) fun cls d H' => W cls d σ H'
section
variable {X : Cx} {W : WX} {nm : Str} {k j : Nat} {ps : List Str} {sp : Sp} {f C : Addr} {fd : FuncData} {p pos : Pos} {e : Expr} {es : List Expr} {t : TA}
theorem pmkX (G : MtX X.prog X.w X.K X.mg X.base C "__init__" k ps sp f fd) (tk : Takes X W) (h1 : PySem.W.makesIn X.K C = true) (h2 : PySem.W.keepIn X.K (.ref C) = true) (h3 : X.mg nm = some (.ref C)) (hr : Room j X.A) (ha : PA X (e :: es) t) (hj : k + 1 ≤ j := by first | decide | omega) (hg : Gl X nm := by rfl) (hdb : (nm == ("__debug__" : Str)) = false := by decide)
    (he : starEach (e :: es) X.env = (false, eval e X.env) :: starEach es X.env := by rfl) (hpl : (backTo pos (starEach es X.env)).any (·.1) = false := by rfl) : PE X (.Call (.Name nm p) (e :: es) [] pos) (tMakeS C sp W t) := by
  refine ⟨fun pins s σ H Q I h => wpAny_Call_Name_kw (ld_glob I hg h3 (PySem.W.callWith_K (h₀ := X.base) I.ok.mod.kin h2 (thn (ha.run pos pins s σ H _ I h) fun us s1 ⟨vs, H1, I1, r, q⟩ => ⟨I1.kIn, ?_⟩) he hpl) hdb)⟩
  have young := q (s1.heap.objs.size + 1) s1.heap.objs.size (I1.hok.fresh (Nat.le_succ _)) (I1.hok.fresh (Nat.le_refl _)) (Nat.ne_of_lt (Nat.lt_succ_self _))
  have J := Inv.made (C := C) I1
  have rel : Vals (V.ref (s1.heap.objs.size + 1) :: vs) (Value.ref (s1.heap.objs.size + 1) :: us) := .cons rfl r
  have len : (Value.ref (s1.heap.objs.size + 1) :: us ++ []).length = ps.length := by rw [List.append_nil, ← rel.length, G.ok.len _ _ _ _ young]
  have bnd := G.bd _ (Value.ref (s1.heap.objs.size + 1) :: us) J.kIn len
  rw [List.append_nil] at bnd
  show wpAny _ _ (call (.ref C) us) _ _ _
  refine wpAny_call (make_map (f := f) I1.kIn h1 G.mt.at_ (beq_iff_eq.mp G.mt.fn) (codeAny_mono (G.ok.run _ X.stack _ _ ⟨Value.ref (s1.heap.objs.size + 1) :: us, []⟩ _ _ _ _ ((hr.mono hj).make C us []) (J.env0.make C us []) bnd rel young) fun res s2 after => ?_))
  cases res with
  | error er => exact passes_at tk σ pins _ _ er s2 J after
  | ok fl =>
    cases fl with
    | ret u =>
      obtain ⟨v, H', I3, rv, ev, q3⟩ := J.after after
      subst ev
      exact ⟨rv, ⟨V.ref (s1.heap.objs.size + 1), H', I3, rfl, q3⟩⟩
    | next => exact False.elim after
    | brk => exact False.elim after
    | cont => exact False.elim after
end
section
variable {X : Cx} {x0 x n : Str} {c0 c : Value} {i : Nat} {body suite suite0 : List Stmt} {b0 b₀ : Stmt} {np0 np pos pos0 pos' : Pos} {tb : WX → TS} {ts : Addr → Value → Option Addr → TS} {Wout : WX}
/-- the first clause is asked and does not fit -/
def wSkip (K : PySem.W.Frag) (c0 : Value) (W : WX) : WX := fun cls d σ H => PySem.W.exmOne K cls c0 = some false ∧ W cls d σ H
theorem ps_try_keep2 (hs : X.stack = X.env :: X.outer) (hf : X.env.frame = some X.env.locals) (hN : X.N.Nodup) (hi : X.N[i]? = some n) (hln : X.env.kindOf n = some .local) (hc0 : Names X x0 c0) (hc : Names X x c) (tk : Takes X Wout)
    (hb : ∀ (W : WX) (pn : List (Addr × Obj)) (xe : Value → Shared → Prop), Takes (X.tr pn xe) W → PassesOwn (model X.prog X.w) X.A X.env xe → PSs (X.tr pn xe) body (tb W))
    (hsu : ∀ (a : Addr) (oe : Obj) (cls : Value) (d : Option Addr) (pn : List (Addr × Obj)), Zc cls d oe → (∃ vs, oe.data = .fields vs) → PSs (X.suite a ((a, oe) :: pn)) (b₀ :: suite) (ts a cls d)) :
    PS X (.Try body [.ExceptHandler (some (.Name x0 np0)) none (b0 :: suite0) pos0, .ExceptHandler (some (.Name x np)) (some n) (b₀ :: suite) pos'] [] [] pos) (fun D σ H => tb (wSkip X.K c0 (wKeep X.K c i ts Wout D)) D σ H) := by
  refine ⟨fun pins s σ H D I h => ?_⟩
  have ok := I.ok
  have fr0 : X.A.frames = some (X.env :: X.outer) := by rw [ok.frames, hs]
  refine wpAny_Try_except (wpAny_mono ((hb (wSkip X.K c0 (wKeep X.K c i ts Wout D)) (X.pn ++ pins) (fun e s₁ => wpAny (model X.prog X.w) X.A (noteFrame e X.env) (fun _ s₂ => wpAny (model X.prog X.w) X.A (setFlight e none) (fun _ s₃ => wpAny (model X.prog X.w) X.A (handleBy e X.env [.ExceptHandler (some (.Name x0 np0)) none (b0 :: suite0) pos0, .ExceptHandler (some (.Name x np)) (some n) (b₀ :: suite) pos']) (SP X pins D) X.xe s₃) X.xe s₂) X.xe s₁) (fun u s' xx => ?_) PassesOwn.looking).run [] s σ H D (I.toTry _) h) (fun f s1 hsp => ?_) (fun e s1 he => he))
  · obtain ⟨a, B, sI, pins', σ1, HH, cls, d, rfl, J0, nb, up, sky, na, os, ag, hb0, b, hb1, hyes, hno⟩ := xx
    have J : Inv X pins σ1 HH sI := J0.ofTry ok
    rw [show (X.tr (X.pn ++ pins) _).stack = X.env :: X.outer from hs] at sky
    refine Sky.land Zc.steady fr0 hf sky fun h3 fl3 up3 => ?_
    have J3 : Inv X pins σ1 HH { s' with heap := h3 } := J.landed nb fl3.1 (up.trans up3) os ag
    obtain ⟨oe3, vs3, he3, hz3, hd3⟩ := fl3.there
    have nfr : a ∉ frs (X.env :: X.outer) := fun hm => by
      obtain ⟨_, o', e', hnf⟩ := fl3.2.2.1.mem hm
      rw [he3] at e'; cases e'; exact hnf _ hd3
    have nL : a ≠ X.env.locals := fun z => nfr (List.mem_filterMap.mpr ⟨X.env, List.mem_cons_self, (by rw [hf, z])⟩)
    have nF : a ∉ X.fs := fun hm => (List.mem_filterMap.mp hm).elim fun e he => nfr (List.mem_filterMap.mpr ⟨e, List.mem_cons_of_mem _ he.1, he.2⟩)
    have young : sI.heap.get? a = none := by
      cases hg : sI.heap.get? a with
      | none => rfl
      | some o =>
        have := nb a o hg (by rw [show (X.tr (X.pn ++ pins) _).stack = X.env :: X.outer from hs]; exact nfr)
        rw [fl3.2.1] at this; cases this
    have n0 : ∀ b o, X.s_0.heap.get? b = some o → b ∉ X.ex → b ≠ a := fun b o q hx z => by
      obtain ⟨o', h'⟩ := J.base.there b o q hx
      rw [z, young] at h'; cases h'
    have np0 : ∀ p ∈ X.pn ++ pins, p.1 ≠ a := fun p hp z => by
      have := (J.pin p hp).1
      rw [z, young] at this; cases this
    have S3 := J3.suite he3 hd3 na nL nF
    have looks : PySem.W.Looks (model X.prog X.w) h3 (typeOf (.ref a)) cls := fun A Q E s k q => wpAny_typeOf_ref (k _ _ he3) (by rw [hz3.1]; exact q)
    have LM := PySem.W.exm_one (M := model X.prog X.w) J3.kIn looks hb1
    have LM0 := PySem.W.exm_one (M := model X.prog X.w) J3.kIn looks hb0
    have ask : ∀ {y : Str} {cy : Value} {npy : Pos}, Names X y cy → ∀ {Q : Value → Shared → Prop} {E : Value → Shared → Prop}, Q cy { s' with heap := h3 } → wpAny (model X.prog X.w) (X.A.mark (some (.ref a))) (eval (.Name y npy) X.env) Q E { s' with heap := h3 } := fun {y cy npy} hy {Q E} q => by
      obtain ⟨hg, hdb, hm | ⟨hm, hv, hnn⟩⟩ := hy
      · exact ld_glob S3 hg hm q hdb
      · exact ld_blt S3 hg hm hv q hnn hdb
    refine wpAny_handleBy_cons (codeAny_handlers_test (ask hc0 (LM0.here ?_))) (by intro q; cases q)
    show wpAny _ X.A (handleBy (.ref a) X.env [.ExceptHandler (some (.Name x np)) (some n) (b₀ :: suite) pos']) _ _ _
    refine wpAny_handleBy_cons (codeAny_handlers_test (ask hc (LM.here ?_))) (by intro q; cases q)
    cases b with
    | true =>
      refine codeAny_handlers_suite_as (HandSPX.lands_againZ fl3 fun h4 fl4 up4 => ?_)
      have J4 : Inv X pins σ1 HH { s' with heap := h4 } := J.landed nb fl4.1 ((up.trans up3).trans up4) os ag
      obtain ⟨oe4, vs4, he4, hz4, hd4⟩ := fl4.there
      refine store_ok (X := X.suite a ((a, oe4) :: (X.pn ++ pins))) (v := .ref a) (J4.suite he4 hd4 na nL nF) hN hi (.inl hln) rfl (fun s5 S5 => ?_) (.inr hln)
      refine wpAny_mono ((hsu a oe4 cls d (X.pn ++ pins) hz4 ⟨_, hd4⟩).run [] s5 _ HH _ S5 (hyes rfl a na)) (fun f s6 hsp => ?_) (fun _ _ z => False.elim z)
      have fin : ∀ {σ6 : L2.St} {H6 : Hp} {Q : Shared → Prop}, Inv (X.suite a ((a, oe4) :: (X.pn ++ pins))) [] σ6 H6 s6 → (∀ s7, Inv X pins (σ6.set i none) (upd H6 a (exk a cls d)) s7 → Q s7) →
          wpAny (model X.prog X.w) X.A (do bindName X.env n .none; unbindBehindTheSuite X.env n pos') (fun _ s7 => Q s7) X.xe s6 := fun {σ6 H6 Q} S6 hq => by
        have I6 : Inv X ((a, oe4) :: pins) σ6 H6 s6 := ⟨ok, S6.os, S6.bare, S6.base, S6.loc, S6.cell, S6.free, S6.freeC, fun p hp => S6.pin p (by
          rw [List.append_nil]
          rcases List.mem_append.mp hp with h | h
          · exact List.mem_cons_of_mem _ (List.mem_append_left _ h)
          · rcases List.mem_cons.mp h with h | h
            · rw [h]; exact List.mem_cons_self
            · exact List.mem_cons_of_mem _ (List.mem_append_right _ h)), S6.hok, S6.len⟩
        exact gone_ok I6 hN hi hln fun s7 J7 => hq s7 (adopt J7 hd4 hz4 n0 np0)
      cases f with
      | ret u => obtain ⟨v6, σ6, H6, S6, r6, q6⟩ := hsp; exact fin S6 fun s7 J7 => ⟨_, _, _, J7, r6, q6⟩
      | next => obtain ⟨σ6, H6, S6, q6⟩ := hsp; exact fin S6 fun s7 J7 => ⟨_, _, J7, q6⟩
      | brk => obtain ⟨σ6, H6, S6, q6⟩ := hsp; exact fin S6 fun s7 J7 => ⟨_, _, J7, q6⟩
      | cont => obtain ⟨σ6, H6, S6, q6⟩ := hsp; exact fin S6 fun s7 J7 => ⟨_, _, J7, q6⟩
    | false =>
      show wpAny _ X.A (handleBy (.ref a) X.env []) _ _ _
      obtain ⟨k1, k2, k3, oe, vs, T, oT, ts', he, hz, hd, h1, hr⟩ := id fl3
      refine wpAny_handleBy_nil ?_
      unfold PySem.passOn
      refine wpAny_bind (wpAny_field he hd h1 ?_)
      rw [if_neg (show ¬ ((Value.ref T == Value.none) = true) by simp)]
      have go : wpAny (model X.prog X.w) X.A (setFlight (.ref a) X.env.frame) (fun _ s4 => wpAny (model X.prog X.w) X.A (throw (.ref a) : Sem Flow) (SP X pins D) X.xe s4) X.xe { s' with heap := h3 } := by
        rw [hf]
        exact HandSPX.setFlight_upZ fl3 fun h4 hh4 up4 => wpAny_throw (tk _ _ ⟨a, B, sI, pins, σ1, HH, cls, d, rfl, J, nb, (up.trans up3).trans up4, .inr (.inr (by rw [hs]; exact hh4)), na, os, ag, hno rfl⟩)
      first
        | exact wpAny_bind go
        | exact wpAny_bind (wpAny_pure (wpAny_bind go))
  · cases f with
    | ret u => obtain ⟨v, σ1, HH, J, r, q⟩ := hsp; exact ⟨v, σ1, HH, J.ofTry ok, r, q⟩
    | next => obtain ⟨σ1, HH, J, q⟩ := hsp; exact wpAny_execs_nil ⟨σ1, HH, J.ofTry ok, q⟩
    | brk => obtain ⟨σ1, HH, J, q⟩ := hsp; exact ⟨σ1, HH, J.ofTry ok, q⟩
    | cont => obtain ⟨σ1, HH, J, q⟩ := hsp; exact ⟨σ1, HH, J.ofTry ok, q⟩
end
end Ssb

/-! A run that is good whatever the sleeping generators hold leaves the sleeping generators as they are. -/
namespace Ssg
open PySem PySem.Spec PyProof.Rows
/-- the same generator, but whoever wakes it is stuck -/
def dead : GenState → GenState
  | .suspended _ l c p fs cl => .suspended (fun _ => .unsupported "") l c p fs cl
  | x => x
def asleep : GenState → Bool
  | .suspended .. => true
  | _ => false
def Clean : GenState → Prop
  | .suspended _ _ _ _ fs _ => splitAtGen fs = none
  | _ => True
def CleanEnd : End → Prop
  | .susp _ _ _ _ _ _ fs => splitAtGen fs = none
  | _ => True
theorem clean_state {e : End} (h : CleanEnd e) : Clean e.genState := by cases e <;> exact h
theorem seen_dead (x : GenState) : (dead x).seen = x.seen := by cases x <;> rfl
theorem bare_dead (x : GenState) : (dead x).bare = x.bare := by cases x <;> rfl
theorem asleep_dead (x : GenState) : asleep (dead x) = asleep x := by cases x <;> rfl
/-- asleep in G0: as they were; all others the same in both -/
structure Sim (G0 G G' : Array GenState) : Prop where
  sz : G.size = G'.size
  old : ∀ (i : Nat) x, G0[i]? = some x → asleep x = true → G[i]? = some x ∧ G'[i]? = some (dead x)
  new : ∀ (i : Nat), (∀ x, G0[i]? = some x → asleep x = false) → G'[i]? = G[i]? ∧ ∀ x, G[i]? = some x → Clean x
theorem Sim.start (G0 : Array GenState) : Sim G0 G0 (G0.map dead) where
  sz := by simp
  old := fun i x h _ => ⟨h, by rw [Array.getElem?_map, h]; rfl⟩
  new := fun i h => by
    refine ⟨?_, fun x hx => ?_⟩
    · rw [Array.getElem?_map]
      cases e : G0[i]? with
      | none => rfl
      | some x =>
        have := h x e
        cases x <;> first | rfl | cases this
    · have := h x hx
      cases x <;> first | trivial | cases this
theorem Sim.or {G0 G G' : Array GenState} (h : Sim G0 G G') (i : Nat) : (∃ x, G0[i]? = some x ∧ asleep x = true) ∨ (∀ x, G0[i]? = some x → asleep x = false) := by
  cases e : G0[i]? with
  | none => exact .inr fun x hx => nomatch hx
  | some x =>
    cases c : asleep x with
    | true => exact .inl ⟨x, rfl, c⟩
    | false => exact .inr fun y hy => by cases hy; exact c
theorem Sim.at {G0 G G' : Array GenState} (h : Sim G0 G G') {i : Nat} {y : GenState} (hy : G'[i]? = some y) :
    (∃ x, G[i]? = some x ∧ y = dead x ∧ asleep x = true ∧ G0[i]? = some x) ∨ (G[i]? = some y ∧ Clean y ∧ ∀ x, G0[i]? = some x → asleep x = false) := by
  rcases h.or i with ⟨x, hx, ha⟩ | hn
  · obtain ⟨h1, h2⟩ := h.old i x hx ha
    rw [hy] at h2
    exact .inl ⟨x, h1, Option.some.inj h2, ha, hx⟩
  · obtain ⟨h1, h2⟩ := h.new i hn
    rw [hy] at h1
    exact .inr ⟨h1.symm, h2 y h1.symm, hn⟩
theorem Sim.set {G0 G G' : Array GenState} (h : Sim G0 G G') {i : Nat} {y : GenState} (hn : ∀ x, G0[i]? = some x → asleep x = false) (hc : Clean y) : Sim G0 (G.setIfInBounds i y) (G'.setIfInBounds i y) where
  sz := by simp [h.sz]
  old := fun j x hj ha => by
    have ne : i ≠ j := fun e => by subst e; rw [hn x hj] at ha; cases ha
    rw [Array.getElem?_setIfInBounds_ne ne, Array.getElem?_setIfInBounds_ne ne]
    exact h.old j x hj ha
  new := fun j hj => by
    by_cases e : i = j
    · subst e
      rw [Array.getElem?_setIfInBounds_self, Array.getElem?_setIfInBounds_self, h.sz]
      refine ⟨rfl, fun x hx => ?_⟩
      split at hx
      · cases hx; exact hc
      · cases hx
    · rw [Array.getElem?_setIfInBounds_ne e, Array.getElem?_setIfInBounds_ne e]
      exact h.new j hj
theorem Sim.push {G0 G G' : Array GenState} (h : Sim G0 G G') {y : GenState} (hc : Clean y) : Sim G0 (G.push y) (G'.push y) where
  sz := by simp [h.sz]
  old := fun j x hj ha => by
    obtain ⟨h1, h2⟩ := h.old j x hj ha
    have l1 := (Array.getElem?_eq_some_iff.mp h1).1
    have l2 := (Array.getElem?_eq_some_iff.mp h2).1
    rw [Array.getElem?_push, Array.getElem?_push, if_neg (Nat.ne_of_lt l1), if_neg (Nat.ne_of_lt l2)]
    exact ⟨h1, h2⟩
  new := fun j hj => by
    rw [Array.getElem?_push, Array.getElem?_push, ← h.sz]
    by_cases e : j = G.size
    · rw [if_pos e, if_pos e]
      exact ⟨rfl, fun x hx => by cases hx; exact hc⟩
    · rw [if_neg e, if_neg e]
      exact h.new j hj
theorem split_app {a b : List Frame} (ha : splitAtGen a = none) (hb : splitAtGen b = none) : splitAtGen (a ++ b) = none := by
  induction a with
  | nil => exact hb
  | cons F a ih =>
    cases F with
    | gen => simp [splitAtGen] at ha
    | ret =>
      simp only [splitAtGen, List.cons_append, Option.map_eq_none_iff] at ha ⊢
      exact ih ha
theorem split_tail {F : Frame} {a : List Frame} (h : splitAtGen (F :: a) = none) : splitAtGen a = none := by
  cases F with
  | gen => simp [splitAtGen] at h
  | ret => simpa only [splitAtGen, Option.map_eq_none_iff] using h
theorem no_run {M : Model} {Γ : PySem.Ctx} {p : Pos} {wh : String} {fs : List Frame} {s s' : Shared} {e : End} (h : Runs M Γ p (.unsupported wh) fs s e s') : False := by
  generalize ht : (.unsupported wh : Sem Fin) = t at h
  induction h with
  | segRet _ _ ih _ => exact ih ht
  | segGen _ _ ih _ => exact ih ht
  | segSuspOut _ _ ih => exact ih ht
  | segSuspGen _ _ _ _ ih _ => exact ih ht
  | _ => cases ht
theorem sim_runs {M : Model} {G0 : Array GenState} {Γ : PySem.Ctx} {p : Pos} {t : Sem Fin} {fs : List Frame} {s s1 : Shared} {e : End} (h : Runs M Γ p t fs s e s1) :
    splitAtGen fs = none → ∀ G, Sim G0 G s.gens → ∃ G1, Sim G0 G1 s1.gens ∧ Runs M Γ p t fs { s with gens := G } e { s1 with gens := G1 } ∧ CleanEnd e := by
  induction h with
  | done => exact fun _ G hG => ⟨G, hG, .done, trivial⟩
  | raise => exact fun _ G hG => ⟨G, hG, .raise, trivial⟩
  | again hq _ ih => exact fun hf G hG => let ⟨G1, h1, h2, h3⟩ := ih hf G hG; ⟨G1, h1, .again hq h2, h3⟩
  | rule _ ih => exact fun hf G hG => let ⟨G1, h1, h2, h3⟩ := ih hf G hG; ⟨G1, h1, .rule h2, h3⟩
  | «at» _ ih => exact fun hf G hG => let ⟨G1, h1, h2, h3⟩ := ih hf G hG; ⟨G1, h1, .at h2, h3⟩
  | load hl _ ih => exact fun hf G hG => let ⟨G1, h1, h2, h3⟩ := ih hf G hG; ⟨G1, h1, .load hl h2, h3⟩
  | update hl _ ih => exact fun hf G hG => let ⟨G1, h1, h2, h3⟩ := ih hf G hG; ⟨G1, h1, .update hl h2, h3⟩
  | loadIfAlive _ ih => exact fun hf G hG => let ⟨G1, h1, h2, h3⟩ := ih hf G hG; ⟨G1, h1, .loadIfAlive h2, h3⟩
  | point _ ih => exact fun hf G hG => let ⟨G1, h1, h2, h3⟩ := ih hf G hG; ⟨G1, h1, .point h2, h3⟩
  | alloc _ ih => exact fun hf G hG => let ⟨G1, h1, h2, h3⟩ := ih hf G hG; ⟨G1, h1, .alloc h2, h3⟩
  | fresh _ ih => exact fun hf G hG => let ⟨G1, h1, h2, h3⟩ := ih hf G hG; ⟨G1, h1, .fresh h2, h3⟩
  | ask _ ih => exact fun hf G hG => let ⟨G1, h1, h2, h3⟩ := ih hf G hG; ⟨G1, h1, .ask h2, h3⟩
  | choose hn _ ih => exact fun hf G hG => let ⟨G1, h1, h2, h3⟩ := ih hf G hG; ⟨G1, h1, .choose hn h2, h3⟩
  | os _ ih => exact fun hf G hG => let ⟨G1, h1, h2, h3⟩ := ih hf G hG; ⟨G1, h1, .os h2, h3⟩
  | handled _ ih => exact fun hf G hG => let ⟨G1, h1, h2, h3⟩ := ih hf G hG; ⟨G1, h1, .handled h2, h3⟩
  | genState hg _ ih =>
    intro hf G hG
    obtain ⟨G1, h1, h2, h3⟩ := ih hf G hG
    rcases hG.at hg with ⟨x, hx, e, _⟩ | ⟨hx, _⟩
    · rw [e, seen_dead] at h2
      exact ⟨G1, h1, .genState hx h2, h3⟩
    · exact ⟨G1, h1, .genState hx h2, h3⟩
  | stack _ ih => exact fun hf G hG => let ⟨G1, h1, h2, h3⟩ := ih hf G hG; ⟨G1, h1, .stack h2, h3⟩
  | thread _ ih => exact fun hf G hG => let ⟨G1, h1, h2, h3⟩ := ih hf G hG; ⟨G1, h1, .thread h2, h3⟩
  | newGen _ ih =>
    intro hf G hG
    obtain ⟨G1, h1, h2, h3⟩ := ih hf _ (hG.push (y := .fresh _) trivial)
    refine ⟨G1, h1, .newGen ?_, h3⟩
    rw [show ({ heap := _, gens := G, drawn := _, toks := _, os := _ } : Shared).gens.size = _ from hG.sz]
    exact h2
  | call _ _ ih1 ih2 =>
    intro hf G hG
    obtain ⟨G1, h1, h2, _⟩ := ih1 rfl G hG
    obtain ⟨G2, q1, q2, q3⟩ := ih2 hf G1 h1
    exact ⟨G2, q1, .call h2 q2, q3⟩
  | callSusp _ ih =>
    intro hf G hG
    obtain ⟨G1, h1, h2, h3⟩ := ih rfl G hG
    exact ⟨G1, h1, .callSusp h2, split_app h3 rfl⟩
  | yield => exact fun _ G hG => ⟨G, hG, .yield, rfl⟩
  | resumeFresh hg _ hq _ ih1 ih2 =>
    intro hf G hG
    rcases hG.at hg with ⟨x, _, e, ha, _⟩ | ⟨hx, hc, hn⟩
    · cases x <;> cases e <;> cases ha
    · obtain ⟨G1, h1, h2, h3⟩ := ih1 rfl _ (hG.set (y := .running) hn trivial)
      obtain ⟨G2, q1, q2, q3⟩ := ih2 hf _ (h1.set hn (clean_state h3))
      exact ⟨G2, q1, .resumeFresh hx h2 hq q2, q3⟩
  | resumeSuspended hg hr hq _ ih1 ih2 =>
    intro hf G hG
    rcases hG.at hg with ⟨x, _, e, ha, _⟩ | ⟨hx, hc, hn⟩
    · cases x with
      | suspended => cases e; exact (no_run hr).elim
      | _ => cases ha
    · obtain ⟨G1, h1, h2, h3⟩ := ih1 hc _ (hG.set (y := .running) hn trivial)
      obtain ⟨G2, q1, q2, q3⟩ := ih2 hf _ (h1.set hn (clean_state h3))
      exact ⟨G2, q1, .resumeSuspended hx h2 hq q2, q3⟩
  | resumeJustStarted hg hv _ ih =>
    intro hf G hG
    rcases hG.at hg with ⟨x, _, e, ha, _⟩ | ⟨hx, hc, hn⟩
    · cases x <;> cases e <;> cases ha
    · obtain ⟨G1, h1, h2, h3⟩ := ih hf G hG
      exact ⟨G1, h1, .resumeJustStarted hx hv h2, h3⟩
  | resumeThrowFresh hg _ ih =>
    intro hf G hG
    rcases hG.at hg with ⟨x, _, e, ha, _⟩ | ⟨hx, hc, hn⟩
    · cases x <;> cases e <;> cases ha
    · obtain ⟨G1, h1, h2, h3⟩ := ih hf _ (hG.set (y := .finished) hn trivial)
      exact ⟨G1, h1, .resumeThrowFresh hx h2, h3⟩
  | resumeRunning hg _ ih =>
    intro hf G hG
    rcases hG.at hg with ⟨x, _, e, ha, _⟩ | ⟨hx, hc, hn⟩
    · cases x <;> cases e <;> cases ha
    · obtain ⟨G1, h1, h2, h3⟩ := ih hf G hG
      exact ⟨G1, h1, .resumeRunning hx h2, h3⟩
  | resumeFinished hg _ ih =>
    intro hf G hG
    rcases hG.at hg with ⟨x, _, e, ha, _⟩ | ⟨hx, hc, hn⟩
    · cases x <;> cases e <;> cases ha
    · obtain ⟨G1, h1, h2, h3⟩ := ih hf G hG
      exact ⟨G1, h1, .resumeFinished hx h2, h3⟩
  | segRet _ _ ih1 ih2 =>
    intro hf G hG
    obtain ⟨G1, h1, h2, _⟩ := ih1 rfl G hG
    obtain ⟨G2, q1, q2, q3⟩ := ih2 (split_tail hf) G1 h1
    exact ⟨G2, q1, .segRet h2 q2, q3⟩
  | segGen _ _ ih1 ih2 => intro hf; simp [splitAtGen] at hf
  | segSuspOut hsp _ ih =>
    intro hf G hG
    obtain ⟨G1, h1, h2, h3⟩ := ih rfl G hG
    exact ⟨G1, h1, .segSuspOut hsp h2, split_app h3 hsp⟩
  | segSuspGen hsp _ _ _ ih1 ih2 => intro hf; rw [hf] at hsp; cases hsp
theorem sim_wakes {M : Model} {G0 : Array GenState} {Γ : PySem.Ctx} {p : Pos} {g : Nat} {r : Resume} {s s1 : Shared} {res : GenResult} (h : Wakes M Γ p g r s res s1) :
    ∀ G, Sim G0 G s.gens → ∃ G1, Sim G0 G1 s1.gens ∧ Wakes M Γ p g r { s with gens := G } res { s1 with gens := G1 } := by
  intro G hG
  unfold Wakes at h
  cases hg : s.gens[g]? with
  | none => rw [hg] at h; exact h.elim
  | some x =>
    rw [hg] at h
    rcases hG.at hg with ⟨y, hy, e, ha, _⟩ | ⟨hx, hc, hn⟩
    · cases y with
      | suspended =>
        cases e
        obtain ⟨e1, s2, hr, _⟩ := h
        exact (no_run hr).elim
      | _ => cases ha
    · have hx' : ({ s with gens := G } : Shared).gens[g]? = some x := hx
      cases x with
      | fresh c =>
        cases r with
        | send v =>
          cases v with
          | none =>
            obtain ⟨e1, s2, hr, hq, h1, h2⟩ := h
            obtain ⟨G1, q1, q2, q3⟩ := sim_runs hr rfl _ (hG.set (y := .running) hn trivial)
            subst h1 h2
            exact ⟨_, q1.set hn (clean_state q3), by unfold Wakes; rw [hx']; exact ⟨e1, _, q2, hq, rfl, rfl⟩⟩
          | _ =>
            obtain ⟨h1, h2⟩ := h
            subst h1 h2
            exact ⟨G, hG, by unfold Wakes; rw [hx']; exact ⟨rfl, rfl⟩⟩
        | throw v =>
          obtain ⟨h1, h2⟩ := h
          subst h1 h2
          exact ⟨_, hG.set (y := .finished) hn trivial, by unfold Wakes; rw [hx']; exact ⟨rfl, rfl⟩⟩
      | suspended k l c p2 fs cl =>
        obtain ⟨e1, s2, hr, hq, h1, h2⟩ := h
        obtain ⟨G1, q1, q2, q3⟩ := sim_runs hr hc _ (hG.set (y := .running) hn trivial)
        subst h1 h2
        exact ⟨_, q1.set hn (clean_state q3), by unfold Wakes; rw [hx']; exact ⟨e1, _, q2, hq, rfl, rfl⟩⟩
      | running =>
        obtain ⟨h1, h2⟩ := h
        subst h1 h2
        exact ⟨G, hG, by unfold Wakes; rw [hx']; exact ⟨rfl, rfl⟩⟩
      | finished =>
        obtain ⟨h1, h2⟩ := h
        subst h1 h2
        exact ⟨G, hG, by unfold Wakes; rw [hx']; exact ⟨rfl, rfl⟩⟩
open Sem (wp)
/-- behind a run: the same but for the generators -/
def Back (G0 : Array GenState) (Q : Shared → Prop) (s1 : Shared) : Prop := ∃ s2 : Shared, Q s2 ∧ Sim G0 s1.gens s2.gens ∧ s1 = { s2 with gens := s1.gens }
theorem back_of {G0 G1 : Array GenState} {Q : Shared → Prop} {s2 : Shared} (q : Q s2) (h : Sim G0 G1 s2.gens) : Back G0 Q { s2 with gens := G1 } := ⟨s2, q, h, rfl⟩
theorem sim_wp {M : Model} {G0 : Array GenState} {Γ : PySem.Ctx} {α : Type} (m : Sem α) : ∀ {Q : α → Pos → Shared → Prop} {E : Value → Pos → Shared → Prop} {p : Pos} {s : Shared}, wp M Γ m Q E p s →
    ∀ G, Sim G0 G s.gens → wp M Γ m (fun a p' s' => Back G0 (Q a p') s') (fun x p' s' => Back G0 (E x p') s') p { s with gens := G } := by
  induction m with
  | pure a => exact fun h G hG => back_of h hG
  | raise x => exact fun h G hG => back_of h hG
  | unsupported | finish | register | yield | fork | await => exact fun h => h.elim
  | rule _ k ih | «at» _ k ih | loadIfAlive _ k ih | point _ k ih | ask k ih | handled _ k ih | stack k ih | thread k ih => exact fun h G hG => ih _ h G hG
  | alloc o k ih => exact fun h G hG => ih _ h G hG
  | fresh k ih => exact fun h G hG => ih _ h G hG
  | os q l k ih => exact fun h G hG => ih _ h G hG
  | load a _ k ih => exact fun ⟨o, ho, h⟩ G hG => ⟨o, ho, ih _ h G hG⟩
  | update a _ f k ih => exact fun ⟨ha, h⟩ G hG => ⟨ha, ih _ h G hG⟩
  | choose _ _ k ih => exact fun ⟨ha, h⟩ G hG => ⟨ha, ih _ h G hG⟩
  | genState g k ih =>
    intro Q E p s ⟨st, hg, h⟩ G hG
    rcases hG.at hg with ⟨x, hx, e, _⟩ | ⟨hx, _⟩
    · rw [e, seen_dead] at h
      exact ⟨x, hx, ih _ h G hG⟩
    · exact ⟨st, hx, ih _ h G hG⟩
  | newGen c k ih =>
    intro Q E p s h G hG
    have := ih _ h _ (hG.push (y := .fresh c) trivial)
    show wp M Γ (k G.size) _ _ p _
    rw [hG.sz]
    exact this
  | call c h g l k ih =>
    intro Q E p s ⟨r, s', hr, hw⟩ G hG
    obtain ⟨G1, h1, h2, _⟩ := sim_runs hr rfl G hG
    exact ⟨r, _, h2, ih r hw G1 h1⟩
  | resume g r l k ih =>
    intro Q E p s ⟨res, s', hr, hw⟩ G hG
    obtain ⟨G1, h1, h2⟩ := sim_wakes hr G hG
    exact ⟨res, _, h2, ih res hw G1 h1⟩
/-- the sleeping generators are as they were -/
def Kept (s s' : Shared) : Prop := ∀ (i : Nat) x, s.gens[i]? = some x → asleep x = true → s'.gens[i]? = some x
theorem Kept.refl (s : Shared) : Kept s s := fun _ _ h _ => h
theorem Kept.trans {s s1 s2 : Shared} (a : Kept s s1) (b : Kept s1 s2) : Kept s s2 := fun i x h ha => b i x (a i x h ha) ha
/-- s1 is s2 but for the generators -/
structure Swap (s s1 s2 : Shared) : Prop where
  eq : s1 = { s2 with gens := s1.gens }
  kept : Kept s s1
  bare : AllBare s2.gens → AllBare s1.gens
  size : s.gens.size ≤ s2.gens.size → s.gens.size ≤ s1.gens.size
theorem bare_map {G : Array GenState} (h : AllBare G) : AllBare (G.map dead) := fun y hy => by
  obtain ⟨x, hx, rfl⟩ := Array.mem_map.mp hy
  rw [bare_dead]; exact h x hx
theorem keep_wpAny {M : Model} {A : Around} {α : Type} {m : Sem α} {Q : α → Shared → Prop} {E : Value → Shared → Prop} {s : Shared} (h : wpAny M A m Q E { s with gens := s.gens.map dead }) :
    wpAny M A m (fun a s1 => ∃ s2, Q a s2 ∧ Swap s s1 s2) (fun x s1 => ∃ s2, E x s2 ∧ Swap s s1 s2) s := by
  have key : ∀ {R : Shared → Prop} {s1 : Shared}, Back s.gens R s1 → ∃ s2, R s2 ∧ Swap s s1 s2 := fun {R s1} ⟨s2, q, hS, e⟩ => ⟨s2, q, e, fun i x hx ha => (hS.old i x hx ha).1, fun hb y hy => by
      obtain ⟨i, hi, rfl⟩ := Array.mem_iff_getElem.mp hy
      have hy' : s1.gens[i]? = some s1.gens[i] := Array.getElem?_eq_getElem hi
      rcases hS.or i with ⟨x, hx, ha⟩ | hn
      · obtain ⟨h1, h2⟩ := hS.old i x hx ha
        rw [hy'] at h1
        rw [Option.some.inj h1, ← bare_dead]
        exact hb _ (Array.mem_of_getElem? h2)
      · obtain ⟨h1, _⟩ := hS.new i hn
        rw [hy'] at h1
        exact hb _ (Array.mem_of_getElem? h1), fun hz => by rw [hS.sz]; exact hz⟩
  intro Γ p hΓ
  have := sim_wp m (h Γ p hΓ) s.gens (Sim.start s.gens)
  refine Sem.wp_mono _ _ _ (fun a p' s' hb => key hb) (fun x p' s' hb => key hb) p s ?_
  exact this
end Ssg

/-! A second machine: a generator that sleeps over another generator sleeps without cleanup there; its state says so (a mark among what it holds). Whatever runs on the first machine runs on the second. -/
namespace Ssp
open PySem PySem.Spec PyProof.Rows Ssg
/-- the mark -/
def isMark : Value → Bool
  | .builtin id => id == "sleeps.over"
  | _ => false
def markV : Value := .builtin "sleeps.over"
def plainL (l : List Value) : List Value := l.filter fun v => !isMark v
/-- what a delegating code delegates to -/
def overOf : Code → Option Addr
  | .builtin "proto.yield_from" ⟨.ref a :: _, _⟩ => some a
  | _ => none
def plainFor (c : Code) (l : List Value) : List Value := match overOf c with
  | some _ => plainL l
  | none => l
def genAt (o : Option Obj) : Bool := o.any fun o => o.genNumber?.isSome
def mk {α : Type} (c : Code) : Sem α → Sem α
  | .pure a => .pure a
  | .raise e => .raise e
  | .unsupported w => .unsupported w
  | .finish e => .finish e
  | .rule t k => .rule t fun x => mk c (k x)
  | .at p k => .at p fun x => mk c (k x)
  | .load a p k => .load a p fun x => mk c (k x)
  | .update a p g k => .update a p g fun x => mk c (k x)
  | .alloc o k => .alloc o fun x => mk c (k x)
  | .register a k => .register a fun x => mk c (k x)
  | .loadIfAlive a k => .loadIfAlive a fun x => mk c (k x)
  | .point l k => .point l fun x => mk c (k x)
  | .fresh k => .fresh fun x => mk c (k x)
  | .ask k => .ask fun x => mk c (k x)
  | .choose s n k => .choose s n fun x => mk c (k x)
  | .os q l k => .os q l fun x => mk c (k x)
  | .call c' m g l k => .call c' m g l fun x => mk c (k x)
  | .handled o k => .handled o fun x => mk c (k x)
  | .genState g k => .genState g fun x => mk c (k x)
  | .newGen c' k => .newGen c' fun x => mk c (k x)
  | .resume g r l k => .resume g r l fun x => mk c (k x)
  | .yield v g l k => match overOf c with
    | some a => .loadIfAlive a fun o => .yield v (g && !genAt o) (if g && genAt o then markV :: plainL l else plainL l) fun x => mk c (k x)
    | none => .yield v g l fun x => mk c (k x)
  | .stack k => .stack fun x => mk c (k x)
  | .fork c' k => .fork c' fun x => mk c (k x)
  | .thread k => .thread fun x => mk c (k x)
  | .await a t d l k => .await a t d l fun x => mk c (k x)
/-- only what delegates is changed -/
theorem mk_id {α : Type} {c : Code} (h : overOf c = none) (m : Sem α) : mk c m = m := by
  induction m with
  | yield v g l k ih => simp only [mk, h]; rw [funext ih]
  | _ => first | rfl | (simp only [mk]; congr 1; funext x; exact (by assumption : ∀ a, mk c _ = _) x)
/-- the second machine -/
def plus (P : Program) (w : World) : Model := ⟨fun c => mk c (denote table c), P, w⟩
theorem plus_den (P : Program) (w : World) (c : Code) : (plus P w).den c = mk c ((model P w).den c) := rfl
def mkF : Frame → Frame
  | .ret k h g l c p kp => .ret (fun r => mk c (k r)) h g l c p kp
  | .gen g k l c p => .gen g (fun r => mk c (k r)) l c p
def mkG : GenState → GenState
  | .suspended k l c p fs cl => .suspended (fun r => mk c (k r)) (plainFor c l) c p (fs.map mkF) cl
  | x => x
def mkE : End → End
  | .susp v g l k c p fs => .susp v g (plainFor c l) (fun r => mk c (k r)) c p (fs.map mkF)
  | e => e
theorem mkF_where (f : Frame) : (mkF f).where_ = f.where_ := by cases f <;> rfl
theorem mkF_guarded (f : Frame) : (mkF f).guarded = f.guarded := by cases f <;> rfl
theorem mkF_marks (f : Frame) (x) : (mkF f).marks x = f.marks x := by cases f <;> rfl
theorem where_mk (fs : List Frame) : (fs.map mkF).map Frame.where_ = fs.map Frame.where_ := by
  rw [List.map_map]; exact List.map_congr_left fun f _ => mkF_where f
theorem guard_mk (fs : List Frame) : (fs.map mkF).any Frame.guarded = fs.any Frame.guarded := by
  rw [List.any_map]; congr 1; funext f; exact mkF_guarded f
theorem marks_mk (fs : List Frame) (x) : marksOver (fs.map mkF) x = marksOver fs x := by
  unfold marksOver
  rw [List.foldr_map]
  congr 1; funext f y; exact mkF_marks f y
theorem top_mk (fs : List Frame) : ∀ b, topHandled.go b (fs.map mkF) = topHandled.go b fs := by
  induction fs with
  | nil => intro b; rfl
  | cons f fs ih =>
    intro b
    have h1 := congrArg Prod.fst (marks_cons (mkF f) (fs.map mkF))
    have h2 := congrArg Prod.snd (marks_cons (mkF f) (fs.map mkF))
    have g1 := congrArg Prod.fst (marks_cons f fs)
    have g2 := congrArg Prod.snd (marks_cons f fs)
    have e : (topHandled (fs.map mkF), topHandled.go true (fs.map mkF)) = (topHandled fs, topHandled.go true fs) := Prod.ext (ih false) (ih true)
    rw [mkF_marks, e] at h1 h2
    cases b with
    | false => exact h1.trans g1.symm
    | true => exact h2.trans g2.symm
theorem split_mk (fs : List Frame) : splitAtGen (fs.map mkF) = (splitAtGen fs).map fun x => (x.1.map mkF, (x.2.1.1, fun r => mk x.2.1.2.2.1 (x.2.1.2.1 r), x.2.1.2.2.1, x.2.1.2.2.2), x.2.2.map mkF) := by
  induction fs with
  | nil => rfl
  | cons f fs ih =>
    cases f with
    | ret k h g l c p kp =>
      show (splitAtGen (fs.map mkF)).map _ = _
      rw [ih]
      show _ = Option.map _ ((splitAtGen fs).map _)
      cases splitAtGen fs <;> rfl
    | gen g k l c p => rfl
theorem split_none {fs : List Frame} (h : splitAtGen fs = none) : splitAtGen (fs.map mkF) = none := by rw [split_mk, h]; rfl
theorem over_mk (Γ : PySem.Ctx) (fs : List Frame) : Γ.over (fs.map mkF) = Γ.over fs := by
  unfold Ctx.over
  rw [marks_mk, where_mk, split_mk]
  cases splitAtGen fs with
  | none => simp only [Option.map_none, marks_mk]
  | some x =>
    have : topHandled (x.1.map mkF) = topHandled x.1 := top_mk _ false
    simp only [Option.map_some, this]
theorem seen_mk (x : GenState) : (mkG x).seen = x.seen := by
  cases x with
  | suspended k l c p fs cl => show (GenStatus.suspended, some ((c, p) :: (fs.map mkF).map Frame.where_)) = _; rw [where_mk]; rfl
  | _ => rfl
theorem bare_mk (x : GenState) : (mkG x).bare = x.bare := by cases x <;> rfl
theorem clean_mk {x : GenState} (h : Clean x) : Clean (mkG x) := by
  cases x with
  | suspended k l c p fs cl => exact split_none h
  | _ => trivial
theorem quiet_mk (e : End) : (mkE e).quiet = e.quiet := by
  cases e with
  | ret => rfl
  | susp v g l k c p fs => show (!(g || (fs.map mkF).any Frame.guarded)) = _; rw [guard_mk]; rfl
theorem result_mk (e : End) : (mkE e).result = e.result := by cases e <;> rfl
theorem state_mk (e : End) : (mkE e).genState = mkG e.genState := by
  cases e with
  | ret => rfl
  | susp v g l k c p fs => show GenState.suspended _ _ _ _ _ (g || (fs.map mkF).any Frame.guarded) = GenState.suspended _ _ _ _ _ _; rw [guard_mk]
theorem cleanE_mk {e : End} (h : CleanEnd e) : CleanEnd (mkE e) := by
  cases e with
  | ret => trivial
  | susp v g l k c p fs => exact split_none h
/-- a state that sleeps over another generator -/
def marked : GenState → Bool
  | .suspended _ l c _ _ _ => (overOf c).isSome && l.any isMark
  | _ => false
theorem plain_no (l : List Value) : (plainL l).any isMark = false := by
  unfold plainL
  rw [List.any_filter]
  induction l with
  | nil => rfl
  | cons a l ih => rw [List.any_cons, ih]; cases isMark a <;> rfl
theorem marked_mk (x : GenState) : marked (mkG x) = false := by
  cases x with
  | suspended k l c p fs cl =>
    show ((overOf c).isSome && (plainFor c l).any isMark) = false
    unfold plainFor
    cases overOf c with
    | none => rfl
    | some a => exact plain_no l
  | _ => rfl
/-- asleep in G0: as they were (dead on the first machine); all others: the first machine's, carried over -/
structure SimP (G0 G G' : Array GenState) : Prop where
  sz : G.size = G'.size
  old : ∀ (i : Nat) x, G0[i]? = some x → asleep x = true → G[i]? = some x ∧ G'[i]? = some (dead x)
  new : ∀ (i : Nat), (∀ x, G0[i]? = some x → asleep x = false) → G[i]? = (G'[i]?).map mkG ∧ ∀ x, G'[i]? = some x → Clean x
theorem SimP.start (G0 : Array GenState) : SimP G0 G0 (G0.map dead) where
  sz := by simp
  old := fun i x h _ => ⟨h, by rw [Array.getElem?_map, h]; rfl⟩
  new := fun i h => by
    rw [Array.getElem?_map]
    cases e : G0[i]? with
    | none => exact ⟨rfl, fun x hx => nomatch hx⟩
    | some x =>
      have := h x e
      cases x <;> first | exact ⟨rfl, fun y hy => by cases hy; trivial⟩ | cases this
theorem SimP.or {G0 G G' : Array GenState} (h : SimP G0 G G') (i : Nat) : (∃ x, G0[i]? = some x ∧ asleep x = true) ∨ (∀ x, G0[i]? = some x → asleep x = false) := by
  cases e : G0[i]? with
  | none => exact .inr fun x hx => nomatch hx
  | some x =>
    cases c : asleep x with
    | true => exact .inl ⟨x, rfl, c⟩
    | false => exact .inr fun y hy => by cases hy; exact c
theorem SimP.at {G0 G G' : Array GenState} (h : SimP G0 G G') {i : Nat} {y : GenState} (hy : G'[i]? = some y) :
    (∃ x, G[i]? = some x ∧ y = dead x ∧ asleep x = true ∧ G0[i]? = some x) ∨ (G[i]? = some (mkG y) ∧ Clean y ∧ ∀ x, G0[i]? = some x → asleep x = false) := by
  rcases h.or i with ⟨x, hx, ha⟩ | hn
  · obtain ⟨h1, h2⟩ := h.old i x hx ha
    rw [hy] at h2
    exact .inl ⟨x, h1, Option.some.inj h2, ha, hx⟩
  · obtain ⟨h1, h2⟩ := h.new i hn
    rw [hy] at h1
    exact .inr ⟨h1, h2 y hy, hn⟩
theorem SimP.set {G0 G G' : Array GenState} (h : SimP G0 G G') {i : Nat} {y : GenState} (hn : ∀ x, G0[i]? = some x → asleep x = false) (hc : Clean y) : SimP G0 (G.setIfInBounds i (mkG y)) (G'.setIfInBounds i y) where
  sz := by simp [h.sz]
  old := fun j x hj ha => by
    have ne : i ≠ j := fun e => by subst e; rw [hn x hj] at ha; cases ha
    rw [Array.getElem?_setIfInBounds_ne ne, Array.getElem?_setIfInBounds_ne ne]
    exact h.old j x hj ha
  new := fun j hj => by
    by_cases e : i = j
    · subst e
      rw [Array.getElem?_setIfInBounds_self, Array.getElem?_setIfInBounds_self, h.sz]
      by_cases c : i < G'.size
      · rw [if_pos c, if_pos c]
        exact ⟨rfl, fun x hx => by cases hx; exact hc⟩
      · rw [if_neg c, if_neg c]
        exact ⟨rfl, fun x hx => nomatch hx⟩
    · rw [Array.getElem?_setIfInBounds_ne e, Array.getElem?_setIfInBounds_ne e]
      exact h.new j hj
theorem SimP.push {G0 G G' : Array GenState} (h : SimP G0 G G') {y : GenState} (hc : Clean y) : SimP G0 (G.push (mkG y)) (G'.push y) where
  sz := by simp [h.sz]
  old := fun j x hj ha => by
    obtain ⟨h1, h2⟩ := h.old j x hj ha
    have l1 := (Array.getElem?_eq_some_iff.mp h1).1
    have l2 := (Array.getElem?_eq_some_iff.mp h2).1
    rw [Array.getElem?_push, Array.getElem?_push, if_neg (Nat.ne_of_lt l1), if_neg (Nat.ne_of_lt l2)]
    exact ⟨h1, h2⟩
  new := fun j hj => by
    rw [Array.getElem?_push, Array.getElem?_push, ← h.sz]
    by_cases e : j = G.size
    · rw [if_pos e, if_pos e]
      exact ⟨rfl, fun x hx => by cases hx; exact hc⟩
    · rw [if_neg e, if_neg e]
      exact h.new j hj
section
variable {P : Program} {w : World}
theorem lift_runs {G0 : Array GenState} {Γ : PySem.Ctx} {p : Pos} {t : Sem Fin} {fs : List Frame} {s s1 : Shared} {e : End} (h : Runs (model P w) Γ p t fs s e s1) :
    splitAtGen fs = none → e.quiet = true → ∀ G, SimP G0 G s.gens → ∃ G1, SimP G0 G1 s1.gens ∧ Runs (plus P w) Γ p (mk Γ.code t) (fs.map mkF) { s with gens := G } (mkE e) { s1 with gens := G1 } ∧ CleanEnd e := by
  induction h with
  | done => exact fun _ _ G hG => ⟨G, hG, .done, trivial⟩
  | raise => exact fun _ _ G hG => ⟨G, hG, .raise, trivial⟩
  | again hq _ ih => exact fun hf he G hG => let ⟨G1, h1, h2, h3⟩ := ih hf he G hG; ⟨G1, h1, .again hq h2, h3⟩
  | rule _ ih => exact fun hf he G hG => let ⟨G1, h1, h2, h3⟩ := ih hf he G hG; ⟨G1, h1, .rule h2, h3⟩
  | «at» _ ih => exact fun hf he G hG => let ⟨G1, h1, h2, h3⟩ := ih hf he G hG; ⟨G1, h1, .at h2, h3⟩
  | load hl _ ih => exact fun hf he G hG => let ⟨G1, h1, h2, h3⟩ := ih hf he G hG; ⟨G1, h1, .load hl h2, h3⟩
  | update hl _ ih => exact fun hf he G hG => let ⟨G1, h1, h2, h3⟩ := ih hf he G hG; ⟨G1, h1, .update hl h2, h3⟩
  | loadIfAlive _ ih => exact fun hf he G hG => let ⟨G1, h1, h2, h3⟩ := ih hf he G hG; ⟨G1, h1, .loadIfAlive h2, h3⟩
  | point _ ih => exact fun hf he G hG => let ⟨G1, h1, h2, h3⟩ := ih hf he G hG; ⟨G1, h1, .point h2, h3⟩
  | alloc _ ih => exact fun hf he G hG => let ⟨G1, h1, h2, h3⟩ := ih hf he G hG; ⟨G1, h1, .alloc h2, h3⟩
  | fresh _ ih => exact fun hf he G hG => let ⟨G1, h1, h2, h3⟩ := ih hf he G hG; ⟨G1, h1, .fresh h2, h3⟩
  | ask _ ih => exact fun hf he G hG => let ⟨G1, h1, h2, h3⟩ := ih hf he G hG; ⟨G1, h1, .ask h2, h3⟩
  | choose hn _ ih => exact fun hf he G hG => let ⟨G1, h1, h2, h3⟩ := ih hf he G hG; ⟨G1, h1, .choose hn h2, h3⟩
  | os _ ih => exact fun hf he G hG => let ⟨G1, h1, h2, h3⟩ := ih hf he G hG; ⟨G1, h1, .os h2, h3⟩
  | handled _ ih => exact fun hf he G hG => let ⟨G1, h1, h2, h3⟩ := ih hf he G hG; ⟨G1, h1, .handled h2, h3⟩
  | genState hg _ ih =>
    intro hf he G hG
    obtain ⟨G1, h1, h2, h3⟩ := ih hf he G hG
    rcases hG.at hg with ⟨x, hx, e, _⟩ | ⟨hx, _⟩
    · rw [e, seen_dead] at h2
      exact ⟨G1, h1, .genState hx h2, h3⟩
    · rw [← seen_mk] at h2
      exact ⟨G1, h1, .genState hx h2, h3⟩
  | stack _ ih => exact fun hf he G hG => let ⟨G1, h1, h2, h3⟩ := ih hf he G hG; ⟨G1, h1, .stack h2, h3⟩
  | thread _ ih => exact fun hf he G hG => let ⟨G1, h1, h2, h3⟩ := ih hf he G hG; ⟨G1, h1, .thread h2, h3⟩
  | newGen _ ih =>
    intro hf he G hG
    obtain ⟨G1, h1, h2, h3⟩ := ih hf he _ (hG.push (y := .fresh _) trivial)
    refine ⟨G1, h1, .newGen ?_, h3⟩
    rw [show ({ heap := _, gens := G, drawn := _, toks := _, os := _ } : Shared).gens.size = _ from hG.sz]
    exact h2
  | call _ _ ih1 ih2 =>
    intro hf he G hG
    obtain ⟨G1, h1, h2, _⟩ := ih1 rfl rfl G hG
    obtain ⟨G2, q1, q2, q3⟩ := ih2 hf he G1 h1
    exact ⟨G2, q1, .call h2 q2, q3⟩
  | callSusp _ ih =>
    intro hf he G hG
    have hq : ∀ {v g l k c p} {fs : List Frame} {F : Frame}, (End.susp v g l k c p (fs ++ [F])).quiet = true → (End.susp v g l k c p fs).quiet = true := fun {v g l k c p fs F} h => by
      simp only [End.quiet, List.any_append, Bool.not_eq_true', Bool.or_eq_false_iff] at h ⊢
      exact ⟨h.1, h.2.1⟩
    obtain ⟨G1, h1, h2, h3⟩ := ih rfl (hq he) G hG
    refine ⟨G1, h1, ?_, split_app h3 rfl⟩
    simp only [mkE, List.map_append, List.map_cons, List.map_nil, mkF]
    exact .callSusp h2
  | @yield Γ p v g l k s =>
    intro hf he G hG
    have hg : g = false := by
      simp only [End.quiet, List.any_nil, Bool.or_false, Bool.not_eq_true'] at he
      exact he
    subst hg
    refine ⟨G, hG, ?_, rfl⟩
    unfold mk
    simp only [mkE, plainFor]
    cases e : overOf Γ.code with
    | none => exact .yield
    | some a =>
      refine .loadIfAlive ?_
      simp only [Bool.false_and, Bool.false_eq_true, if_false]
      exact .yield
  | resumeFresh hg _ hq _ ih1 ih2 =>
    intro hf he G hG
    rcases hG.at hg with ⟨x, _, e, ha, _⟩ | ⟨hx, hc, hn⟩
    · cases x <;> cases e <;> cases ha
    · obtain ⟨G1, h1, h2, h3⟩ := ih1 rfl hq _ (hG.set (y := .running) hn trivial)
      obtain ⟨G2, q1, q2, q3⟩ := ih2 hf he _ (h1.set hn (clean_state h3))
      refine ⟨G2, q1, .resumeFresh hx h2 (by rw [quiet_mk]; exact hq) ?_, q3⟩
      rw [result_mk, state_mk]
      exact q2
  | resumeSuspended hg hr hq _ ih1 ih2 =>
    intro hf he G hG
    rcases hG.at hg with ⟨x, _, e, ha, _⟩ | ⟨hx, hc, hn⟩
    · cases x with
      | suspended => cases e; exact (no_run hr).elim
      | _ => cases ha
    · obtain ⟨G1, h1, h2, h3⟩ := ih1 hc hq _ (hG.set (y := .running) hn trivial)
      obtain ⟨G2, q1, q2, q3⟩ := ih2 hf he _ (h1.set hn (clean_state h3))
      refine ⟨G2, q1, .resumeSuspended hx h2 (by rw [quiet_mk]; exact hq) ?_, q3⟩
      rw [result_mk, state_mk]
      exact q2
  | resumeJustStarted hg hv _ ih =>
    intro hf he G hG
    rcases hG.at hg with ⟨x, _, e, ha, _⟩ | ⟨hx, hc, hn⟩
    · cases x <;> cases e <;> cases ha
    · obtain ⟨G1, h1, h2, h3⟩ := ih hf he G hG
      exact ⟨G1, h1, .resumeJustStarted hx hv h2, h3⟩
  | resumeThrowFresh hg _ ih =>
    intro hf he G hG
    rcases hG.at hg with ⟨x, _, e, ha, _⟩ | ⟨hx, hc, hn⟩
    · cases x <;> cases e <;> cases ha
    · obtain ⟨G1, h1, h2, h3⟩ := ih hf he _ (hG.set (y := .finished) hn trivial)
      exact ⟨G1, h1, .resumeThrowFresh hx h2, h3⟩
  | resumeRunning hg _ ih =>
    intro hf he G hG
    rcases hG.at hg with ⟨x, _, e, ha, _⟩ | ⟨hx, hc, hn⟩
    · cases x <;> cases e <;> cases ha
    · obtain ⟨G1, h1, h2, h3⟩ := ih hf he G hG
      exact ⟨G1, h1, .resumeRunning hx h2, h3⟩
  | resumeFinished hg _ ih =>
    intro hf he G hG
    rcases hG.at hg with ⟨x, _, e, ha, _⟩ | ⟨hx, hc, hn⟩
    · cases x <;> cases e <;> cases ha
    · obtain ⟨G1, h1, h2, h3⟩ := ih hf he G hG
      exact ⟨G1, h1, .resumeFinished hx h2, h3⟩
  | @segRet Γ p t k h g l c₁ p₁ kp fs s r s₁ e s' _ _ ih1 ih2 =>
    intro hf he G hG
    obtain ⟨G1, h1, h2, _⟩ := ih1 rfl rfl G hG
    obtain ⟨G2, q1, q2, q3⟩ := ih2 (split_tail hf) he G1 h1
    refine ⟨G2, q1, .segRet ?_ q2, q3⟩
    have e := over_mk Γ (.ret k h g l c₁ p₁ kp :: fs)
    rw [List.map_cons] at e
    rw [show Frame.ret (fun r => mk c₁ (k r)) h g l c₁ p₁ kp = mkF (.ret k h g l c₁ p₁ kp) from rfl, e]
    exact h2
  | segGen _ _ ih1 ih2 => intro hf; simp [splitAtGen] at hf
  | @segSuspOut Γ p t F fs s v g₀ l₀ k₀ c₀ p₀ fs₀ s' hsp _ ih =>
    intro hf he G hG
    have hq : (End.susp v g₀ l₀ k₀ c₀ p₀ fs₀).quiet = true := by
      simp only [End.quiet, List.any_append, Bool.not_eq_true', Bool.or_eq_false_iff] at he ⊢
      exact ⟨he.1, he.2.1⟩
    obtain ⟨G1, h1, h2, h3⟩ := ih rfl hq G hG
    refine ⟨G1, h1, ?_, split_app h3 hsp⟩
    simp only [mkE, List.map_append]
    refine .segSuspOut (F := mkF F) (fs := fs.map mkF) (split_none hsp) ?_
    have e := over_mk Γ (F :: fs)
    rw [List.map_cons] at e
    rw [e]
    exact h2
  | segSuspGen hsp _ _ _ ih1 ih2 => intro hf; rw [hf] at hsp; cases hsp
theorem lift_wakes {G0 : Array GenState} {Γ : PySem.Ctx} {p : Pos} {g : Nat} {r : Resume} {s s1 : Shared} {res : GenResult} (h : Wakes (model P w) Γ p g r s res s1) :
    ∀ G, SimP G0 G s.gens → ∃ G1, SimP G0 G1 s1.gens ∧ Wakes (plus P w) Γ p g r { s with gens := G } res { s1 with gens := G1 } := by
  intro G hG
  unfold Wakes at h
  cases hg : s.gens[g]? with
  | none => rw [hg] at h; exact h.elim
  | some x =>
    rw [hg] at h
    rcases hG.at hg with ⟨y, hy, e, ha, _⟩ | ⟨hx, hc, hn⟩
    · cases y with
      | suspended =>
        cases e
        obtain ⟨e1, s2, hr, _⟩ := h
        exact (no_run hr).elim
      | _ => cases ha
    · have hx' : ({ s with gens := G } : Shared).gens[g]? = some (mkG x) := hx
      cases x with
      | fresh c =>
        cases r with
        | send v =>
          cases v with
          | none =>
            obtain ⟨e1, s2, hr, hq, h1, h2⟩ := h
            obtain ⟨G1, q1, q2, q3⟩ := lift_runs hr rfl hq _ (hG.set (y := .running) hn trivial)
            subst h1 h2
            exact ⟨_, q1.set hn (clean_state q3), by unfold Wakes; rw [hx']; exact ⟨mkE e1, _, q2, by rw [quiet_mk]; exact hq, (result_mk _).symm, by rw [state_mk]; rfl⟩⟩
          | _ =>
            obtain ⟨h1, h2⟩ := h
            subst h1 h2
            exact ⟨G, hG, by unfold Wakes; rw [hx']; exact ⟨rfl, rfl⟩⟩
        | throw v =>
          obtain ⟨h1, h2⟩ := h
          subst h1 h2
          exact ⟨_, hG.set (y := .finished) hn trivial, by unfold Wakes; rw [hx']; exact ⟨rfl, rfl⟩⟩
      | suspended k l c p2 fs cl =>
        obtain ⟨e1, s2, hr, hq, h1, h2⟩ := h
        obtain ⟨G1, q1, q2, q3⟩ := lift_runs hr hc hq _ (hG.set (y := .running) hn trivial)
        subst h1 h2
        exact ⟨_, q1.set hn (clean_state q3), by unfold Wakes; rw [hx']; exact ⟨mkE e1, _, q2, by rw [quiet_mk]; exact hq, (result_mk _).symm, by rw [state_mk]; rfl⟩⟩
      | running =>
        obtain ⟨h1, h2⟩ := h
        subst h1 h2
        exact ⟨G, hG, by unfold Wakes; rw [hx']; exact ⟨rfl, rfl⟩⟩
      | finished =>
        obtain ⟨h1, h2⟩ := h
        subst h1 h2
        exact ⟨G, hG, by unfold Wakes; rw [hx']; exact ⟨rfl, rfl⟩⟩
open Sem (wp)
/-- behind a run: the same but for the generators -/
def BackP (G0 : Array GenState) (Q : Shared → Prop) (s1 : Shared) : Prop := ∃ s2 : Shared, Q s2 ∧ SimP G0 s1.gens s2.gens ∧ s1 = { s2 with gens := s1.gens }
theorem backP_of {G0 G1 : Array GenState} {Q : Shared → Prop} {s2 : Shared} (q : Q s2) (h : SimP G0 G1 s2.gens) : BackP G0 Q { s2 with gens := G1 } := ⟨s2, q, h, rfl⟩
theorem lift_wp {G0 : Array GenState} {Γ : PySem.Ctx} {α : Type} (m : Sem α) : ∀ {Q : α → Pos → Shared → Prop} {E : Value → Pos → Shared → Prop} {p : Pos} {s : Shared}, wp (model P w) Γ m Q E p s →
    ∀ G, SimP G0 G s.gens → wp (plus P w) Γ m (fun a p' s' => BackP G0 (Q a p') s') (fun x p' s' => BackP G0 (E x p') s') p { s with gens := G } := by
  induction m with
  | pure a => exact fun h G hG => backP_of h hG
  | raise x => exact fun h G hG => backP_of h hG
  | unsupported | finish | register | yield | fork | await => exact fun h => h.elim
  | rule _ k ih | «at» _ k ih | loadIfAlive _ k ih | point _ k ih | ask k ih | handled _ k ih | stack k ih | thread k ih => exact fun h G hG => ih _ h G hG
  | alloc o k ih => exact fun h G hG => ih _ h G hG
  | fresh k ih => exact fun h G hG => ih _ h G hG
  | os q l k ih => exact fun h G hG => ih _ h G hG
  | load a _ k ih => exact fun ⟨o, ho, h⟩ G hG => ⟨o, ho, ih _ h G hG⟩
  | update a _ f k ih => exact fun ⟨ha, h⟩ G hG => ⟨ha, ih _ h G hG⟩
  | choose _ _ k ih => exact fun ⟨ha, h⟩ G hG => ⟨ha, ih _ h G hG⟩
  | genState g k ih =>
    intro Q E p s ⟨st, hg, h⟩ G hG
    rcases hG.at hg with ⟨x, hx, e, _⟩ | ⟨hx, _⟩
    · rw [e, seen_dead] at h
      exact ⟨x, hx, ih _ h G hG⟩
    · rw [← seen_mk] at h
      exact ⟨_, hx, ih _ h G hG⟩
  | newGen c k ih =>
    intro Q E p s h G hG
    have := ih _ h _ (hG.push (y := .fresh c) trivial)
    show wp (plus P w) Γ (k G.size) _ _ p _
    rw [hG.sz]
    exact this
  | call c h g l k ih =>
    intro Q E p s ⟨r, s', hr, hw⟩ G hG
    obtain ⟨G1, h1, h2, _⟩ := lift_runs hr rfl rfl G hG
    exact ⟨r, _, h2, ih r hw G1 h1⟩
  | resume g r l k ih =>
    intro Q E p s ⟨res, s', hr, hw⟩ G hG
    obtain ⟨G1, h1, h2⟩ := lift_wakes hr G hG
    exact ⟨res, _, h2, ih res hw G1 h1⟩
/-- what a run leaves of the generators: those that sleep are as they were, no other sleeps over one -/
structure Calm (s s' : Shared) : Prop where
  kept : ∀ (i : Nat) x, s.gens[i]? = some x → asleep x = true → s'.gens[i]? = some x
  left : ∀ (i : Nat) x, s'.gens[i]? = some x → marked x = true → s.gens[i]? = some x
  size : s.gens.size ≤ s'.gens.size
theorem Calm.refl (s : Shared) : Calm s s := ⟨fun _ _ h _ => h, fun _ _ h _ => h, Nat.le_refl _⟩
theorem Calm.trans {s s1 s2 : Shared} (a : Calm s s1) (b : Calm s1 s2) : Calm s s2 := ⟨fun i x h ha => b.kept i x (a.kept i x h ha) ha, fun i x h hm => a.left i x (b.left i x h hm) hm, Nat.le_trans a.size b.size⟩
theorem Calm.of {s s1 : Shared} (h : s1.gens = s.gens) : Calm s s1 := ⟨fun i x hx _ => by rw [h]; exact hx, fun i x hx _ => by rw [← h]; exact hx, by rw [h]; exact Nat.le_refl _⟩
/-- s1 is s2 but for the generators -/
structure SwapP (s s1 s2 : Shared) : Prop where
  eq : s1 = { s2 with gens := s1.gens }
  calm : Calm s s1
  bare : AllBare s2.gens → AllBare s1.gens
  sim : SimP s.gens s1.gens s2.gens
theorem marked_asleep {x : GenState} (h : marked x = true) : asleep x = true := by cases x <;> first | rfl | cases h
theorem lift_wpAny {A : Around} {α : Type} {m : Sem α} {Q : α → Shared → Prop} {E : Value → Shared → Prop} {s : Shared}
    (h : wpAny (model P w) A m Q E { s with gens := s.gens.map dead }) :
    wpAny (plus P w) A m (fun a s1 => ∃ s2, Q a s2 ∧ SwapP s s1 s2) (fun x s1 => ∃ s2, E x s2 ∧ SwapP s s1 s2) s := by
  have key : ∀ {R : Shared → Prop} {s1 : Shared}, BackP s.gens (fun s2 => s.gens.size ≤ s2.gens.size ∧ R s2) s1 → ∃ s2, R s2 ∧ SwapP s s1 s2 := fun {R s1} ⟨s2, ⟨hsz, q⟩, hS, e⟩ => ⟨s2, q, e, ⟨fun i x hx ha => (hS.old i x hx ha).1, fun i x hx hm => by
      rcases hS.or i with ⟨y, hy, ha⟩ | hn
      · obtain ⟨h1, _⟩ := hS.old i y hy ha
        rw [hx] at h1
        rw [Option.some.inj h1]; exact hy
      · obtain ⟨h1, _⟩ := hS.new i hn
        rw [hx] at h1
        cases e2 : s2.gens[i]? with
        | none => rw [e2] at h1; cases h1
        | some y =>
          rw [e2] at h1
          rw [Option.some.inj h1, marked_mk] at hm
          exact absurd hm (by decide), by rw [hS.sz]; exact hsz⟩, fun hb y hy => by
      obtain ⟨i, hi, rfl⟩ := Array.mem_iff_getElem.mp hy
      have hy' : s1.gens[i]? = some s1.gens[i] := Array.getElem?_eq_getElem hi
      rcases hS.or i with ⟨x, hx, ha⟩ | hn
      · obtain ⟨h1, h2⟩ := hS.old i x hx ha
        rw [hy'] at h1
        rw [Option.some.inj h1, ← bare_dead]
        exact hb _ (Array.mem_of_getElem? h2)
      · obtain ⟨h1, _⟩ := hS.new i hn
        rw [hy'] at h1
        cases e2 : s2.gens[i]? with
        | none => rw [e2] at h1; cases h1
        | some z =>
          rw [e2] at h1
          rw [Option.some.inj h1, bare_mk]
          exact hb _ (Array.mem_of_getElem? e2), hS⟩
  intro Γ p hΓ
  have := lift_wp m (GenW.wp_gsz (model P w) Γ s.gens.size m _ _ p _ (by simp) (h Γ p hΓ)) s.gens (SimP.start s.gens)
  refine Sem.wp_mono _ _ _ (fun a p' s' hb => key hb) (fun x p' s' hb => key hb) p s ?_
  exact this
/-- a tree that gives nothing out at its top is run as it is carried over -/
theorem wp_mk {M : Model} {Γ : PySem.Ctx} {α : Type} (c : Code) (m : Sem α) : ∀ {Q : α → Pos → Shared → Prop} {E : Value → Pos → Shared → Prop} {p : Pos} {s : Shared}, wp M Γ m Q E p s → wp M Γ (mk c m) Q E p s := by
  induction m with
  | pure a => exact fun h => h
  | raise x => exact fun h => h
  | unsupported | finish | register | yield | fork | await => exact fun h => h.elim
  | rule _ k ih | «at» _ k ih | loadIfAlive _ k ih | point _ k ih | ask k ih | handled _ k ih | stack k ih | thread k ih => exact fun h => ih _ h
  | alloc o k ih => exact fun h => ih _ h
  | fresh k ih => exact fun h => ih _ h
  | newGen c k ih => exact fun h => ih _ h
  | os q l k ih => exact fun h => ih _ h
  | load a _ k ih => exact fun ⟨o, ho, h⟩ => ⟨o, ho, ih _ h⟩
  | update a _ f k ih => exact fun ⟨ha, h⟩ => ⟨ha, ih _ h⟩
  | choose _ _ k ih => exact fun ⟨ha, h⟩ => ⟨ha, ih _ h⟩
  | genState g k ih => exact fun ⟨st, hg, h⟩ => ⟨st, hg, ih _ h⟩
  | call c h g l k ih => exact fun ⟨r, s', hr, hw⟩ => ⟨r, s', hr, ih r hw⟩
  | resume g r l k ih => exact fun ⟨r', s', hr, hw⟩ => ⟨r', s', hr, ih r' hw⟩
end
end Ssp

/-! What ends on the second machine ends alike on the real one. -/
namespace Ssp
open PySem PySem.Spec PyProof.Rows Ssg
/-! ### frames, generators, states of both -/
inductive FR : Frame → Frame → Prop
  | ret {k h g l c p kp l' kp'} : FR (.ret k h g l c p kp) (.ret (fun r => mk c (k r)) h g l' c p kp')
  | gen {g k l c p l'} : FR (.gen g k l c p) (.gen g (fun r => mk c (k r)) l' c p)
inductive FRs : List Frame → List Frame → Prop
  | nil : FRs [] []
  | cons {f f' fs fs'} : FR f f' → FRs fs fs' → FRs (f :: fs) (f' :: fs')
theorem FRs.app {a a' b b' : List Frame} (h : FRs a a') (g : FRs b b') : FRs (a ++ b) (a' ++ b') := by
  induction h with
  | nil => exact g
  | cons x _ ih => exact .cons x ih
theorem FRs.where_ {a a' : List Frame} (h : FRs a a') : a'.map Frame.where_ = a.map Frame.where_ := by
  induction h with
  | nil => rfl
  | cons x _ ih => rw [List.map_cons, List.map_cons, ih]; cases x <;> rfl
theorem FRs.guard {a a' : List Frame} (h : FRs a a') : a'.any Frame.guarded = a.any Frame.guarded := by
  induction h with
  | nil => rfl
  | cons x _ ih => rw [List.any_cons, List.any_cons, ih]; cases x <;> rfl
theorem FRs.top {a a' : List Frame} (h : FRs a a') : ∀ b, topHandled.go b a' = topHandled.go b a := by
  induction h with
  | nil => intro b; rfl
  | @cons f f' fs fs' x _ ih =>
    intro b
    have h1 := congrArg Prod.fst (marks_cons f' fs')
    have h2 := congrArg Prod.snd (marks_cons f' fs')
    have g1 := congrArg Prod.fst (marks_cons f fs)
    have g2 := congrArg Prod.snd (marks_cons f fs)
    have e : (topHandled fs', topHandled.go true fs') = (topHandled fs, topHandled.go true fs) := Prod.ext (ih false) (ih true)
    have m : ∀ y, f'.marks y = f.marks y := fun y => by cases x <;> rfl
    rw [m, e] at h1 h2
    cases b with
    | false => exact h1.trans g1.symm
    | true => exact h2.trans g2.symm
theorem FRs.split {a a' : List Frame} (h : FRs a a') : (splitAtGen a = none ∧ splitAtGen a' = none) ∨
    ∃ pre g k c p rest pre' rest', splitAtGen a = some (pre, (g, k, c, p), rest) ∧ splitAtGen a' = some (pre', (g, fun r => mk c (k r), c, p), rest') ∧ FRs pre pre' ∧ FRs rest rest' := by
  induction h with
  | nil => exact .inl ⟨rfl, rfl⟩
  | cons x y ih =>
    cases x with
    | gen => exact .inr ⟨_, _, _, _, _, _, _, _, rfl, rfl, .nil, y⟩
    | @ret k0 h0 g0 l0 c0 p0 kp0 l1 kp1 =>
      rcases ih with ⟨h1, h2⟩ | ⟨pre, g, k, c, p, rest, pre', rest', h1, h2, h3, h4⟩
      · exact .inl ⟨by simp only [splitAtGen, h1, Option.map_none], by simp only [splitAtGen, h2, Option.map_none]⟩
      · exact .inr ⟨.ret k0 h0 g0 l0 c0 p0 kp0 :: pre, g, k, c, p, rest, .ret (fun r => mk c0 (k0 r)) h0 g0 l1 c0 p0 kp1 :: pre', rest', by simp only [splitAtGen, h1, Option.map_some], by simp only [splitAtGen, h2, Option.map_some], .cons .ret h3, h4⟩
theorem FRs.own {a a' : List Frame} (h : FRs a a') : topHandled (ownFrames a') = topHandled (ownFrames a) := by
  unfold ownFrames
  rcases h.split with ⟨h1, h2⟩ | ⟨pre, g, k, c, p, rest, pre', rest', h1, h2, h3, h4⟩
  · rw [h1, h2]; exact h.top false
  · rw [h1, h2]; exact h3.top false
inductive GR : GenState → GenState → Prop
  | same {x} : asleep x = false → GR x x
  | susp {k l c p fs cl l' fs' cl'} : FRs fs fs' → (cl' = cl ∨ (cl = true ∧ cl' = false ∧ l'.any isMark = true ∧ (∃ a, overOf c = some a) ∧ fs.any Frame.guarded = false)) →
      GR (.suspended k l c p fs cl) (.suspended (fun r => mk c (k r)) l' c p fs' cl')
theorem GR.seen {x y : GenState} (h : GR x y) : y.seen = x.seen := by
  cases h with
  | same => rfl
  | susp f _ => show (GenStatus.suspended, some (_ :: _)) = (GenStatus.suspended, some (_ :: _)); rw [f.where_]
structure GRs (G G1 : Array GenState) : Prop where
  sz : G1.size = G.size
  at_ : ∀ (i : Nat) x, G[i]? = some x → ∃ y, G1[i]? = some y ∧ GR x y
theorem GRs.back {G G1 : Array GenState} (h : GRs G G1) {i : Nat} {y : GenState} (hy : G1[i]? = some y) : ∃ x, G[i]? = some x ∧ GR x y := by
  cases e : G[i]? with
  | none =>
    have := Array.getElem?_eq_none_iff.mp e
    rw [← h.sz] at this
    rw [Array.getElem?_eq_none_iff.mpr this] at hy
    cases hy
  | some x =>
    obtain ⟨z, h1, h2⟩ := h.at_ i x e
    rw [hy] at h1; cases h1
    exact ⟨x, rfl, h2⟩
theorem GRs.none {G G1 : Array GenState} (h : GRs G G1) {i : Nat} (hy : G1[i]? = none) : G[i]? = none := by
  have := Array.getElem?_eq_none_iff.mp hy
  rw [h.sz] at this
  exact Array.getElem?_eq_none_iff.mpr this
theorem GRs.set {G G1 : Array GenState} (h : GRs G G1) {i : Nat} {x y : GenState} (r : GR x y) : GRs (G.setIfInBounds i x) (G1.setIfInBounds i y) where
  sz := by simp [h.sz]
  at_ := fun j z hz => by
    by_cases e : i = j
    · subst e
      rw [Array.getElem?_setIfInBounds_self] at hz ⊢
      rw [h.sz]
      by_cases c : i < G.size
      · rw [if_pos c] at hz ⊢
        cases hz
        exact ⟨y, rfl, r⟩
      · rw [if_neg c] at hz; cases hz
    · rw [Array.getElem?_setIfInBounds_ne e] at hz ⊢
      exact h.at_ j z hz
theorem GRs.push {G G1 : Array GenState} (h : GRs G G1) {x y : GenState} (r : GR x y) : GRs (G.push x) (G1.push y) where
  sz := by simp [h.sz]
  at_ := fun j z hz => by
    rw [Array.getElem?_push] at hz ⊢
    rw [h.sz]
    by_cases e : j = G.size
    · rw [if_pos e] at hz ⊢
      cases hz
      exact ⟨y, rfl, r⟩
    · rw [if_neg e] at hz ⊢
      exact h.at_ j z hz
/-- the real state and thread, the second machine's -/
inductive Rel : Shared → Thread → Shared → Thread → Prop
  | mk {hp gs dr tk os gs1 cur code pos st st1} : GRs gs gs1 → FRs st st1 → Rel ⟨hp, gs, dr, tk, os⟩ ⟨cur, code, pos, st⟩ ⟨hp, gs1, dr, tk, os⟩ ⟨mk code cur, code, pos, st1⟩
/-- at its end -/
def FinOk (s : Shared) : Prop := leftWithCleanup s.gens = false ∧ ∀ (i : Nat) k l c p fs cl a, s.gens[i]? = some (.suspended k l c p fs cl) → overOf c = some a → l.any isMark = true → genAt (s.heap.get? a) = true
/-- a yield over another generator -/
def overYield (t : Thread) : Prop := ∃ v g l k a, t.cur = .yield v g l k ∧ overOf t.code = some a
section
variable {P : Program} {w : World}
theorem step_rel {s s1 s1' : Shared} {t t1 t1' : Thread} (r : Rel s t s1 t1) (hn : ¬ overYield t) (h : (plus P w).step s1 t1 = .go s1' t1') : ∃ s' t', step (denote table) P w s t = .go s' t' ∧ Rel s' t' s1' t1' := by
  obtain ⟨hg, hf⟩ := r
  rename_i hp gs dr tk os gs1 cur code pos st st1
  cases cur with
  | pure fin =>
    cases fin with
    | done f =>
      cases hf with
      | nil => have h := (step_leaf_nil (plus P w) ⟨hp, gs1, dr, tk, os⟩ code pos (.ok f)).symm.trans h; unfold finish at h; split at h <;> cases h
      | cons x y =>
        cases x with
        | ret => have h := (step_leaf_ret (plus P w) ⟨hp, gs1, dr, tk, os⟩ code pos _ (.ok f) _ _ _ _ _ _ _).symm.trans h; cases h; exact ⟨_, _, rfl, .mk hg y⟩
        | gen => have h := (step_leaf_gen (plus P w) ⟨hp, gs1, dr, tk, os⟩ code pos _ (.ok f) _ _ _ _ _).symm.trans h; cases h; exact ⟨_, _, rfl, .mk (hg.set (.same rfl)) y⟩
    | again c =>
      cases hq : c.quiet with
      | false => have h := (step_again_loud (plus P w) ⟨hp, gs1, dr, tk, os⟩ code pos _ c hq).symm.trans h; cases h
      | true => have h := (step_again (plus P w) ⟨hp, gs1, dr, tk, os⟩ code pos _ c hq).symm.trans h; cases h; exact ⟨_, _, rfl, .mk hg (by
        split
        all_goals first | exact hf | (cases hf with | cons x y => cases x; exact .cons .ret y))⟩
  | raise e =>
    cases hf with
    | nil => have h := (step_leaf_nil (plus P w) ⟨hp, gs1, dr, tk, os⟩ code pos (.error e)).symm.trans h; unfold finish at h; split at h <;> cases h
    | cons x y =>
      cases x with
      | ret => have h := (step_leaf_ret (plus P w) ⟨hp, gs1, dr, tk, os⟩ code pos _ (.error e) _ _ _ _ _ _ _).symm.trans h; cases h; exact ⟨_, _, rfl, .mk hg y⟩
      | gen => have h := (step_leaf_gen (plus P w) ⟨hp, gs1, dr, tk, os⟩ code pos _ (.error e) _ _ _ _ _).symm.trans h; cases h; exact ⟨_, _, rfl, .mk (hg.set (.same rfl)) y⟩
  | unsupported x => cases h
  | finish x => have h := (step_finish (plus P w) ⟨hp, gs1, dr, tk, os⟩ code pos _ x).symm.trans h; unfold finish at h; split at h <;> cases h
  | rule tag k => cases h; exact ⟨_, _, rfl, .mk hg hf⟩
  | «at» p k => cases h; exact ⟨_, _, rfl, .mk hg hf⟩
  | load a part k =>
    cases e : hp.get? a with
    | none => obtain ⟨why, h1⟩ := step_load_none (plus P w) ⟨hp, gs1, dr, tk, os⟩ code pos st1 part (fun o => mk code (k o)) e; have h := (h1).symm.trans h; cases h
    | some o =>
      have h := (step_load (plus P w) ⟨hp, gs1, dr, tk, os⟩ code pos st1 part (fun o => mk code (k o)) e).symm.trans h
      cases h
      exact ⟨_, _, by simp only [step, e], .mk hg hf⟩
  | update a part f k =>
    by_cases e : (hp.get? a).isSome = true
    · have h := (step_update (plus P w) ⟨hp, gs1, dr, tk, os⟩ code pos st1 part f (fun o => mk code (k o)) e).symm.trans h
      cases h
      exact ⟨_, _, by simp only [step, e, if_true], .mk hg hf⟩
    · obtain ⟨why, h1⟩ := step_update_none (plus P w) ⟨hp, gs1, dr, tk, os⟩ code pos st1 part f (fun o => mk code (k o)) e; have h := (h1).symm.trans h; cases h
  | alloc o k => cases h; exact ⟨_, _, rfl, .mk hg hf⟩
  | register a k => cases h
  | loadIfAlive a k => cases h; exact ⟨_, _, rfl, .mk hg hf⟩
  | point l k => cases h; exact ⟨_, _, rfl, .mk hg hf⟩
  | fresh k => cases h; exact ⟨_, _, rfl, .mk hg hf⟩
  | ask k => cases h; exact ⟨_, _, rfl, .mk hg hf⟩
  | choose src n k =>
    by_cases e : n = 0
    · subst e
      obtain ⟨why, h1⟩ := step_choose_zero (plus P w) ⟨hp, gs1, dr, tk, os⟩ code pos st1 src (fun o => mk code (k o)); have h := (h1).symm.trans h; cases h
    · have h := (step_choose (plus P w) ⟨hp, gs1, dr, tk, os⟩ code pos st1 src (fun o => mk code (k o)) e).symm.trans h
      cases h
      exact ⟨_, _, by simp only [step, e, if_false]; rfl, .mk hg hf⟩
  | os q l k => cases h; exact ⟨_, _, rfl, .mk hg hf⟩
  | call c m g l k => cases h; exact ⟨_, _, rfl, .mk hg (.cons .ret hf)⟩
  | handled own k =>
    have h := (step_handled (plus P w) ⟨hp, gs1, dr, tk, os⟩ code pos st1 own (fun o => mk code (k o))).symm.trans h
    cases h
    refine ⟨_, _, (show step (denote table) P w ⟨hp, gs, dr, tk, os⟩ ⟨.handled own k, code, pos, st⟩ = .go ⟨hp, gs, dr, tk, os⟩ ⟨k (topHandled (if own then ownFrames st else st)), code, pos, st⟩ from by cases own <;> rfl), ?_⟩
    have e : topHandled (if own = true then ownFrames st1 else st1) = topHandled (if own = true then ownFrames st else st) := by
      cases own with
      | true => exact hf.own
      | false => exact hf.top false
    rw [e]
    exact .mk hg hf
  | newGen c k =>
    cases h
    refine ⟨_, _, rfl, ?_⟩
    show Rel _ _ _ ⟨mk code (k gs1.size), code, pos, st1⟩
    rw [hg.sz]
    exact .mk (hg.push (.same rfl)) hf
  | genState g k =>
    cases e : gs1[g]? with
    | none => obtain ⟨why, h1⟩ := step_genState_none (plus P w) ⟨hp, gs1, dr, tk, os⟩ code pos st1 (fun o => mk code (k o)) e; have h := (h1).symm.trans h; cases h
    | some y =>
      have h := (step_genState (plus P w) ⟨hp, gs1, dr, tk, os⟩ code pos st1 (fun o => mk code (k o)) e).symm.trans h
      cases h
      obtain ⟨x, hx, r⟩ := hg.back e
      refine ⟨_, _, (show step (denote table) P w ⟨hp, gs, dr, tk, os⟩ ⟨.genState g k, code, pos, st⟩ = .go ⟨hp, gs, dr, tk, os⟩ ⟨k x.seen, code, pos, st⟩ from by simp only [step, hx]; cases x <;> rfl), ?_⟩
      rw [r.seen]
      exact .mk hg hf
  | resume g r l k =>
    cases e : gs1[g]? with
    | none => obtain ⟨why, h1⟩ := step_resume_none (plus P w) ⟨hp, gs1, dr, tk, os⟩ code pos st1 r l (fun o => mk code (k o)) e; have h := (h1).symm.trans h; cases h
    | some y =>
      obtain ⟨x, hx, rr⟩ := hg.back e
      cases rr with
      | same ha =>
        cases y with
        | suspended => cases ha
        | fresh c =>
          cases r with
          | send v =>
            by_cases hv : v = .none
            · subst hv
              have h := (step_resume_fresh (plus P w) ⟨hp, gs1, dr, tk, os⟩ code pos st1 l (fun o => mk code (k o)) e).symm.trans h
              cases h
              exact ⟨_, _, by simp only [step, hx], .mk (hg.set (.same rfl)) (.cons (.gen (l := l)) hf)⟩
            · have h := (step_resume_justStarted (plus P w) ⟨hp, gs1, dr, tk, os⟩ code pos st1 l (fun o => mk code (k o)) e hv).symm.trans h
              cases h
              exact ⟨_, _, (by cases v <;> first | exact absurd rfl hv | simp only [step, hx]), .mk hg hf⟩
          | throw v =>
            have h := (step_resume_throwFresh (plus P w) ⟨hp, gs1, dr, tk, os⟩ code pos st1 v l (fun o => mk code (k o)) e).symm.trans h
            cases h
            exact ⟨_, _, by simp only [step, hx], .mk (hg.set (.same rfl)) hf⟩
        | running =>
          have h := (step_resume_running (plus P w) ⟨hp, gs1, dr, tk, os⟩ code pos st1 r l (fun o => mk code (k o)) e).symm.trans h
          cases h
          exact ⟨_, _, by simp only [step, hx], .mk hg hf⟩
        | finished =>
          have h := (step_resume_finished (plus P w) ⟨hp, gs1, dr, tk, os⟩ code pos st1 r l (fun o => mk code (k o)) e).symm.trans h
          cases h
          exact ⟨_, _, by simp only [step, hx], .mk hg hf⟩
      | susp f _ =>
        have h := (step_resume_suspended (plus P w) ⟨hp, gs1, dr, tk, os⟩ code pos st1 r l (fun o => mk code (k o)) e).symm.trans h
        cases h
        exact ⟨_, _, by simp only [step, hx], .mk (hg.set (.same rfl)) (f.app (.cons (.gen (l := l)) hf))⟩
  | yield v g l k =>
    have ho : overOf code = none := by
      cases e : overOf code with
      | none => rfl
      | some a => exact absurd ⟨v, g, l, k, a, rfl, e⟩ hn
    have em : mk code (.yield v g l k) = .yield v g l fun x => mk code (k x) := by
      simp only [mk, ho]
    rw [em] at h
    rcases hf.split with ⟨h1, h2⟩ | ⟨pre, i, kk, c, p, rest, pre', rest', h1, h2, h3, h4⟩
    · obtain ⟨why, h5⟩ := step_yield_none (plus P w) ⟨hp, gs1, dr, tk, os⟩ code pos st1 v g l (fun x => mk code (k x)) h2
      have h := h5.symm.trans h; cases h
    · cases hq : (End.susp v g l (fun x => mk code (k x)) code pos pre').quiet with
      | false => rw [step_yield_loud (plus P w) ⟨hp, gs1, dr, tk, os⟩ code pos st1 v g l (fun x => mk code (k x)) h2 hq] at h; cases h
      | true =>
        rw [step_yield (plus P w) ⟨hp, gs1, dr, tk, os⟩ code pos st1 v g l (fun x => mk code (k x)) h2 hq] at h
        cases h
        refine ⟨_, _, by simp only [step, h1], .mk (hg.set (.susp (l := l) (cl := g || pre.any Frame.guarded) h3 (.inl ?_))) h4⟩
        rw [h3.guard]
  | stack k =>
    cases h
    refine ⟨_, _, rfl, ?_⟩
    show Rel _ _ _ ⟨mk code (k ((code, pos) :: st1.map Frame.where_)), code, pos, st1⟩
    rw [hf.where_]
    exact .mk hg hf
  | fork c k => cases h
  | thread k => cases h; exact ⟨_, _, rfl, .mk hg hf⟩
  | await a t d l k => cases h
/-- a yield over another generator: one step of the real machine, two of the second -/
theorem over_rel {s s1 s1' s1'' : Shared} {t t1 t1' t1'' : Thread} (r : Rel s t s1 t1) (ho : overYield t) (h : (plus P w).step s1 t1 = .go s1' t1') (h2 : (plus P w).step s1' t1' = .go s1'' t1'') :
    ∃ s' t', step (denote table) P w s t = .go s' t' ∧ Rel s' t' s1'' t1'' ∧ ∃ v g l k a fs b rest, t.cur = .yield v g l k ∧ splitAtGen t.stack = some (fs, b, rest) ∧ fs.any Frame.guarded = false ∧ overOf t.code = some a ∧ (g = true → genAt (s.heap.get? a) = true) := by
  obtain ⟨hg, hf⟩ := r
  rename_i hp gs dr tk os gs1 cur code pos st st1
  obtain ⟨v, g, l, k, a, e1, e2⟩ := ho
  have e1 : cur = .yield v g l k := e1
  have e2 : overOf code = some a := e2
  subst e1
  have em : mk code (.yield v g l k) = .loadIfAlive a fun o => .yield v (g && !genAt o) (if g && genAt o then markV :: plainL l else plainL l) fun x => mk code (k x) := by simp only [mk, e2]
  rw [em] at h
  have h := (step_loadIfAlive (plus P w) ⟨hp, gs1, dr, tk, os⟩ code pos st1 a _).symm.trans h
  cases h
  rcases hf.split with ⟨q1, q2⟩ | ⟨pre, i, kk, c, p, rest, pre', rest', q1, q2, q3, q4⟩
  · obtain ⟨why, h5⟩ := step_yield_none (plus P w) ⟨hp, gs1, dr, tk, os⟩ code pos st1 v (g && !genAt (hp.get? a)) (if g && genAt (hp.get? a) then markV :: plainL l else plainL l) (fun x => mk code (k x)) q2
    have h := h5.symm.trans h2; cases h
  · cases hq : (End.susp v (g && !genAt (hp.get? a)) (if g && genAt (hp.get? a) then markV :: plainL l else plainL l) (fun x => mk code (k x)) code pos pre').quiet with
    | false => have h := (step_yield_loud (plus P w) ⟨hp, gs1, dr, tk, os⟩ code pos st1 v _ _ (fun x => mk code (k x)) q2 hq).symm.trans h2; cases h
    | true =>
      have h := (step_yield (plus P w) ⟨hp, gs1, dr, tk, os⟩ code pos st1 v _ _ (fun x => mk code (k x)) q2 hq).symm.trans h2
      cases h
      simp only [End.quiet, Bool.not_eq_true', Bool.or_eq_false_iff] at hq
      obtain ⟨z1, z2⟩ := hq
      have z3 := z2
      rw [q3.guard] at z2
      refine ⟨_, _, by simp only [step, q1], .mk (hg.set (.susp (l := l) (cl := g || pre.any Frame.guarded) q3 ?_)) q4, v, g, l, k, a, pre, _, rest, rfl, q1, z2, e2, fun hgt => ?_⟩
      · cases g with
        | false => left; rw [q3.guard]; rfl
        | true =>
          right
          have z4 : genAt (hp.get? a) = true := by simpa using z1
          refine ⟨rfl, ?_, ?_, ⟨a, e2⟩, z2⟩
          · rw [z4, z3]; rfl
          · rw [z4]; rfl
      · subst hgt
        simpa using z1
end
end Ssp

/-! .. up to the scheduler. -/
namespace Ssp
open PySem PySem.Spec PyProof.Rows Ssg
theorem over_shape {c : Code} {a : Addr} (h : overOf c = some a) : ∃ r kw, c = .builtin "proto.yield_from" ⟨.ref a :: r, kw⟩ := by
  unfold overOf at h
  split at h
  · cases h; exact ⟨_, _, rfl⟩
  · cases h
theorem shows_no {s : Shared} {fs : List Frame} {c : Code} {a : Addr} {g : Bool} (hr : s.heap.life.registered = []) (hf : fs.any Frame.guarded = false) (ho : overOf c = some a) (hg : g = true → genAt (s.heap.get? a) = true) : closingShows s fs c g = false := by
  obtain ⟨r, kw, rfl⟩ := over_shape ho
  unfold closingShows
  rw [hf, Bool.false_or]
  cases g with
  | false => rfl
  | true =>
    have h := hg rfl
    show (true && delegateShows s (.ref a)) = false
    unfold delegateShows
    unfold genAt at h
    cases e : s.heap.get? a with
    | none => rw [e] at h; cases h
    | some o =>
      rw [e] at h
      have h : o.genNumber?.isSome = true := h
      cases e2 : o.genNumber? with
      | none => rw [e2] at h; cases h
      | some n => simp [e, e2, hr]
section
variable {P : Program} {w : World} {den : Code → Sem Fin}
theorem pick_yield {s : Shared} {v : Value} {g : Bool} {l : List Value} {k : Resume → Sem Fin} {c : Code} {p : Pos} {st : List Frame} (hr : s.heap.life.registered = []) :
    (Config.single s ⟨.yield v g l k, c, p, st⟩).pick w = .ok (.run 0, .single s ⟨.yield v g l k, c, p, st⟩) := by
  have q1 : (Config.single s ⟨.yield v g l k, c, p, st⟩).collect? w.params = none := by simp [Config.collect?, Config.single, (nothing_to_collect _ _ _ s _ hr).1]
  have q2 : (Config.single s ⟨.yield v g l k, c, p, st⟩).collectable = [] := by simp [Config.collectable, Config.single, (nothing_to_collect w.params _ _ s _ hr).2]
  have q3 : (Config.single s ⟨.yield v g l k, c, p, st⟩).moves w.params.profile = [.run 0] := by simp [Config.moves, Config.single, movesFrom, Thread.moves]
  simp only [Config.pick, q1, q2, Config.pickThread, q3]
  cases w.params.lifetimes <;> simp
theorem life_yield {s : Shared} {v : Value} {g : Bool} {l : List Value} {k : Resume → Sem Fin} {c : Code} {p : Pos} {st fs rest : List Frame} {b : Nat × (GenResult → Sem Fin) × Code × Pos} {others : List Value} (hz : s.asleep) (hs : splitAtGen st = some (fs, b, rest)) (hc : closingShows s fs c g = false) :
    lifeStep den P w others s ⟨.yield v g l k, c, p, st⟩ = step den P w s ⟨.yield v g l k, c, p, st⟩ := by
  cases hq : Thread.special ⟨.yield v g l k, c, p, st⟩ with
  | false => exact lifeStep_eq_step den P w others s _ hq hz.2
  | true =>
    unfold lifeStep
    rw [if_pos hq]
    simp only [collectorTurn?, hs, hc, Bool.false_and, Bool.false_eq_true, if_false, Thread.atItsEnd, stepCounting, hz.2]
theorem run_yield {s : Shared} {v : Value} {g : Bool} {l : List Value} {k : Resume → Sem Fin} {c : Code} {p : Pos} {st : List Frame} (hl : ∀ others, lifeStep den P w others s ⟨.yield v g l k, c, p, st⟩ = step den P w s ⟨.yield v g l k, c, p, st⟩) :
    (Config.single s ⟨.yield v g l k, c, p, st⟩).run den P w 0 = (step den P w s ⟨.yield v g l k, c, p, st⟩).lift := by
  simp only [Config.run, Config.single]
  simp [hl, others_single, Thread.finalizes]
  split <;> simp_all [Step.lift, Config.single]
theorem sstep_yield {s : Shared} {v : Value} {g : Bool} {l : List Value} {k : Resume → Sem Fin} {c : Code} {p : Pos} {st fs rest : List Frame} {b : Nat × (GenResult → Sem Fin) × Code × Pos} (hz : s.asleep) (hs : splitAtGen st = some (fs, b, rest)) (hc : closingShows s fs c g = false) :
    sstep den P w (.single s ⟨.yield v g l k, c, p, st⟩) = (step den P w s ⟨.yield v g l k, c, p, st⟩).lift := by
  simp only [sstep, pick_yield hz.1, Config.move, run_yield fun o => life_yield hz hs hc]
/-- a calm thread that is not at its end -/
theorem sstep_calm {s : Shared} {t : Thread} (hz : s.asleep) (hc : t.calm = true) (he : t.atItsEnd = false) : sstep den P w (.single s t) = (step den P w s t).lift := by
  have hl : ∀ others, lifeStep den P w others s t = step den P w s t := fun others => by
    rw [lifeStep_calm0 den P w others s t hc hz, he]; rfl
  simp only [sstep, pick_single w s t hc hz.1, Config.move, run_single den P w s t hc hl]
/-- at its end -/
theorem sstep_end {s : Shared} {t : Thread} {o : Outcome} (hz : s.asleep) (hc : t.calm = true) (he : t.atItsEnd = true) (hs : step den P w (forgetSuspended (w.params.lifetimes == .anyTime) s) t = .halt o (forgetSuspended (w.params.lifetimes == .anyTime) s)) :
    sstep den P w (.single s t) = .halt o (forgetSuspended (w.params.lifetimes == .anyTime) s) := by
  have hl : ∀ others, lifeStep den P w others s t = .halt o (forgetSuspended (w.params.lifetimes == .anyTime) s) := fun others => by
    rw [lifeStep_calm0 den P w others s t hc hz, he, if_pos rfl, hs]
  simp only [sstep, pick_single w s t hc hz.1, Config.move]
  obtain ⟨cur, code, pos, stack⟩ := t
  cases cur with
  | pure a => simp only [Config.run, Config.single]; (cases a <;> simp_all [Thread.atItsEnd, others_single, Thread.finalizes, frozenBadly, ThreadState.insideWrite])
  | raise a => simp only [Config.run, Config.single]; simp [hl, others_single, Thread.finalizes, frozenBadly, ThreadState.insideWrite]
  | finish a => simp only [Config.run, Config.single]; simp [hl, others_single, Thread.finalizes, frozenBadly, ThreadState.insideWrite]
  | _ => cases he
/-! ### the whole run -/
theorem mk_pure {α : Type} {c : Code} {m : Sem α} {a : α} (h : mk c m = .pure a) : m = .pure a := by
  cases m with
  | yield v g l k => simp only [mk] at h; split at h <;> cases h
  | pure b => exact h
  | _ => cases h
theorem calm_of {s s1 : Shared} {t t1 : Thread} (r : Rel s t s1 t1) (hn : ¬ overYield t) (hl : t1.loud = false) (hr : t.refused = false) : t.calm = true := by
  obtain ⟨hg, hf⟩ := r
  rename_i hp gs dr tk os gs1 cur code pos st st1
  have e : Thread.loud ⟨cur, code, pos, st⟩ = false := by
    cases cur with
    | yield v g l k =>
      have ho : overOf code = none := by
        cases e : overOf code with
        | none => rfl
        | some a => exact absurd ⟨v, g, l, k, a, rfl, e⟩ hn
      have em : mk code (.yield v g l k) = .yield v g l fun x => mk code (k x) := by simp only [mk, ho]
      rw [em] at hl
      rcases hf.split with ⟨q1, q2⟩ | ⟨pre, i, kk, c, p, rest, pre', rest', q1, q2, q3, q4⟩
      · simp only [Thread.loud, Thread.atCollectorCode, Thread.yieldsInsideHandler, q1, q2] at hl ⊢
        exact hl
      · rw [Thread.loud_yield v g _ _ code pos q2, q3.guard] at hl
        rw [Thread.loud_yield v g _ _ code pos q1]
        exact hl
    | pure f => exact hl
    | _ => rfl
  rw [Thread.calm_eq, e, hr]; rfl
theorem forget_ok {s s1 : Shared} {b : Bool} (hp : s.heap = s1.heap) (hr : s.heap.life.registered = []) (hg : GRs s.gens s1.gens) (hf : FinOk s1) : leftWithCleanup (forgetSuspended b s).gens = false := by
  unfold leftWithCleanup forgetSuspended
  rw [Array.any_map]
  rw [Array.any_eq_false]
  intro i hi
  have hx : s.gens[i]? = some s.gens[i] := Array.getElem?_eq_getElem hi
  obtain ⟨y, hy, r⟩ := hg.at_ i _ hx
  have hl := hf.1
  unfold leftWithCleanup at hl
  rw [Array.any_eq_false] at hl
  have hi1 := (Array.getElem?_eq_some_iff.mp hy).1
  have hy1 := (Array.getElem?_eq_some_iff.mp hy).2
  have hl := hl i hi1
  rw [hy1] at hl
  generalize s.gens[i] = x at r
  cases r with
  | same ha => cases y <;> first | (intro h; cases h; done) | cases ha
  | @susp k l c p fs cl l' fs' cl' f d =>
    cases cl with
    | false => intro h; cases h
    | true =>
      rcases d with d | ⟨_, _, hm, ⟨a, ha⟩, hgd⟩
      · subst d; exact absurd rfl hl
      · have hgn := hf.2 i _ _ _ _ _ _ a hy ha hm
        have := shows_no (s := s) (fs := fs) (g := true) hr hgd ha (fun _ => by rw [hp]; exact hgn)
        simp only [Function.comp, this, Bool.not_false, Bool.or_true, if_true]
        intro h; cases h
theorem refused_of {s s1 : Shared} {t t1 : Thread} (r : Rel s t s1 t1) : t1.refused = t.refused := by
  obtain ⟨hg, hf⟩ := r
  rename_i hp gs dr tk os gs1 cur code pos st st1
  cases cur with
  | yield v g l k => show Thread.refused ⟨mk code (.yield v g l k), _, _, _⟩ = _; unfold mk; split <;> rfl
  | _ => rfl
/-- the second machine stops: at its end -/
theorem end_rel {s s1 s1' : Shared} {t t1 : Thread} {o : Outcome} (r : Rel s t s1 t1) (hz : s.asleep) (hn : ¬ overYield t) (h : (plus P w).step s1 t1 = .halt o s1') (ho : o.ends = true) (hf : FinOk s1') :
    ∃ s', sstep (denote table) P w (.single s t) = .halt o s' ∧ s'.heap = s1'.heap ∧ s'.os = s1'.os ∧ s'.heap.life = s.heap.life := by
  have hloud : t1.loud = false := by
    cases e : t1.loud with
    | false => rfl
    | true => have h := ((plus P w).step_loud e).symm.trans h; cases h; exact absurd ho (by simp [Outcome.ends])
  have hk := ((plus P w).step_quiet (s := s1) hloud).symm.trans h
  have href : t.refused = false := by
    cases e : t.refused with
    | false => rfl
    | true =>
      obtain ⟨what, q⟩ := stepK_refused (plus P w).den P w (s := s1) ((refused_of r).trans e)
      have h := q.symm.trans hk; cases h; exact absurd ho (by simp [Outcome.ends])
  have hc := calm_of r hn hloud href
  have main : ∀ {o' : Outcome}, t.atItsEnd = true → s1' = s1 → o = o' → (∀ x : Shared, leftWithCleanup x.gens = false → step (denote table) P w x t = .halt o' x) → s.heap = s1.heap → s.os = s1.os → GRs s.gens s1.gens → ∃ s', sstep (denote table) P w (.single s t) = .halt o s' ∧ s'.heap = s1'.heap ∧ s'.os = s1'.os ∧ s'.heap.life = s.heap.life := fun {o'} he e1 e2 hst e3 e4 e5 => by
    subst e1 e2
    refine ⟨_, sstep_end hz hc he (hst _ (forget_ok e3 hz.1 e5 hf)), e3, e4, rfl⟩
  obtain ⟨hg, hst⟩ := r
  rename_i hp gs dr tk os gs1 cur code pos st st1
  cases cur with
  | pure fin =>
    cases fin with
    | again c => cases h2 : c.quiet with
      | false => have h := (step_again_loud (plus P w) ⟨hp, gs1, dr, tk, os⟩ code pos st1 c h2).symm.trans h; cases h; exact absurd ho (by simp [Outcome.ends])
      | true => have h := (step_again (plus P w) ⟨hp, gs1, dr, tk, os⟩ code pos st1 c h2).symm.trans h; cases h
    | done f =>
      cases hst with
      | cons x y => cases x with
        | ret => have h := (step_leaf_ret (plus P w) ⟨hp, gs1, dr, tk, os⟩ code pos _ (.ok f) _ _ _ _ _ _ _).symm.trans h; cases h
        | gen => have h := (step_leaf_gen (plus P w) ⟨hp, gs1, dr, tk, os⟩ code pos _ (.ok f) _ _ _ _ _).symm.trans h; cases h
      | nil =>
        have h := (step_leaf_nil (plus P w) ⟨hp, gs1, dr, tk, os⟩ code pos (.ok f)).symm.trans h
        unfold finish at h
        split at h
        · cases h; exact absurd ho (by simp [Outcome.ends])
        · cases h
          exact main rfl rfl rfl (fun x hx => by show finish _ _ = _; unfold finish; rw [if_neg (by rw [hx]; decide)]; rfl) rfl rfl hg
  | raise e =>
    cases hst with
    | cons x y => cases x with
      | ret => have h := (step_leaf_ret (plus P w) ⟨hp, gs1, dr, tk, os⟩ code pos _ (.error e) _ _ _ _ _ _ _).symm.trans h; cases h
      | gen => have h := (step_leaf_gen (plus P w) ⟨hp, gs1, dr, tk, os⟩ code pos _ (.error e) _ _ _ _ _).symm.trans h; cases h
    | nil =>
      have h := (step_leaf_nil (plus P w) ⟨hp, gs1, dr, tk, os⟩ code pos (.error e)).symm.trans h
      unfold finish at h
      split at h
      · cases h; exact absurd ho (by simp [Outcome.ends])
      · cases h
        exact main rfl rfl rfl (fun x hx => by show finish _ _ = _; unfold finish; rw [if_neg (by rw [hx]; decide)]; rfl) rfl rfl hg
  | finish x =>
    have h := (step_finish (plus P w) ⟨hp, gs1, dr, tk, os⟩ code pos st1 x).symm.trans h
    unfold finish at h
    split at h
    · cases h; exact absurd ho (by simp [Outcome.ends])
    · cases h
      exact main rfl rfl rfl (fun y hx => by show (if leftWithCleanup y.gens = true then _ else _) = _; rw [if_neg (by rw [hx]; decide)]) rfl rfl hg
  | unsupported x => cases h; exact absurd ho (by simp [Outcome.ends])
  | load a part k =>
    cases e : hp.get? a with
    | none => obtain ⟨why, h1⟩ := step_load_none (plus P w) ⟨hp, gs1, dr, tk, os⟩ code pos st1 part (fun o => mk code (k o)) e; have h := h1.symm.trans h; cases h; exact absurd ho (by simp [Outcome.ends])
    | some ob => have h := (step_load (plus P w) ⟨hp, gs1, dr, tk, os⟩ code pos st1 part (fun o => mk code (k o)) e).symm.trans h; cases h
  | update a part f k =>
    by_cases e : (hp.get? a).isSome = true
    · have h := (step_update (plus P w) ⟨hp, gs1, dr, tk, os⟩ code pos st1 part f (fun o => mk code (k o)) e).symm.trans h; cases h
    · obtain ⟨why, h1⟩ := step_update_none (plus P w) ⟨hp, gs1, dr, tk, os⟩ code pos st1 part f (fun o => mk code (k o)) e; have h := h1.symm.trans h; cases h; exact absurd ho (by simp [Outcome.ends])
  | choose src n k =>
    by_cases e : n = 0
    · subst e
      obtain ⟨why, h1⟩ := step_choose_zero (plus P w) ⟨hp, gs1, dr, tk, os⟩ code pos st1 src (fun o => mk code (k o)); have h := h1.symm.trans h; cases h; exact absurd ho (by simp [Outcome.ends])
    · have h := (step_choose (plus P w) ⟨hp, gs1, dr, tk, os⟩ code pos st1 src (fun o => mk code (k o)) e).symm.trans h; cases h
  | genState g k =>
    cases e : gs1[g]? with
    | none => obtain ⟨why, h1⟩ := step_genState_none (plus P w) ⟨hp, gs1, dr, tk, os⟩ code pos st1 (fun o => mk code (k o)) e; have h := h1.symm.trans h; cases h; exact absurd ho (by simp [Outcome.ends])
    | some y => have h := (step_genState (plus P w) ⟨hp, gs1, dr, tk, os⟩ code pos st1 (fun o => mk code (k o)) e).symm.trans h; cases h
  | handled own k => have h := (step_handled (plus P w) ⟨hp, gs1, dr, tk, os⟩ code pos st1 own (fun o => mk code (k o))).symm.trans h; cases h
  | resume g r l k =>
    cases e : gs1[g]? with
    | none => obtain ⟨why, h1⟩ := step_resume_none (plus P w) ⟨hp, gs1, dr, tk, os⟩ code pos st1 r l (fun o => mk code (k o)) e; have h := h1.symm.trans h; cases h; exact absurd ho (by simp [Outcome.ends])
    | some y =>
      cases y with
      | suspended => have h := (step_resume_suspended (plus P w) ⟨hp, gs1, dr, tk, os⟩ code pos st1 r l (fun o => mk code (k o)) e).symm.trans h; cases h
      | running => have h := (step_resume_running (plus P w) ⟨hp, gs1, dr, tk, os⟩ code pos st1 r l (fun o => mk code (k o)) e).symm.trans h; cases h
      | finished => have h := (step_resume_finished (plus P w) ⟨hp, gs1, dr, tk, os⟩ code pos st1 r l (fun o => mk code (k o)) e).symm.trans h; cases h
      | fresh c =>
        cases r with
        | throw v => have h := (step_resume_throwFresh (plus P w) ⟨hp, gs1, dr, tk, os⟩ code pos st1 v l (fun o => mk code (k o)) e).symm.trans h; cases h
        | send v =>
          by_cases hv : v = .none
          · subst hv
            have h := (step_resume_fresh (plus P w) ⟨hp, gs1, dr, tk, os⟩ code pos st1 l (fun o => mk code (k o)) e).symm.trans h; cases h
          · have h := (step_resume_justStarted (plus P w) ⟨hp, gs1, dr, tk, os⟩ code pos st1 l (fun o => mk code (k o)) e hv).symm.trans h; cases h
  | yield v g l k =>
    have ho2 : overOf code = none := by
      cases e : overOf code with
      | none => rfl
      | some a => exact absurd ⟨v, g, l, k, a, rfl, e⟩ hn
    have em : mk code (.yield v g l k) = .yield v g l fun x => mk code (k x) := by simp only [mk, ho2]
    rw [em] at h
    rcases hst.split with ⟨q1, q2⟩ | ⟨pre, i, kk, c, p, rest, pre', rest', q1, q2, q3, q4⟩
    · obtain ⟨why, h5⟩ := step_yield_none (plus P w) ⟨hp, gs1, dr, tk, os⟩ code pos st1 v g l (fun x => mk code (k x)) q2
      have h := h5.symm.trans h; cases h; exact absurd ho (by simp [Outcome.ends])
    · cases hq : (End.susp v g l (fun x => mk code (k x)) code pos pre').quiet with
      | false => have h := (step_yield_loud (plus P w) ⟨hp, gs1, dr, tk, os⟩ code pos st1 v g l (fun x => mk code (k x)) q2 hq).symm.trans h; cases h; exact absurd ho (by simp [Outcome.ends])
      | true => have h := (step_yield (plus P w) ⟨hp, gs1, dr, tk, os⟩ code pos st1 v g l (fun x => mk code (k x)) q2 hq).symm.trans h; cases h
  | register a k => cases h; exact absurd ho (by simp [Outcome.ends])
  | fork c k => cases h; exact absurd ho (by simp [Outcome.ends])
  | await a t d l k => cases h; exact absurd ho (by simp [Outcome.ends])
  | _ => cases h
theorem over_halt1 {s s1 s2 : Shared} {t t1 : Thread} {o : Outcome} (r : Rel s t s1 t1) (hn : overYield t) (h1 : (plus P w).step s1 t1 = .halt o s2) : False := by
  obtain ⟨hg, hst⟩ := r
  rename_i hp gs dr tk os gs1 cur code pos st st1
  obtain ⟨v, g, l, k, a, e1, e2⟩ := hn
  have e1 : cur = .yield v g l k := e1
  have e2 : overOf code = some a := e2
  subst e1
  have em : mk code (.yield v g l k) = .loadIfAlive a fun o => .yield v (g && !genAt o) (if g && genAt o then markV :: plainL l else plainL l) fun x => mk code (k x) := by simp only [mk, e2]
  rw [em] at h1
  have h := (step_loadIfAlive (plus P w) ⟨hp, gs1, dr, tk, os⟩ code pos st1 a _).symm.trans h1
  cases h
theorem over_halt2 {s s1 s2 s3 : Shared} {t t1 t2 : Thread} {o : Outcome} (r : Rel s t s1 t1) (hn : overYield t) (h1 : (plus P w).step s1 t1 = .go s2 t2) (h2 : (plus P w).step s2 t2 = .halt o s3) (ho : o.ends = true) : False := by
  obtain ⟨hg, hst⟩ := r
  rename_i hp gs dr tk os gs1 cur code pos st st1
  obtain ⟨v, g, l, k, a, e1, e2⟩ := hn
  have e1 : cur = .yield v g l k := e1
  have e2 : overOf code = some a := e2
  subst e1
  have em : mk code (.yield v g l k) = .loadIfAlive a fun o => .yield v (g && !genAt o) (if g && genAt o then markV :: plainL l else plainL l) fun x => mk code (k x) := by simp only [mk, e2]
  rw [em] at h1
  have h := (step_loadIfAlive (plus P w) ⟨hp, gs1, dr, tk, os⟩ code pos st1 a _).symm.trans h1
  cases h
  rcases hst.split with ⟨q1, q2⟩ | ⟨pre, i, kk, c, p, rest, pre', rest', q1, q2, q3, q4⟩
  · obtain ⟨why, h5⟩ := step_yield_none (plus P w) ⟨hp, gs1, dr, tk, os⟩ code pos st1 v (g && !genAt (hp.get? a)) (if g && genAt (hp.get? a) then markV :: plainL l else plainL l) (fun x => mk code (k x)) q2
    have h := h5.symm.trans h2; cases h; exact absurd ho (by simp [Outcome.ends])
  · cases hq : (End.susp v (g && !genAt (hp.get? a)) (if g && genAt (hp.get? a) then markV :: plainL l else plainL l) (fun x => mk code (k x)) code pos pre').quiet with
    | false => have h := (step_yield_loud (plus P w) ⟨hp, gs1, dr, tk, os⟩ code pos st1 v _ _ (fun x => mk code (k x)) q2 hq).symm.trans h2; cases h; exact absurd ho (by simp [Outcome.ends])
    | true => have h := (step_yield (plus P w) ⟨hp, gs1, dr, tk, os⟩ code pos st1 v _ _ (fun x => mk code (k x)) q2 hq).symm.trans h2; cases h
theorem run_plus : ∀ (n : Nat) (s1 : Shared) (t1 : Thread) (o : Outcome) (s1' : Shared), (plus P w).runN n s1 t1 = .halted o s1' → o.ends = true → FinOk s1' → ∀ (s : Shared) (t : Thread), Rel s t s1 t1 → s.asleep →
    ∃ m s', schedN (denote table) P w m (.single s t) = .halted o s' ∧ s'.heap = s1'.heap ∧ s'.os = s1'.os ∧ s'.heap.life = s.heap.life := by
  intro n
  induction n using Nat.strongRecOn with
  | ind n ih =>
    intro s1 t1 o s1' h ho hf s t r hz
    cases n with
    | zero => cases h
    | succ n =>
      have h : (match (plus P w).step s1 t1 with | .go s' t' => (plus P w).runN n s' t' | .halt o s' => .halted o s') = .halted o s1' := h
      have one : ∀ {m : Nat} {s' : Shared} {t' : Thread} {x : Shared}, sstep (denote table) P w (.single s t) = .go (.single s' t') → schedN (denote table) P w m (.single s' t') = .halted o x → schedN (denote table) P w (m + 1) (.single s t) = .halted o x := fun {m s' t' x} a b => by
        show (match sstep (denote table) P w (.single s t) with | .go c' => schedN (denote table) P w m c' | .halt o s => .halted o s) = _
        rw [a]; exact b
      by_cases hn : overYield t
      · cases h1 : (plus P w).step s1 t1 with
        | halt o2 s2 =>
          exact (over_halt1 r hn h1).elim
        | go s2 t2 =>
          rw [h1] at h
          cases n with
          | zero => cases h
          | succ n =>
            have h : (match (plus P w).step s2 t2 with | .go s' t' => (plus P w).runN n s' t' | .halt o s' => .halted o s') = .halted o s1' := h
            cases h2 : (plus P w).step s2 t2 with
            | halt o3 s3 =>
              rw [h2] at h
              cases h
              exact (over_halt2 r hn h1 h2 ho).elim
            | go s3 t3 =>
              rw [h2] at h
              obtain ⟨s', t', hst, r', v, g, l, k, a, fs, b, rest, e1, e2, e3, e4, e5⟩ := over_rel r hn h1 h2
              obtain ⟨m, x, q1, q2, q3, q4⟩ := ih n (by omega) s3 t3 o s1' h ho hf s' t' r' (Shared.asleep_of_life (step_life _ _ _ _ _ _ _ hst) hz)
              refine ⟨m + 1, x, one ?_ q1, q2, q3, q4.trans (step_life _ _ _ _ _ _ _ hst)⟩
              obtain ⟨cur, code, pos, st⟩ := t
              have e1 : cur = .yield v g l k := e1
              subst e1
              rw [sstep_yield hz e2 (shows_no hz.1 e3 e4 e5), hst]; rfl
      · cases h1 : (plus P w).step s1 t1 with
        | halt o2 s2 =>
          rw [h1] at h
          cases h
          obtain ⟨s', q1, q2, q3⟩ := end_rel r hz hn h1 ho hf
          refine ⟨1, s', ?_, q2, q3⟩
          show (match sstep (denote table) P w (.single s t) with | .go c' => schedN (denote table) P w 0 c' | .halt o s => .halted o s) = _
          rw [q1]
        | go s2 t2 =>
          rw [h1] at h
          obtain ⟨s', t', hst, r'⟩ := step_rel r hn h1
          obtain ⟨m, x, q1, q2, q3, q4⟩ := ih n (by omega) s2 t2 o s1' h ho hf s' t' r' (Shared.asleep_of_life (step_life _ _ _ _ _ _ _ hst) hz)
          have hloud : t1.loud = false := by
            cases e : t1.loud with
            | false => rfl
            | true => have h := ((plus P w).step_loud e).symm.trans h1; cases h
          have href : t.refused = false := by
            cases e : t.refused with
            | false => rfl
            | true =>
              obtain ⟨what, q⟩ := stepK_refused (plus P w).den P w (s := s1) ((refused_of r).trans e)
              have hk := ((plus P w).step_quiet (s := s1) hloud).symm.trans h1
              have h := q.symm.trans hk; cases h
          have hc := calm_of r hn hloud href
          have he : t.atItsEnd = false := by
            cases e : t.atItsEnd with
            | false => rfl
            | true =>
              exfalso
              obtain ⟨cur, code, pos, st⟩ := t
              cases cur with
              | pure f =>
                cases f with
                | again c => cases e
                | done f =>
                  cases st with
                  | cons => cases e
                  | nil => have hst : finish _ s = _ := hst; unfold finish at hst; split at hst <;> cases hst
              | raise x =>
                cases st with
                | cons => cases e
                | nil => have hst : finish _ s = _ := hst; unfold finish at hst; split at hst <;> cases hst
              | finish x =>
                have hst : (if leftWithCleanup s.gens = true then _ else _) = _ := hst
                split at hst <;> cases hst
              | _ => cases e
          refine ⟨m + 1, x, one ?_ q1, q2, q3, q4.trans (step_life _ _ _ _ _ _ _ hst)⟩
          rw [sstep_calm hz hc he, hst]; rfl
/-- THE END: what is shown on the second machine holds of the real one -/
theorem plus_ends {t : Sem Fin} {s : Shared} {R : Result → Shared → Prop} (hz : s.asleep) (hg : s.gens = #[])
    (h : wpAny (plus P w) callerA t (fun fin s' => ∃ f, fin = .done f ∧ R (.ok f) s' ∧ FinOk s') (fun e s' => R (.error e) s' ∧ FinOk s') s) :
    ∃ m r s' s2, schedN (denote table) P w m (.single s ⟨t, .builtin "claim.caller" {}, default, []⟩) = .halted (outcomeOf r) s' ∧ s'.heap = s2.heap ∧ s'.os = s2.os ∧ s'.heap.life = s.heap.life ∧ R r s2 := by
  have h1 : wpAny (plus P w) callerA (mk (.builtin "claim.caller" {}) t) (fun fin s' => ∃ f, fin = .done f ∧ (fun r s' => (R r s' ∧ FinOk s') ∧ leftWithCleanup s'.gens = false) (.ok f) s') (fun e s' => (fun r s' => (R r s' ∧ FinOk s') ∧ leftWithCleanup s'.gens = false) (.error e) s') s := fun Γ p hΓ =>
    wp_mk _ t (Sem.wp_mono _ _ _ (fun a _ s' ⟨f, e, a, b⟩ => ⟨f, e, ⟨a, b⟩, b.1⟩) (fun _ _ _ ⟨a, b⟩ => ⟨⟨a, b⟩, b.1⟩) _ _ (h Γ p hΓ))
  obtain ⟨n, r, s2, hn, hR, hF⟩ := (wp_iff_halts (M := plus P w) (c := .builtin "claim.caller" {}) (mk (.builtin "claim.caller" {}) t) (fun r s' => R r s' ∧ FinOk s') default s).mp (wp_of_wpAny_done (R := fun r s' => (R r s' ∧ FinOk s') ∧ leftWithCleanup s'.gens = false) caller_in h1 default)
  obtain ⟨m, s', q1, q2, q3, q4⟩ := run_plus n s _ _ s2 hn (outcomeOf_ends r) hF s ⟨t, .builtin "claim.caller" {}, default, []⟩ (by
    obtain ⟨hp, gs, dr, tk, os⟩ := s
    exact .mk ⟨rfl, fun i x hx => ⟨x, hx, by
      have hg : gs = #[] := hg
      rw [hg] at hx; simp at hx⟩⟩ .nil) hz
  exact ⟨m, r, s', s2, q1, q2, q3, q4, hR⟩
end
end Ssp

/-! The end of a law, by a promise on the second machine. -/
namespace Ssp
open PySem PySem.Spec PySem.W PySem.Calls PyProof.Rows Ssg L2
/-- a def's promise on the second machine: besides, the generators are left as they were -/
structure FnP (P : Program) (w : World) (K : PySem.W.Frag) (mg : Str → Option Value) (base : Heap) (CX : CXT) (k : Nat) (f : Addr) (fd : FuncData) (ps : List Str) (sp : Sp) : Prop where
  len : ∀ vs H Q E, sp vs H Q E → vs.length = ps.length
  run : ∀ (A : Around) (outer : List Env) (s : Shared) (H : Hp) (args : Args) (us : List Value) (vs : List V) (Q : VK) (E : XK), Room k A → Env0 P w K mg base A outer s H → BindsTo s fd args (ps.zip us) →
    Vals vs us → sp vs H Q E → codeAny (plus P w) A (.call (.ref f) args) (fun r s' => CR CX outer P w H s Q E r s' ∧ Calm s s') s
theorem fin_ok {s s' : Shared} (hg : s.gens = #[]) (hb : AllBare s'.gens) (hc : Calm s s') : FinOk s' := by
  refine ⟨leftWithCleanup_false_of_bare hb, fun i k l c p fs cl a hx ho hm => ?_⟩
  have := hc.left i _ hx (by show ((overOf c).isSome && l.any isMark) = true; rw [ho, hm]; rfl)
  rw [hg] at this
  simp at this
/-- the law's call, from its def's promise -/
theorem plus_call {P : Program} {w : World} {K : PySem.W.Frag} {mg mb : Str → Option Value} {k : Nat} {fa a : Addr} {fd : FuncData} {x : Str} {sp : Sp} {s1 : Shared} {vs : List Value} {ns : List Int}
    (KX : K.In s1.heap) (g1 : s1.heap.Ns mainGlobals mg) (g2 : s1.heap.Ns builtinsNs mb) (g3 : ∀ y : Str, y ≠ "__name__" → mb y = bootBuiltins y) (g4 : s1.heap.NoLimit) (hg : s1.gens = #[])
    (ha : s1.heap.get? a = some { cls := .type "list", data := .seq vs.toArray }) (hi : IntsAre vs ns) (hl : ns.length ≤ sizeLine) (hr : Room k callerA)
    (F : ∀ base : Heap, K.In base → base.Ns mainGlobals mg → FnP P w K mg base CX0 k fa fd [x] sp)
    (hbind : ∀ (s : Shared) (u : Value), BindsTo s fd ⟨[u], []⟩ [(x, u)])
    (hsp : ∀ H : Hp, Only H → SqL K H a (ns.map V.int) → sp [.ref a] H (fun v _ => v = .bl true) fun _ _ _ => False) :
    codeAny (plus P w) callerA (.call (.ref fa) ⟨[.ref a], []⟩) (fun r s' => (r = .ok (.ret (.bool true)) ∧ OldK s1.heap s'.heap ∧ s'.os = s1.os ∧ AllBare s'.gens) ∧ FinOk s') s1 := by
  have rv := vals_ints hi
  have nv := hi.length
  have from_ : ∀ H : Hp, Only H → SqL K H a (ns.map V.int) → HOk P w H s1.heap → (∀ b, H b ≠ none → b = a) → (H a ≠ none → K.lookup a = none) →
      codeAny (plus P w) callerA (.call (.ref fa) ⟨[.ref a], []⟩) (fun r s' => (r = .ok (.ret (.bool true)) ∧ OldK s1.heap s'.heap ∧ s'.os = s1.os ∧ AllBare s'.gens) ∧ FinOk s') s1 := by
    intro H hO hS hok hA hK
    have only_a : ∀ {b : Addr} {u : HO}, H b = some u → b = a := fun q => hA _ (by rw [q]; exact fun z => nomatch z)
    have gb : ∀ {b : Addr} {o : Obj} {es : Array DictEntry} {ep : Nat}, s1.heap.get? b = some o → o.data = .dict es ep → (hidT s1.heap H).get? b = some o := fun {b o es ep} e d => hidT_get e (by
      cases q : H b with
      | none => rfl
      | some u =>
        have := only_a q
        subst this
        rw [ha] at e
        cases e
        cases d)
    have nsK : ∀ {b : Addr} {m : Str → Option Value}, s1.heap.Ns b m → (hidT s1.heap H).Ns b m := fun ⟨o, es, ep, e, d, r⟩ => ⟨o, es, ep, gb e d, d, r⟩
    have hKb : K.In (hidT s1.heap H) := fun b o e => hidT_get (KX b o e) (by
      cases q : H b with
      | none => rfl
      | some u =>
        have := only_a q
        subst this
        rw [hK (by rw [q]; exact fun z => nomatch z)] at e
        cases e)
    have e0 : Env0 P w K mg (hidT s1.heap H) callerA [] s1 H :=
      ⟨rfl, ⟨hKb, nsK g1, ⟨mb, nsK g2, g3⟩, g4.elim fun mc h => ⟨mc, nsK h.1, h.2⟩⟩, fun b o e => of_hidT e, by rw [hidT_size]; exact Nat.le_refl _, trivial, fun b hb => (by cases hb), hok, .of_eq hg⟩
    have run := (F _ hKb (nsK g1)).run callerA [] s1 H ⟨[.ref a], []⟩ [.ref a] [.ref a] _ _ hr e0 (hbind s1 (.ref a)) (.cons rfl .nil) (hsp H hO hS)
    refine codeAny_mono run fun r s' ⟨h, hc⟩ => ?_
    match r, h with
    | .error e, h => exact absurd h (fun h => h)
    | .ok .next, h => exact h.elim
    | .ok .brk, h => exact h.elim
    | .ok .cont, h => exact h.elim
    | .ok (.ret u), h =>
      obtain ⟨v, H', os, bare, un, hok', r', q⟩ := h
      have q : v = .bl true := q
      subst q
      have r' : u = Value.bool true := r'
      subst r'
      refine ⟨⟨rfl, OldK.of_keep fun b o e => ?_, os, bare⟩, fin_ok hg bare hc⟩
      rcases hO b with z | ⟨ob, xs, z⟩
      · exact un.keep b o e z (fun h => by cases h) (fun h => by cases h)
      · obtain ⟨e1, _⟩ := hok b _ z
        obtain ⟨e2, _⟩ := hok' b _ (un.frzs b ob _ z)
        rw [e] at e1
        cases e1
        exact e2
  cases hk : K.lookup a with
  | some o =>
    have e := KX a o hk
    rw [ha] at e
    cases e
    exact from_ (fun _ => none) (fun _ => .inl rfl) (.inr ⟨_, vs.toArray, _, hk, rfl, rfl, rfl, by rw [List.size_toArray, nv]; exact hl, by simpa using rv⟩) (fun b u z => by cases z) (fun b z => absurd rfl z) fun z => absurd rfl z
  | none =>
    have at_ : ∀ {b : Addr}, b = a → (fun b => if b = a then some (HO.frz { cls := .type "list", data := .seq vs.toArray } (.lst (ns.map V.int))) else none : Hp) b = some (.frz { cls := .type "list", data := .seq vs.toArray } (.lst (ns.map V.int))) := fun h => if_pos h
    have off : ∀ {b : Addr}, b ≠ a → (fun b => if b = a then some (HO.frz { cls := .type "list", data := .seq vs.toArray } (.lst (ns.map V.int))) else none : Hp) b = none := fun h => if_neg h
    refine from_ (fun b => if b = a then some (HO.frz { cls := .type "list", data := .seq vs.toArray } (.lst (ns.map V.int))) else none) (fun b => ?_) (.inl (.inr ⟨_, at_ rfl⟩)) (fun b u z => ?_) (fun b z => ?_) fun _ => hk
    · by_cases hb : b = a
      · exact .inr ⟨_, _, at_ hb⟩
      · exact .inl (off hb)
    · by_cases hb : b = a
      · rw [at_ hb] at z
        cases z
        subst hb
        exact ⟨ha, by rw [List.length_map]; exact hl, vs, _, rv, ha⟩
      · rw [off hb] at z; cases z
    · by_cases hb : b = a
      · exact hb
      · exact absurd (off hb) z
/-- what the head wants of the call, on the second machine -/
def WalkP (q : Program) (loose : List Str) (XP : (Str → Option Value) → Heap → Prop) (YP : World → Heap → Prop) (r : RowW) (d : DefRec) (kwd : List (Str × Expr)) : Prop :=
  ∀ (w : World) (s0 s1 : Shared) (mg mb : Str → Option Value), Ground q loose r.records XP w s0 mg mb s1.heap → YP w s1.heap →
    ∀ (a : Addr) (o : Obj) (pm cd doc dV kV : Value), s1.heap.get? a = some o → o.data = .func { docDef d.name d.params d.body d.scope pm cd doc with defaults := dV, kwdefaults := kV } →
      s1.heap.CodeRec cd d.name → Dflts mg s1.heap d.params kwd dV kV → mg d.name = some (.ref a) → s1.gens = #[] →
      ∀ (args : List WData) (vals : List Value) (as : List Addr), r.claim.pre args = true → WData.layableAll args = true → ReadsAllW r.records (classAt s0.heap) s1.heap vals args as → WellAll w.params s1.heap vals args →
        wpAny (plus r.prog w) callerA (PySem.call (.ref a) vals) (fun v s' => GoodWG r.claim (classAt s0.heap) (ExcName.means s0.heap) args s1 (.ok (.ret v)) s' ∧ FinOk s')
          (fun e s' => GoodWG r.claim (classAt s0.heap) (ExcName.means s0.heap) args s1 (.error e) s' ∧ FinOk s') s1
theorem walk_plus {l : OpenLaw} {n k : Nat} {q : Program} {loose : List Str} {XP : (Str → Option Value) → Heap → Prop} {YP : World → Heap → Prop} {d : DefRec} {K : Params → PySem.W.Frag} {sp : World → Sp} {x : Str}
    (hn : l.most = some n) (hn2 : n ≤ sizeLine) (hdf : d.params.defaults = []) (hr : Room k callerA) (hY : ∀ (w : World) (h : Heap), YP w h → (K w.params).In h)
    (F : ∀ (w : World) (mg : Str → Option Value) (fa : Addr) (h : Heap), (K w.params).In h → h.Ns mainGlobals mg → mg d.name = some (.ref fa) →
      ∃ fd : FuncData, (∀ (s : Shared) (u : Value), BindsTo s fd ⟨[u], []⟩ [(x, u)]) ∧ ∀ base : Heap, (K w.params).In base → base.Ns mainGlobals mg → FnP l.prog w (K w.params) mg base CX0 k fa fd [x] (sp w))
    (hsp : ∀ (w : World) (H : Hp) (a : Addr) (ns : List Int), ns.length ≤ n → (∀ z ∈ ns, Builtin.Int.intBits z ≤ 1048576) → Only H → SqL (K w.params) H a (ns.map V.int) → sp w [.ref a] H (fun v _ => v = .bl true) fun _ _ _ => False) :
    WalkP q loose XP YP l.row.toRowW d [] := by
  intro w s0 s1 mg mb G Y fa o pm cd doc dV kV ho hd hcd hD hmg hg args vals as hpre hlay hrd hwl
  obtain rfl : dV = .none := Dflts.none hD hdf
  obtain rfl : kV = .none := Dflts.noKw hD
  obtain ⟨a, vs, ns, rfl, rfl, hobj, hints, hlen⟩ := Att.script_of hn hpre hwl
  have KX := hY w _ Y
  obtain ⟨fd, hb, hF⟩ := F w mg fa _ KX G.T.g hmg
  have C := plus_call (sp := sp w) KX G.T.g G.T.b G.T.builtins G.T.nolimit hg hobj hints (Nat.le_trans hlen hn2) hr hF hb fun H hO hS => hsp w H a ns hlen (Att.script_bits hlay) hO hS
  refine wpAny_call (codeAny_mono C fun r s' hq => ?_)
  obtain ⟨⟨rfl, h2, h3, h4⟩, h5⟩ := hq
  exact ⟨⟨.inl ⟨.bool true, .bool true, [], rfl, fun _ => rfl, .bool true, Att.post_true l _, fun _ => ⟨List.Pairwise.nil, fun _ hm => by cases hm⟩⟩, h2, h3, h4⟩, h5⟩
def EndP (r : OpenRow) (s s1 : Shared) (args : List WData) (vs : List Value) (res : Result) (s2 : Shared) : Prop :=
  r.toRowW.claim.Ends s args vs s1 res s2 ∧ s2.os = s.os ∧
    (r.writes = true → namesKept r.prog r.keeps s.heap s2.heap ∧ ∀ x ∈ r.records, ∀ a, classAt s.heap x.1 = some a → recordClass s2.heap a x.1 (x.2.map (·.1)) = true)
end Ssp
open PySem PySem.Spec PySem.W PySem.Calls PyProof.Rows in
/-- the head of an open row, by a call on the second machine; it stands in a namespace where o_head finds it -/
theorem Zh.PySem.W.holds_open {r : OpenRow} {q : Program} {loose : List Str} {Xt : Shared → Bool} {XP : (Str → Option Value) → Heap → Prop} {α : Type} {Yf : Shared → α} {Ya : World → α} {YP : World → Heap → Prop}
    {d : DefRec} {kwd : List (Str × Expr)} {N : Nat} (left : LeftO r.prog q loose Xt Yf Ya N)
    (g1 : ∀ w s, Yf s = Ya w → YP w s.heap) (g2 : ∀ w h h', YP w h → (∀ b o, h.get? b = some o → h'.get? b = some o) → YP w h')
    (g3 : ∀ s, Xt s = true → XP (s.heap.nsMap mainGlobals) s.heap)
    (g4 : ∀ mg h h', XP mg h → (∀ b o, h.get? b = some o → h'.get? b = some o) → XP mg h')
    (g5 : defOf q r.name = some (d, kwd)) (g6 : r.prog.theDef r.name = some (d.params, d.body, d.scope))
    (g7 : kwWritten? d.params.kwonlyargs d.params.kw_defaults = some kwd) (g8 : ∀ s, Xt s = true → RecFacts r.records s.heap)
    (g9 : (!r.writes || r.records.isEmpty) = true) (k1 : r.wellSaid = true)
    (ok : (chainsOk q && opensWell r.prog && (frees r.toRowW && r.within.isEmpty)) = true) (hb : r.prog.bare) (hw : r.toRowW.promised) (walk : Ssp.WalkP q loose XP YP r.toRowW d kwd) : r.Holds := by
  have ok' := ok
  simp only [Bool.and_eq_true] at ok'
  obtain ⟨⟨hch, o1⟩, k5, k6⟩ := ok'
  obtain ⟨hsame, hu, ha, hap, hm⟩ := frees_parts k5
  refine ⟨k1, hw, ⟨hb, o1, by show r.makers.map _ = []; rw [show r.makers = [] from hm]; rfl⟩, hw.witness, fun w => ?_⟩
  obtain ⟨b1, b2⟩ := left.behind (XP := fun mg h => XP mg h ∧ RecFacts r.records h) (fun s hs => ⟨g3 s hs, g8 s hs⟩) hch w
  refine ⟨b1, fun s' hs' => ?_⟩
  obtain ⟨s0, hf, hg0, s, hT, hz, hgens, hg, G00, y⟩ := b2 s' hs'
  have G0 : Ground q loose [] XP w s (s.heap.nsMap mainGlobals) (s.heap.nsMap builtinsNs) s.heap := ⟨G00.T, G00.B, G00.D, G00.TE, G00.TD, G00.W, G00.X.1, G00.cls, G00.has, G00.apart, G00.once, G00.K⟩
  have RF := G00.X.2
  have hT' := hT
  refine ⟨s0, hf, hg0, s, hT, fun n hn => ?_, RF.1, RF.2.1, ?_⟩
  · have : n = r.name := by
      split at hn
      · exact List.mem_singleton.mp hn
      · cases hn
    rw [this]
    exact pinned_of_view hg G0 g5 g6 g7
  have hgens : s.gens = #[] := Array.eq_empty_of_size_eq_zero (beq_iff_eq.mp hgens)
  have G : Ground q loose r.records XP w s _ _ s.heap := RF.ground G0
  intro args hpre hlay ord hord
  obtain ⟨⟨vs, s1⟩, hlaid⟩ := Option.isSome_iff_exists.mp (layAllW_isSome (P := w.params) (ord := ord) G.has args r.args s (pre_splitW hpre).1)
  have keeps := layAllW_keeps _ _ _ hlaid
  have hal := layAllW_rest _ _ _ hlaid
  obtain ⟨as, hrd, hin, hold⟩ := reads_layAllW hord _ _ _ hlaid hlay s1.heap (fun _ _ e => e)
  have L : Laid r.records w s s1 args vs as := ⟨⟨ord, hord, hlaid⟩, hrd, hin, hold, keeps, hal.1.trans hgens, hal.2.2.1⟩
  have G1 := G.keeps g4 keeps
  obtain ⟨a, o, pm, cd, doc, dV, kV, h1, h2, h3, h4, h5⟩ := G1.fn g5
  have hi := ident_freeW hu ha hap
  have hwi : r.toRowW.claim.within = [] := List.isEmpty_iff.mp k6
  have W := walk w s s1 _ _ G1 (g2 _ _ _ (g1 w s y) keeps) a o pm cd doc dV kV h2 h3 h4 h5 (defOf_name g5 ▸ h1) L.gens args vs as hpre hlay L.reads L.well
  have Z : ∀ {res : Result} {s2 : Shared}, GoodWG r.toRowW.claim (classAt s.heap) (ExcName.means s.heap) args s1 res s2 → Ssp.EndP r s s1 args vs res s2 := fun g =>
    have z := g.laid (c := r.toRowW.claim) hsame hwi hi L
    ⟨z.1, z.2.1, fun q => ⟨namesKept_of hT' hg r.keeps keeps g.2.1.old, noTable g9 q⟩⟩
  have tree : wpAny (Ssp.plus r.prog w) callerA (callStub r.name vs).cur (fun fin s2 => ∃ f, fin = .done f ∧ Ssp.EndP r s s1 args vs (.ok f) s2 ∧ Ssp.FinOk s2)
      (fun e s2 => Ssp.EndP r s s1 args vs (.error e) s2 ∧ Ssp.FinOk s2) s1 := by
    show wpAny _ _ (do match ← nsGet mainNs r.name with
      | some f => do ret (← PySem.call f vs)
      | none => unsupported "claim.caller:no-such-global") _ _ _
    refine wpAny_bind (wpAny_nsGet G1.T.g ?_)
    rw [h1]
    exact wpAny_bind (wpAny_mono W (fun v s2 g => wpAny_pure ⟨_, rfl, Z g.1, g.2⟩) fun e s2 g => ⟨Z g.1, g.2⟩)
  obtain ⟨m, res, s3, s2, hs, e1, e2, e3, R1, R2, R3⟩ := Ssp.plus_ends (P := r.prog) (w := w) (R := Ssp.EndP r s s1 args vs) (s := s1) (Shared.asleep_of_life hal.2.2.2 hz) (hal.1.trans hgens) tree
  have R1' := R1.congr e1
  have hlife : s3.heap.life = s.heap.life := e3.trans hal.2.2.2
  refine ⟨vs, s1, hlaid, m, _, s3, hs, ?_, (fun _ i x hx => by rw [hgens] at hx; simp at hx), fun q => ?_, congrArg Life.seen hlife, Shared.rest_eq (e2.trans R2)⟩
  · rcases R1' with ⟨v, rfl, d1, d2, d3, d4, d5⟩ | ⟨e, ob, cls, rfl, d1, d2, d3, d4, d5⟩
    · exact .inl ⟨v, rfl, d1, d2, d3, fun b o y _ => d4 b o y, d5⟩
    · exact .inr ⟨e, ob, cls, rfl, d1, d2, d3, d4, fun b o y _ => d5 b o y⟩
  · rw [e1]; exact R3 q

/-! Expressions and statements on the second machine. -/
namespace Ssp
open PySem PySem.Spec PyProof.Rows Ssg L2
theorem inv_gens {X : Cx} {pins : List (Addr × Obj)} {σ : L2.St} {H : Hp} {s : Shared} {G : Array GenState} (I : Inv X pins σ H s) (hb : AllBare G) : Inv X pins σ H { s with gens := G } :=
  ⟨I.ok, I.os, hb, I.base, I.loc, I.cell, I.free, I.freeC, I.pin, I.hok, I.len⟩
/-- says nothing of the generators but that none is left to clean up -/
def Clo {α : Type} (R : α → Shared → Prop) : Prop := ∀ a s G, R a s → (AllBare s.gens → AllBare G) → R a { s with gens := G }
section
variable {X : Cx} {pins : List (Addr × Obj)} {σ : L2.St}
theorem clo_EP {Q : VK} : Clo (EP X pins σ Q) := fun _ _ _ ⟨v, H, I, r, q⟩ h => ⟨v, H, inv_gens I (h I.bare), r, q⟩
theorem clo_TP {Q : Bool → Hp → Prop} : Clo (TP X pins σ Q) := fun _ _ _ ⟨H, I, q⟩ h => ⟨H, inv_gens I (h I.bare), q⟩
theorem clo_AP {Q : List V → Hp → Prop} : Clo (AP X pins σ Q) := fun _ _ _ ⟨vs, H, I, r, q⟩ h => ⟨vs, H, inv_gens I (h I.bare), r, q⟩
theorem clo_SP {D : Ends} : Clo (SP X pins D) := fun f s G hs h => by
  cases f with
  | next => obtain ⟨σ, H, I, q⟩ := hs; exact ⟨σ, H, inv_gens I (h I.bare), q⟩
  | brk => obtain ⟨σ, H, I, q⟩ := hs; exact ⟨σ, H, inv_gens I (h I.bare), q⟩
  | cont => obtain ⟨σ, H, I, q⟩ := hs; exact ⟨σ, H, inv_gens I (h I.bare), q⟩
  | ret u => obtain ⟨v, σ, H, I, r, q⟩ := hs; exact ⟨v, σ, H, inv_gens I (h I.bare), r, q⟩
/-- an exception, as the first machine tells it -/
def XP (X : Cx) (s : Shared) (e : Value) (s' : Shared) : Prop := ∃ s2 s0, Calm s s0 ∧ X.xe e s2 ∧ SwapP s0 s' s2
theorem XP.from_ {s s1 s' : Shared} {e : Value} (c : Calm s s1) (h : XP X s1 e s') : XP X s e s' := let ⟨s2, s0, a, b⟩ := h; ⟨s2, s0, c.trans a, b⟩
/-- what a run on the second machine gives; the generators of s0 are as they were -/
def Wp {α : Type} (X : Cx) (s0 : Shared) (m : Sem α) (R : α → Shared → Prop) (s : Shared) : Prop := wpAny (plus X.prog X.w) X.A m (fun a s' => R a s' ∧ Calm s0 s') (XP X s0) s
theorem Wp.from_ {α : Type} {m : Sem α} {R : α → Shared → Prop} {s0 s1 s : Shared} (c : Calm s0 s1) (h : Wp X s1 m R s) : Wp X s0 m R s :=
  wpAny_mono h (fun _ _ z => ⟨z.1, c.trans z.2⟩) fun _ _ z => z.from_ c
theorem Wp.then_ {α : Type} {m : Sem α} {R Q : α → Shared → Prop} {s0 s : Shared} (h : Wp X s0 m R s) (k : ∀ a s', R a s' → Calm s0 s' → Q a s') : wpAny (plus X.prog X.w) X.A m Q (XP X s0) s :=
  wpAny_mono h (fun a s' z => k a s' z.1 z.2) fun _ _ z => z
/-- what the first machine does -/
theorem up {α : Type} {m : Sem α} {R : α → Shared → Prop} {s : Shared} (clo : Clo R) (h : wpAny (model X.prog X.w) X.A m R X.xe { s with gens := s.gens.map dead }) : Wp X s m R s :=
  wpAny_mono (lift_wpAny h) (fun a s1 ⟨s2, r, z⟩ => ⟨by rw [z.eq]; exact clo a s2 _ r z.bare, z.calm⟩) fun e s1 ⟨s2, r, z⟩ => ⟨s2, s, Calm.refl s, r, z⟩
theorem inv_dead {H : Hp} {s : Shared} (I : Inv X pins σ H s) : Inv X pins σ H { s with gens := s.gens.map dead } := inv_gens I (bare_map I.bare)
end
/-! ### the judgements -/
structure PEp (X : Cx) (e : Expr) (t : TE) : Prop where
  run : ∀ (pins : List (Addr × Obj)) (s : Shared) (σ : L2.St) (H : Hp) (Q : VK), Inv X pins σ H s → t σ H Q → Wp X s (eval e X.env) (EP X pins σ Q) s
structure PTp (X : Cx) (e : Expr) (t : TT) : Prop where
  run : ∀ (pins : List (Addr × Obj)) (s : Shared) (σ : L2.St) (H : Hp) (Q : Bool → Hp → Prop), Inv X pins σ H s → t σ H Q → Wp X s (isTrue e X.env (eval e X.env)) (TP X pins σ Q) s
structure PWp (X : Cx) (e : Expr) (t : TT) : Prop where
  run : ∀ (wh : Sem Value) (pins : List (Addr × Obj)) (s : Shared) (σ : L2.St) (H : Hp) (Q : Bool → Hp → Prop), Inv X pins σ H s → t σ H Q → Wp X s (isTrue e X.env wh) (TP X pins σ Q) s
structure PAp (X : Cx) (es : List Expr) (t : TA) : Prop where
  run : ∀ (pos : Pos) (pins : List (Addr × Obj)) (s : Shared) (σ : L2.St) (H : Hp) (Q : List V → Hp → Prop), Inv X pins σ H s → t σ H Q → Wp X s (spliced (backTo pos (starEach es X.env))) (AP X pins σ Q) s
structure PSp (X : Cx) (st : Stmt) (t : TS) : Prop where
  run : ∀ (pins : List (Addr × Obj)) (s : Shared) (σ : L2.St) (H : Hp) (D : Ends), Inv X pins σ H s → t D σ H → Wp X s (exec st X.env) (SP X pins D) s
structure PSsp (X : Cx) (st : List Stmt) (t : TS) : Prop where
  run : ∀ (pins : List (Addr × Obj)) (s : Shared) (σ : L2.St) (H : Hp) (D : Ends), Inv X pins σ H s → t D σ H → Wp X s (execs st X.env) (SP X pins D) s
section
variable {X : Cx} {e a b c : Expr} {es rest : List Expr} {st : Stmt} {sts : List Stmt} {te : TE} {tt tu : TT} {ta : TA} {ts us : TS} {pos p apos : Pos}
theorem PEp.up (h : PE X e te) : PEp X e te := ⟨fun pins s σ H Q I q => Ssp.up clo_EP (h.run pins _ σ H Q (inv_dead I) q)⟩
theorem PTp.up (h : PT X e tt) : PTp X e tt := ⟨fun pins s σ H Q I q => Ssp.up clo_TP (h.run pins _ σ H Q (inv_dead I) q)⟩
theorem PWp.up (h : PW X e tt) : PWp X e tt := ⟨fun wh pins s σ H Q I q => Ssp.up clo_TP (h.run wh pins _ σ H Q (inv_dead I) q)⟩
theorem PAp.up (h : PA X es ta) : PAp X es ta := ⟨fun pos pins s σ H Q I q => Ssp.up clo_AP (h.run pos pins _ σ H Q (inv_dead I) q)⟩
theorem PSp.up (h : PS X st ts) : PSp X st ts := ⟨fun pins s σ H D I q => Ssp.up clo_SP (h.run pins _ σ H D (inv_dead I) q)⟩
theorem PSsp.up (h : PSs X sts ts) : PSsp X sts ts := ⟨fun pins s σ H D I q => Ssp.up clo_SP (h.run pins _ σ H D (inv_dead I) q)⟩
theorem PWp.pt (h : PWp X e tt) : PTp X e tt := ⟨h.run _⟩
/-! ### statements -/
theorem pss_nilP : PSsp X [] tNext := .up pss_nil
theorem pss_consP (h1 : PSp X st ts) (h2 : PSsp X sts us) : PSsp X (st :: sts) (tSeq ts us) := ⟨fun pins s σ H D I q =>
  wpAny_execs_cons ((h1.run pins s σ H { D with nx := us D } I q).then_ fun f s1 r c => by
    cases f with
    | next =>
      obtain ⟨σ1, H1, I1, q1⟩ := r
      exact (h2.run pins s1 σ1 H1 D I1 q1).from_ c
    | _ => exact ⟨r, c⟩)⟩
theorem pss_oneP (h1 : PSp X st ts) : PSsp X [st] ts := ⟨fun pins s σ H D I q =>
  wpAny_execs_cons ((h1.run pins s σ H D I q).then_ fun f s1 r c => by
    cases f with
    | next => exact wpAny_execs_nil ⟨r, c⟩
    | _ => exact ⟨r, c⟩)⟩
theorem ps_ifP (hc : PTp X c tt) (ha : PSsp X sts ts) {st2 : List Stmt} (hb : PSsp X st2 us) : PSp X (.If c sts st2 pos) (tIfS tt ts us) := ⟨fun pins s σ H D I q =>
  wpAny_If ((hc.run pins s σ H _ I q).then_ fun d s1 ⟨H1, I1, q1⟩ c => by
    cases d with
    | true => exact (ha.run pins s1 σ H1 D I1 q1).from_ c
    | false => exact (hb.run pins s1 σ H1 D I1 q1).from_ c)⟩
theorem ps_retP (he : PEp X e te) : PSp X (.Return (some e) pos) (tRet te) := ⟨fun pins s σ H D I q =>
  wpAny_Return_some ((he.run pins s σ H _ I q).then_ fun v s1 ⟨x, H1, I1, r1, q1⟩ c => ⟨⟨x, σ, H1, I1, r1, q1⟩, c⟩)⟩
theorem ps_exprP (he : PEp X e te) (hs : swapsWith e none pos.line X.env = pure false := by rfl) : PSp X (.Expr e pos) (tDrop te) := ⟨fun pins s σ H D I q =>
  (exec_Expr X.env e pos I.quiet hs).symm ▸ wpAny_bind (wpAny_standAt (wpAny_bind ((he.run pins s σ H _ I q).then_ fun v s1 ⟨x, H1, I1, r1, q1⟩ c =>
    Wp.from_ c (Ssp.up clo_SP (wpAny_dropValue ⟨σ, H1, inv_dead I1, q1⟩)))))⟩
theorem ps_setP {i : Nat} {x : Str} {pos' : Pos} (hN : X.N.Nodup) (hi : X.N[i]? = some x) (hx : Loc X.env.scope x) (he : PEp X e te) (hs : swapsWith e (some (.Name x pos')) pos.line X.env = pure false := by rfl)
    (hf : X.fn x = true ∨ X.env.scope.names.lookup x = some .local := by first | exact .inl rfl | exact .inr rfl | assumption) : PSp X (.Assign [.Name x pos'] e pos) (tAsg te (gName i)) := ⟨fun pins s σ H D I q =>
  wpAny_Assign_Name ((he.run pins s σ H _ I q).then_ fun v s1 ⟨y, H1, I1, r1, q1⟩ c =>
    Wp.from_ c (Ssp.up (R := fun _ s' => SP X pins D .next s') (fun _ s' G h => clo_SP .next s' G h) (store_ok (inv_dead I1) hN hi hx r1 (fun s2 I2 => ⟨_, H1, I2, q1⟩) hf))) hs⟩
/-! ### tests -/
theorem pt_notP (ha : PTp X a tt) : PTp X (.UnaryOp .Not a pos) (tNot tt) := ⟨fun pins s σ H Q I q => isTrue_not (ha.run pins s σ H (fun c H1 => Q (!c) H1) I q)⟩
theorem pw_or1P (ha : PTp X a tt) : PWp X (.BoolOp .Or [a] pos) tt := ⟨fun wh pins s σ H Q I q => isTrue_or ((ha.run pins s σ H Q I q).then_ fun d s1 r c => by
  cases d with
  | false => exact isTrue_or_nil ⟨r, c⟩
  | true => exact ⟨r, c⟩)⟩
theorem pw_orP (ha : PTp X a tt) (hb : PWp X (.BoolOp .Or (b :: rest) pos) tu) : PWp X (.BoolOp .Or (a :: b :: rest) pos) (tOr tt tu) := ⟨fun wh pins s σ H Q I q => isTrue_or ((ha.run pins s σ H _ I q).then_ fun d s1 ⟨H1, I1, q1⟩ c => by
  cases d with
  | true => exact ⟨⟨H1, I1, q1⟩, c⟩
  | false => exact (hb.run wh pins s1 σ H1 Q I1 q1).from_ c)⟩
theorem pw_and1P (ha : PTp X a tt) : PWp X (.BoolOp .And [a] pos) tt := ⟨fun wh pins s σ H Q I q => isTrue_and ((ha.run pins s σ H Q I q).then_ fun d s1 r c => by
  cases d with
  | true => exact isTrue_and_nil ⟨r, c⟩
  | false => exact ⟨r, c⟩)⟩
theorem pw_andP (ha : PTp X a tt) (hb : PWp X (.BoolOp .And (b :: rest) pos) tu) : PWp X (.BoolOp .And (a :: b :: rest) pos) (tAnd tt tu) := ⟨fun wh pins s σ H Q I q => isTrue_and ((ha.run pins s σ H _ I q).then_ fun d s1 ⟨H1, I1, q1⟩ c => by
  cases d with
  | false => exact ⟨⟨H1, I1, q1⟩, c⟩
  | true => exact (hb.run wh pins s1 σ H1 Q I1 q1).from_ c)⟩
theorem pt_valP (h : PEp X e te) (he : ∀ wh, isTrue e X.env wh = (do let v ← wh; standAt e.pos; holding [v] (truthy v)) := by intro _; rfl) : PTp X e (tB te) := ⟨fun pins s σ H Q I q =>
  isTrue_plain ((h.run pins s σ H _ I q).then_ fun v s1 ⟨x, H1, I1, r1, q1⟩ c => by
    obtain ⟨d, rfl, q2⟩ := q1
    cases r1
    exact wpAny_truthy_bool ⟨⟨H1, I1, q2⟩, c⟩) (he _)⟩
/-! ### arguments, calls -/
theorem pa_nilP : PAp X [] tNil := .up pa_nil
theorem pa_consP (ha : PEp X e te) (hr : PAp X es ta) (hs : starEach (e :: es) X.env = (false, eval e X.env) :: starEach es X.env := by rfl) : PAp X (e :: es) (tCons te ta) := ⟨fun pos pins s σ H Q I q => by
  rw [hs]
  refine Calls.spliced_cons ((ha.run pins s σ H _ I q).then_ fun u s1 ⟨x, H1, I1, r1, q1⟩ c => ?_)
  exact ((hr.run pos pins s1 σ H1 _ I1 q1).from_ c).then_ fun us s2 ⟨xs, H2, I2, r2, q2⟩ c2 => ⟨⟨x :: xs, H2, I2, .cons r1 r2, q2⟩, c2⟩⟩
/-- an object of the module by its name -/
theorem ld_globP {E : Value → Shared → Prop} {pins : List (Addr × Obj)} {s : Shared} {σ : L2.St} {H : Hp} {x : Str} {u : Value} {Q : Value → Shared → Prop} (I : Inv X pins σ H s) (hg : Gl X x) (hm : X.mg x = some u) (h : Q u s)
    (hd : (x == ("__debug__" : Str)) = false := by decide) : wpAny (plus X.prog X.w) X.A (eval (.Name x pos) X.env) Q E s :=
  Calls.Name_function_global I.ok.kind hg (Calls.loadGlobal_global (by rw [I.ok.glob]; exact I.mod.glob.keeps I.bk) hm h) hd
variable {CX : CXT} {k : Nat} {f : Addr} {fd : FuncData} {ps : List Str} {sp : Sp} {ds : List Value} {dvs : List V} {E : XK} {x : Str}
/-- an exception of a call, told here -/
def PassP (CX : CXT) (X : Cx) (E : XK) : Prop := ∀ pins σ H s e s', Inv X pins σ H s → CX X.stack H s E e s' → Calm s s' → XP X s e s'
theorem pass0P : PassP CX0 X E := fun _ _ _ _ _ _ _ h => h.elim
/-- what a call of f does, on the second machine -/
def CallP (X : Cx) (f : Addr) (sp : Sp) (dvs : List V) (E : XK) : Prop := ∀ (pins : List (Addr × Obj)) (σ : L2.St) (H : Hp) (s : Shared) (Q : VK) (us : List Value) (vs : List V), Inv X pins σ H s → Vals vs us → sp (vs ++ dvs) H Q E → Wp X s (call (.ref f) us) (EP X pins σ Q) s
theorem callG (F : FnOk X.prog X.w X.K X.mg X.base CX k f fd ps sp) (hr : Room k X.A) (hb : Binds X.K fd ps ds) (hd : Vals dvs ds) (hx : Passes CX X E) : CallP X f sp dvs E := fun pins σ H s Q us vs I r h => Ssp.up clo_EP (run_fn F hr hb hd hx (inv_dead I) r h)
theorem callP (F : FnP X.prog X.w X.K X.mg X.base CX k f fd ps sp) (hr : Room k X.A) (hb : Binds X.K fd ps ds) (hd : Vals dvs ds) (hx : PassP CX X E) : CallP X f sp dvs E := fun pins σ H s Q us vs I r h => by
  have r2 := r.append hd
  have hl : (us ++ ds).length = ps.length := r2.length.symm.trans (F.len _ _ _ _ h)
  refine wpAny_call (codeAny_mono (F.run X.A X.stack s H ⟨us, []⟩ (us ++ ds) (vs ++ dvs) Q E hr I.env0 (hb s us I.kIn hl) r2 h) fun r s' ⟨hq, c⟩ => ?_)
  match r, hq with
  | .error e, hq => exact hx pins σ H s e s' I hq c
  | .ok (.ret u), hq => exact ⟨I.after hq, c⟩
  | .ok .next, hq => exact hq.elim
  | .ok .brk, hq => exact hq.elim
  | .ok .cont, hq => exact hq.elim
theorem pe_callP (F : CallP X f sp dvs E) (hg : Gl X x) (hm : X.mg x = some (.ref f)) (hk : PySem.W.keepIn X.K (.ref f) = true)
    (ha : PAp X (e :: es) ta) (hdb : (x == ("__debug__" : Str)) = false := by decide) (he : starEach (e :: es) X.env = (false, eval e X.env) :: starEach es X.env := by rfl) (hpl : (backTo pos (starEach es X.env)).any (·.1) = false := by rfl) :
    PEp X (.Call (.Name x p) (e :: es) [] pos) (tCall sp dvs E ta) := ⟨fun pins s σ H Q I q =>
  wpAny_Call_Name_kw (ld_globP I hg hm (PySem.W.callWith_K (h₀ := X.base) I.ok.mod.kin hk ((ha.run pos pins s σ H _ I q).then_ fun us s1 ⟨vs, H1, I1, r, q1⟩ c => ⟨I1.kIn, (F pins σ H1 s1 Q us vs I1 r q1).from_ c⟩) he hpl) hdb)⟩
theorem getmethP {dx : Addr} {fs : List (Str × V)} {a g C : Addr} {m : Str} {pl : Sem Bool} {pins : List (Addr × Obj)} {σ : L2.St} {H : Hp} {s : Shared} {R : Value × List Value → Shared → Prop} (clo : Clo R) (I : Inv X pins σ H s) (e : H a = some (.ins C dx fs)) (c : Cls X.K C) (k : Meth X.K C m g) (l : fs.lookup m = none)
    (h : R (.ref g, [.ref a]) { s with gens := s.gens.map dead }) : Wp X s (getMethod (.ref a) m pl) R s := Ssp.up clo (getmeth_ok (inv_dead I) e c k l h)
theorem pe_methP {o : Expr} {C : Addr} {m : Str} {pl : Sem Bool} (ho : PEp X o te) (c : Cls X.K C) (hm : Meth X.K C m f) (F : CallP X f sp dvs E) (ha : PAp X (e :: es) ta)
    (hst : starEach (e :: es) X.env = (false, eval e X.env) :: starEach es X.env := by rfl) (hpl : (backTo pos (starEach es X.env)).any (·.1) = false := by rfl)
    (ht : eval (.Call (.Attribute o m apos) (e :: es) [] pos) X.env = (do
      let ov ← eval o X.env
      standAt apos.atName
      let (f, first) ← holding [ov] (getMethod ov m pl)
      callWith pos f first (backTo pos (starEach (e :: es) X.env)) (backToKw pos (keywordEach [] X.env))) := by rfl) :
    PEp X (.Call (.Attribute o m apos) (e :: es) [] pos) (tMeth C m sp dvs E te ta) := ⟨fun pins s σ H Q I q =>
  PySem.W.methodCall_KW (pl := pl) ((ho.run pins s σ H _ I q).then_ fun u s1 ⟨x, H1, I1, rx, a, dx, fs, ex, ea, l, q1⟩ c1 => by
    subst ex
    cases (show u = Value.ref a from rx)
    refine ((getmethP (R := fun r s' => r = (.ref f, [.ref a]) ∧ Inv X pins σ H1 s') (fun _ _ _ z h => ⟨z.1, inv_gens z.2 (h z.2.bare)⟩) I1 ea c hm l ⟨rfl, inv_dead I1⟩).from_ c1).then_ fun r s2 ⟨er, I2⟩ c2 => ?_
    subst er
    exact PySem.W.callWith_K (first := [.ref a]) (h₀ := X.base) I.ok.mod.kin hm.kp (((ha.run pos pins s2 σ H1 _ I2 q1).from_ c2).then_ fun us s3 ⟨vs, H3, I3, r, q3⟩ c3 => ⟨I3.kIn, (F pins σ H3 s3 Q (.ref a :: us) (.ref a :: vs) I3 (.cons rfl r) q3).from_ c3⟩) hst hpl) ht⟩
theorem pe_meth0P {o : Expr} {C : Addr} {m : Str} {pl : Sem Bool} (ho : PEp X o te) (c : Cls X.K C) (hm : Meth X.K C m f) (F : CallP X f sp dvs E)
    (ht : eval (.Call (.Attribute o m apos) [] [] pos) X.env = (do
      let ov ← eval o X.env
      standAt apos.atName
      let (f, first) ← holding [ov] (getMethod ov m pl)
      callWith pos f first (backTo pos (starEach [] X.env)) (backToKw pos (keywordEach [] X.env))) := by rfl) :
    PEp X (.Call (.Attribute o m apos) [] [] pos) (tMeth C m sp dvs E te tNil) := ⟨fun pins s σ H Q I q =>
  PySem.W.methodCall_KW (pl := pl) ((ho.run pins s σ H _ I q).then_ fun u s1 ⟨x, H1, I1, rx, a, dx, fs, ex, ea, l, q1⟩ c1 => by
    subst ex
    cases (show u = Value.ref a from rx)
    refine ((getmethP (R := fun r s' => r = (.ref f, [.ref a]) ∧ Inv X pins σ H1 s') (fun _ _ _ z h => ⟨z.1, inv_gens z.2 (h z.2.bare)⟩) I1 ea c hm l ⟨rfl, inv_dead I1⟩).from_ c1).then_ fun r s2 ⟨er, I2⟩ c2 => ?_
    subst er
    exact PySem.W.callWith_K0 (first := [.ref a]) I2.kIn hm.kp ((F pins σ H1 s2 Q [.ref a] [.ref a] I2 (.cons rfl .nil) q1).from_ c2)) ht⟩
end
/-! ### defs -/
theorem SimP.calm {s0 s3 s4 : Shared} (hS : SimP s0.gens s3.gens s4.gens) (hsz : s0.gens.size ≤ s4.gens.size) : Calm s0 s3 := ⟨fun i x hx ha => (hS.old i x hx ha).1, fun i x hx hm => by
  rcases hS.or i with ⟨y, hy, ha⟩ | hn
  · obtain ⟨h1, _⟩ := hS.old i y hy ha
    rw [hx] at h1
    rw [Option.some.inj h1]; exact hy
  · obtain ⟨h1, _⟩ := hS.new i hn
    rw [hx] at h1
    cases e2 : s4.gens[i]? with
    | none => rw [e2] at h1; cases h1
    | some y =>
      rw [e2] at h1
      rw [Option.some.inj h1, marked_mk] at hm
      exact absurd hm (by decide), by rw [hS.sz]; exact hsz⟩
theorem SimP.bare {s0 s3 s4 : Shared} (hS : SimP s0.gens s3.gens s4.gens) (hb : AllBare s4.gens) : AllBare s3.gens := fun y hy => by
  obtain ⟨i, hi, rfl⟩ := Array.mem_iff_getElem.mp hy
  have hy' : s3.gens[i]? = some s3.gens[i] := Array.getElem?_eq_getElem hi
  rcases hS.or i with ⟨x, hx, ha⟩ | hn
  · obtain ⟨h1, h2⟩ := hS.old i x hx ha
    rw [hy'] at h1
    rw [Option.some.inj h1, ← bare_dead]
    exact hb _ (Array.mem_of_getElem? h2)
  · obtain ⟨h1, _⟩ := hS.new i hn
    rw [hy'] at h1
    cases e2 : s4.gens[i]? with
    | none => rw [e2] at h1; cases h1
    | some z =>
      rw [e2] at h1
      rw [Option.some.inj h1, bare_mk]
      exact hb _ (Array.mem_of_getElem? e2)
section
variable {P : Program} {w : World}
theorem wpAny_mk {M : Model} {A : Around} {α : Type} {c : Code} {m : Sem α} {Q : α → Shared → Prop} {E : Value → Shared → Prop} {s : Shared} (h : wpAny M A m Q E s) : wpAny M A (mk c m) Q E s := fun Γ p hΓ => wp_mk c m (h Γ p hΓ)
/-- what a code's own tree does -/
theorem codeP {A : Around} {c : Code} {R : Result → Shared → Prop} {s : Shared} (h : wpAny (plus P w) (A.under c) ((model P w).den c) (fun fin s' => match fin with | .done f => R (.ok f) s' | .again c' => c'.quiet = true ∧ codeAny (plus P w) A c' R s')
    (fun e s' => R (.error e) s') s) : codeAny (plus P w) A c R s := codeAny_of_tree (wpAny_mk h)
theorem code_func {A : Around} {body : List Stmt} {env : Env} {R : Result → Shared → Prop} {s : Shared}
    (h : wpAny (plus P w) (A.deeper env) (execs body env) (fun f s' => R (.ok (.ret (match f with | .ret v => v | _ => .none))) s') (fun e s' => wpAny (plus P w) (A.deeper env) (leaving env e) (fun _ s2 => R (.error e) s2) (fun e' s2 => R (.error e') s2) s') s) :
    codeAny (plus P w) A (.func body env) R s := by
  refine codeP ?_
  show wpAny _ (A.deeper env) (do point; match ← (execs body env).onRaise (leaving env) with
    | .ret v => ret v
    | _ => ret .none) _ _ s
  exact wpAny_bind (wpAny_point (wpAny_bind (wpAny_onRaise (wpAny_mono h (fun f s' z => by cases f <;> exact wpAny_pure z) fun _ _ z => z))))
theorem code_call {A : Around} {a : Addr} {args : Args} {o : Obj} {fd : FuncData} {body : List Stmt} {R : Result → Shared → Prop} {s : Shared} (hroom : A.depth < recursionLimit) (ho : s.heap.get? a = some o) (hd : o.data = .func fd)
    (hco : fd.scope.isCoroutine = false) (hgen : fd.scope.isGenerator = false) (hbody : fd.body = .stmts body) (hcd : s.heap.CodeRec fd.code fd.qualname)
    (h : wpAny (plus P w) A.in1 (bindArgs fd args) (fun binds s1 => wpAny (plus P w) A.in1 (newFunctionEnv fd.scope fd.globals fd.closure binds (fd.qualname ++ ".<locals>.") (some a) fd.code none fd.builtins)
      (fun env s2 => s2.heap.NoLimit ∧ codeAny (plus P w) A (.func body env) R s2) (fun e s' => R (.error e) s') s1) (fun e s' => R (.error e) s') s) : codeAny (plus P w) A (.call (.ref a) args) R s := by
  refine codeP ?_
  show wpAny _ A.in1 (callAny (.ref a) args) _ _ s
  simp only [callAny]
  refine wpAny_bind (wpAny_load ho ?_)
  obtain ⟨c, oc, vs, tq, hc, hoc, hdc, hq⟩ := hcd
  simp only [hd, callFunction, hco, hgen, hbody, hc]
  rw [hc] at h
  refine wpAny_bind (m := field (.ref c) 1) (wpAny_field hoc hdc hq (wpAny_bind (wpAny_pure ?_)))
  exact wpAny_bind (wpAny_mono h (fun b s1 h1 => wpAny_bind (wpAny_mono h1 (fun env s2 h2 => wpAny_bind (wpAny_enterFrame h2.1 hroom (wpAny_pure ⟨rfl, h2.2⟩))) fun _ _ z => z)) fun _ _ z => z)
/-- a def, by its body on the second machine -/
theorem fn_ofP {CX : CXT} {K : PySem.W.Frag} {mg : Str → Option Value} {base : Heap} {k : Nat} {f : Addr} {name qual : Str} {params : Arguments} {body : List Stmt} {scope : Scope} {dV kV doc pm cdv ct oc : Value} {an od : Option Addr} {osl : Array (Option Value)} {N ps : List Str} {sp : Sp}
    (cx : ∀ outer H s E e s2 G, CX outer H s E e s2 → (AllBare s2.gens → AllBare G) → CX outer H s E e { s2 with gens := G }) (lk : K.lookup f = some ⟨oc, od, .func (PySem.W.fnOf name qual params body scope dV kV doc pm an cdv ct), osl⟩)
    (hcd : PySem.W.codeIn K cdv qual = true) (S : FnScope N ps scope) (len : ∀ vs H Q E, sp vs H Q E → vs.length = ps.length)
    (hbody : ∀ (A : Around) (outer : List Env) (s : Shared) (H : Hp) (vs : List V) (Q : VK) (E : XK), Room k (A.deeper (envOfC qual scope s.heap.objs.size f cdv)) → sp vs H Q E →
      ∃ t, PSsp (cxOf CX P w K mg base N qual scope f cdv A outer s H E) body t ∧ t { nx := fun _ H' => Q .non H', rt := Q } (start N vs) H) :
    FnP P w K mg base CX (k + 1) f (PySem.W.fnOf name qual params body scope dV kV doc pm an cdv ct) ps sp := by
  refine ⟨len, fun A outer s H args us vs Q E hr e0 hb r hsp => ?_⟩
  have hl := len _ _ _ _ hsp
  have KX : K.In s.heap := e0.mod.kin.keeps fun b o e => (e0.bs b o e).1
  have lim : s.heap.NoLimit := e0.mod.nolimit.keeps fun b o e => (e0.bs b o e).1
  have hkind : ∀ y ∈ ps.zip us, scope.names.lookup y.1 = some .local ∨ (scope.names.lookup y.1 = some .cell ∧ ((cellsFrom (s.heap.objs.size + 1) scope.names []).lookup y.1).isSome = true) := fun ⟨n, v⟩ hy => (S.par n (List.of_mem_zip hy).1).imp id fun q => ⟨q, PySem.W.cellsFrom_some _ _ _ (.inl q)⟩
  refine code_call hr.depth (KX _ _ lk) rfl S.co S.gen rfl (PySem.W.codeRec_of KX hcd) (hb _ _ _ _ ?_)
  refine wpAny_newFunctionEnv_cells S.kind hkind fun env he s1 x => ?_
  subst he
  refine ⟨lim.keeps x.toInCall.keep, code_func ?_⟩
  obtain ⟨t, ht, hq⟩ := hbody A outer s H vs Q E (hr.deeper _) hsp
  have I : Inv (cxOf CX P w K mg base N qual scope f cdv A outer s H E) [] (start N vs) H s1 := inv_start S hr.hd e0 hl r x
  have c1 : Calm s s1 := by
    obtain ⟨h1, tk, e1, _⟩ := x.done
    exact Calm.of (by rw [e1])
  refine wpAny_mono ((ht.run [] s1 (start N vs) H _ I hq).from_ c1) (fun fl s' ⟨hs, c⟩ => ⟨?_, c⟩) fun e s' hx => ?_
  · have fin : ∀ {σ' : L2.St} {H' : Hp} {v : V} {u : Value}, Inv (cxOf CX P w K mg base N qual scope f cdv A outer s H E) [] σ' H' s' → RelV v u → Q v H' → CE outer P w H s Q u s' := fun {σ' H' v u} J rv q => ⟨v, H', J.os, J.bare, J.base, J.hok, rv, q⟩
    cases fl with
    | ret u =>
      obtain ⟨v, σ', H', J, rv, q⟩ := hs
      exact fin J rv q
    | next =>
      obtain ⟨σ', H', J, q⟩ := hs
      exact fin (v := V.non) (u := Value.none) J rfl q
    | brk => obtain ⟨_, _, _, q⟩ := hs; exact q.elim
    | cont => obtain ⟨_, _, _, q⟩ := hs; exact q.elim
  · obtain ⟨s2, s0, ca, hx, z⟩ := hx
    intro Γ p hΓ
    have l := lift_wp (G0 := s0.gens) _ (GenW.wp_gsz (model P w) Γ s2.gens.size _ _ _ p s2 (Nat.le_refl _) (hx Γ p hΓ)) s'.gens z.sim
    rw [← z.eq] at l
    have key : ∀ {e' : Value} {s3 : Shared}, BackP s0.gens (fun s4 => s2.gens.size ≤ s4.gens.size ∧ CX outer H s E e' s4) s3 → CX outer H s E e' s3 ∧ Calm s s3 := fun {e' s3} ⟨s4, ⟨sz, q⟩, hS, e3⟩ => by
      refine ⟨?_, ca.trans (hS.calm (Nat.le_trans z.calm.size (by rw [z.sim.sz]; exact sz)))⟩
      rw [e3]
      exact cx _ _ _ _ _ _ _ q hS.bare
    exact Sem.wp_mono _ _ _ (fun _ _ _ h => key h) (fun _ _ _ h => key h) _ _ l
end
end Ssp

/-! A generator's body on the second machine, from one yield to the next. -/
namespace Ssp
open PySem PySem.Spec PyProof.Rows Ssg L2
open Sem (wp)
/-! ### segments of a run -/
section
variable {P : Program} {w : World} {A : Around} {c : Code} {fs : List Frame} {s : Shared} {Φ : End → Shared → Prop}
/-- from here the code runs to an end that Φ tells -/
def Stp (P : Program) (w : World) (A : Around) (c : Code) (t : Sem Fin) (fs : List Frame) (s : Shared) (Φ : End → Shared → Prop) : Prop :=
  ∀ Γ p, Γ.code = c → Γ.Woken A → ∃ e s', Runs (plus P w) Γ p t fs s e s' ∧ e.quiet = true ∧ Φ e s'
theorem stp_wrap {α : Type} {m : Sem α} {K : α → Sem Fin} {J : Value → Sem Fin} {gd : Bool → Bool} {lv : List Value → List Value}
    (h : wpAny (plus P w) (A.over c fs) m (fun a s' => Stp P w A c (K a) fs s' Φ) (fun x s' => Stp P w A c (J x) fs s' Φ) s) : Stp P w A c (m.wrap K J gd lv) fs s Φ := by
  rintro Γ p rfl hΓ
  obtain ⟨e, s', a, b, d⟩ := runs_wrap_of_wp (Φ := fun e s' => e.quiet = true ∧ Φ e s') K J gd lv m (h (Γ.over fs) p (hΓ.over fs)) (fun a p' s' z => let ⟨e, s2, x, y, z⟩ := z Γ p' rfl hΓ; ⟨e, s2, x, y, z⟩) fun x p' s' z => let ⟨e, s2, x, y, z⟩ := z Γ p' rfl hΓ; ⟨e, s2, x, y, z⟩
  exact ⟨e, s', a, b, d⟩
theorem stp_bind {α : Type} {m : Sem α} {K : α → Sem Fin} (h : wpAny (plus P w) (A.over c fs) m (fun a s' => Stp P w A c (K a) fs s' Φ) (fun x s' => Stp P w A c (.raise x) fs s' Φ) s) : Stp P w A c (m >>= K) fs s Φ := by
  rw [Sem.bind_eq_wrap']; exact stp_wrap h
theorem stp_at {p' : Pos} {k : Unit → Sem Fin} (h : Stp P w A c (k ()) fs s Φ) : Stp P w A c (.at p' k) fs s Φ := stp_wrap (m := standAt p') (K := k) (J := .raise) (gd := id) (lv := id) (wpAny_standAt h)
theorem stp_point {l : List Value} {k : Unit → Sem Fin} (h : Stp P w A c (k ()) fs s Φ) : Stp P w A c (.point l k) fs s Φ := stp_wrap (m := point) (K := k) (J := .raise) (gd := id) (lv := fun _ => l) (wpAny_point h)
theorem stp_alive {a : Addr} {k : Option Obj → Sem Fin} (h : Stp P w A c (k (s.heap.get? a)) fs s Φ) : Stp P w A c (.loadIfAlive a k) fs s Φ :=
  stp_wrap (m := loadIfAlive a) (K := k) (J := .raise) (gd := id) (lv := id) (fun _ _ _ => h)
theorem stp_call {c' : Code} {h g l} {k : Result → Sem Fin} (hc : ∀ p, Stp P w A c' ((plus P w).den c') (.ret k h g l c p [] :: fs) s Φ) : Stp P w A c (.call c' h g l k) fs s Φ := by
  rintro Γ p rfl hΓ
  obtain ⟨e, s', hr, he⟩ := hc p (Γ.goto c') p rfl (hΓ.goto c')
  exact ⟨e, s', runs_call_seg hr, he⟩
theorem stp_leaf {k h g l c₁ p₁ kp} (r : Result) (hk : Stp P w A c₁ (k r) fs s Φ) : Stp P w A c (leafOf r) (.ret k h g l c₁ p₁ kp :: fs) s Φ := by
  rintro Γ p rfl hΓ
  obtain ⟨e, s', hr, he⟩ := hk (Γ.goto c₁) p₁ rfl (hΓ.goto c₁)
  exact ⟨e, s', Runs.pop r hr, he⟩
theorem stp_again {c' : Code} (hq : c'.quiet = true) (hc : Stp P w A c' ((plus P w).den c') fs s Φ) : Stp P w A c (.pure (.again c')) fs s Φ := by
  rintro Γ p rfl hΓ
  obtain ⟨e, s', hr, he⟩ := hc (Γ.goto c') p rfl (hΓ.goto c')
  exact ⟨e, s', Runs.head (c₁ := c') (fun _ _ x => .again hq x) hr, he⟩
theorem stp_end (r : Result) (h : Φ (.ret r) s) : Stp P w A c (leafOf r) [] s Φ := by
  rintro Γ p rfl _
  exact ⟨.ret r, s, Runs.leaf r, rfl, h⟩
theorem stp_yield {v g l} {k : Resume → Sem Fin} (hfs : splitAtGen fs = none) (hg : g = false) (hfg : fs.any Frame.guarded = false) (h : ∀ p, Φ (.susp v g l k c p fs) s) : Stp P w A c (.yield v g l k) fs s Φ := by
  rintro Γ p rfl _
  exact ⟨_, s, Runs.yield' fs hfs, (by simp [End.quiet, hg, hfg]), h p⟩
theorem Stp.mono {t : Sem Fin} {Ψ : End → Shared → Prop} (h : Stp P w A c t fs s Φ) (k : ∀ e s', Φ e s' → Ψ e s') : Stp P w A c t fs s Ψ := fun Γ p hc hΓ => let ⟨e, s', a, b, d⟩ := h Γ p hc hΓ; ⟨e, s', a, b, k _ _ d⟩
end
/-! ### the generators of a resume -/
/-- those of own may have turned; now sleep over others: now -/
structure Gc (own : List Nat) (s s' : Shared) (now : List Nat) : Prop where
  kept : ∀ (i : Nat) x, s.gens[i]? = some x → asleep x = true → i ∉ own → s'.gens[i]? = some x
  left : ∀ (i : Nat) x, s'.gens[i]? = some x → marked x = true → (s.gens[i]? = some x ∧ i ∉ own) ∨ i ∈ now
  size : s.gens.size ≤ s'.gens.size
theorem Gc.calm {own now : List Nat} {s s1 s2 : Shared} (a : Gc own s s1 now) (b : Calm s1 s2) : Gc own s s2 now :=
  ⟨fun i x h ha hn => b.kept i x (a.kept i x h ha hn) ha, fun i x h hm => a.left i x (b.left i x h hm) hm, Nat.le_trans a.size b.size⟩
/-! ### the heap as it was when the frame was made -/
def cutH (h : Heap) (L : Nat) : Heap := { h with objs := h.objs.extract 0 L }
def cutS (s : Shared) (L : Nat) : Shared := { s with heap := cutH s.heap L }
theorem cut_get {h : Heap} {L : Nat} {b : Addr} : (cutH h L).get? b = if b < L then h.get? b else none := by
  unfold cutH Heap.get?
  show (match (h.objs.extract 0 L)[b]? with | some ⟨_, _, .freed, _⟩ => none | o => o) = _
  rw [Array.getElem?_extract]
  by_cases hb : b < L
  · rw [if_pos hb]
    by_cases hs : b < h.objs.size
    · rw [if_pos (by rw [Nat.sub_zero]; exact Nat.lt_min.mpr ⟨hb, hs⟩), Nat.zero_add]
      rfl
    · rw [if_neg (fun z => hs (by rw [Nat.sub_zero] at z; exact (Nat.lt_min.mp z).2))]
      have : h.objs[b]? = none := Array.getElem?_eq_none_iff.mpr (Nat.le_of_not_lt hs)
      rw [this]
  · rw [if_neg hb, if_neg (fun z => hb (by rw [Nat.sub_zero] at z; exact (Nat.lt_min.mp z).1))]
theorem cut_some {h : Heap} {L : Nat} {b : Addr} {o : Obj} (e : (cutH h L).get? b = some o) : b < L ∧ h.get? b = some o := by
  rw [cut_get] at e
  by_cases hb : b < L
  · rw [if_pos hb] at e; exact ⟨hb, e⟩
  · rw [if_neg hb] at e; cases e
theorem cut_of {h : Heap} {L : Nat} {b : Addr} {o : Obj} (hb : b < L) (e : h.get? b = some o) : (cutH h L).get? b = some o := by rw [cut_get, if_pos hb]; exact e
theorem cut_size {h : Heap} {L : Nat} (hL : L ≤ h.objs.size) : (cutH h L).objs.size = L := by
  show (h.objs.extract 0 L).size = L
  rw [Array.size_extract, Nat.min_eq_left hL]; omega
theorem cut_funs {h base : Heap} {L : Nat} : ∀ {l : List Env}, h.FunFrames base l → (∀ b ∈ frs l, b < L) → (cutH h L).FunFrames base l
  | [], _, _ => trivial
  | env :: r, x, hl => by
    obtain ⟨a, ⟨b, o, hf, hn, ho, hd⟩, x2⟩ := x
    have hb : b < L := hl b (by unfold frs; rw [List.filterMap_cons, hf]; exact List.mem_cons_self)
    exact ⟨a, ⟨b, o, hf, hn, cut_of hb ho, hd⟩, cut_funs x2 fun c hc => hl c (by
      unfold frs at hc ⊢
      rw [List.filterMap_cons, hf]; exact List.mem_cons_of_mem _ hc)⟩
/-! ### a generator's frame, what it keeps while it sleeps -/
structure GFr where
  qual : Str
  scope : Scope
  f : Addr
  cd : Value
  L : Nat
  N : List Str
def GFr.env (r : GFr) : Env := envOfC r.qual r.scope r.L r.f r.cd
/-- what stays over a generator's life; Rw: what its consumer promises of the heap's words, Ry: what it promises itself -/
structure GPar where
  P : Program
  w : World
  K : PySem.W.Frag
  mg : Str → Option Value
  base : Heap
  k : Nat
  outer : List Env
  lo : Nat
  Rw : Hp → Hp → Prop
  Ry : Hp → Hp → Prop
structure GPar.Ok (G : GPar) : Prop where
  mod : Mod G.K G.mg G.base
  bl : G.base.objs.size ≤ G.lo
  fl : ∀ b ∈ frs G.outer, b < G.lo
  wr : ∀ H, G.Rw H H
  wt : ∀ H H1 H2, G.Rw H H1 → G.Rw H1 H2 → G.Rw H H2
  yr : ∀ H, G.Ry H H
  yt : ∀ H H1 H2, G.Ry H H1 → G.Ry H1 H2 → G.Ry H H2
  yw : ∀ H H1, G.Ry H H1 → G.Rw H H1
  yk : ∀ H H1 b, G.Ry H H1 → H b ≠ none → H1 b ≠ none
/-- a generator's object; n: what sleeps over it -/
def slotN (o : Obj) : Int := match (o.slots[0]? : Option (Option Value)) with
  | some (some (Value.int n _)) => n
  | _ => 0
def GenOb (h : Heap) (a : Addr) (g : Nat) (n : Int) : Prop := ∃ o nm qn, h.get? a = some o ∧ o.cls = .type "generator" ∧ o.data = .fields #[.int g 0, nm, qn] ∧ slotN o = n
theorem GenOb.at {h h' : Heap} {a : Addr} {g : Nat} {n : Int} (x : GenOb h a g n) (k : ∀ o, h.get? a = some o → h'.get? a = some o) : GenOb h' a g n := let ⟨o, nm, qn, ho, r⟩ := x; ⟨o, nm, qn, k o ho, r⟩
def isCell (o : Obj) : Bool := match o.data with
  | .cell _ => true
  | _ => false
theorem isCell_no {o : Obj} (h : isCell o = false) : ∀ v, o.data ≠ .cell v := fun v e => by
  unfold isCell at h
  rw [e] at h
  cases h
theorem isCell_of {o : Obj} (h : ∀ v, o.data ≠ .cell v) : isCell o = false := by
  unfold isCell
  split
  · rename_i v hv; exact absurd hv (h v)
  · rfl
def cellAt (h : Heap) (b : Addr) : Bool := (h.get? b).any isCell
/-- what a resume may change besides what it tracks: what is its own; a young cell -/
def exOf (s : Shared) (lo : Nat) (own : List Addr) : List Addr := own ++ (List.range s.heap.objs.size).filter fun b => decide (lo ≤ b) && cellAt s.heap b
def pnOf (s : Shared) (H : Hp) (L : Nat) (own : List Addr) : List (Addr × Obj) := (List.range s.heap.objs.size).filterMap fun b => match s.heap.get? b with
  | some o => if (decide (L ≤ b) && !isCell o && !own.contains b && (H b).isNone) = true then some (b, o) else none
  | none => none
theorem mem_pnOf {s : Shared} {H : Hp} {L : Nat} {own : List Addr} {b : Addr} {o : Obj} (e : s.heap.get? b = some o) (hL : L ≤ b) (hc : isCell o = false) (ho : b ∉ own) (hn : H b = none) : (b, o) ∈ pnOf s H L own := by
  unfold pnOf
  refine List.mem_filterMap.mpr ⟨b, List.mem_range.mpr (Heap.lt_size e), ?_⟩
  rw [e]
  show (if _ then _ else _) = _
  rw [if_pos]
  simp only [Bool.and_eq_true, decide_eq_true_eq, Bool.not_eq_true', hc, hn, Option.isNone_none, and_true, true_and]
  exact ⟨hL, by rw [← Bool.not_eq_true, List.contains_iff_mem]; exact ho⟩
theorem of_pnOf {s : Shared} {H : Hp} {L : Nat} {own : List Addr} {p : Addr × Obj} (h : p ∈ pnOf s H L own) : s.heap.get? p.1 = some p.2 ∧ L ≤ p.1 ∧ isCell p.2 = false ∧ p.1 ∉ own ∧ H p.1 = none := by
  unfold pnOf at h
  obtain ⟨b, _, h⟩ := List.mem_filterMap.mp h
  cases e : s.heap.get? b with
  | none => rw [e] at h; cases h
  | some o =>
    rw [e] at h
    dsimp only at h
    split at h
    · rename_i hc
      cases h
      simp only [Bool.and_eq_true, decide_eq_true_eq, Bool.not_eq_true', Option.isNone_iff_eq_none] at hc
      obtain ⟨⟨⟨h1, h2⟩, h3⟩, h4⟩ := hc
      exact ⟨e, h1, h2, by rw [← Bool.not_eq_true, List.contains_iff_mem] at h3; exact h3, h4⟩
    · cases h
theorem mem_exOf_cell {s : Shared} {lo : Nat} {own : List Addr} {b : Addr} {o : Obj} (e : s.heap.get? b = some o) (hl : lo ≤ b) (hc : isCell o = true) : b ∈ exOf s lo own :=
  List.mem_append_right _ (List.mem_filter.mpr ⟨List.mem_range.mpr (Heap.lt_size e), by
    unfold cellAt
    rw [e]
    simp [hl, hc]⟩)
theorem of_exOf {s : Shared} {lo : Nat} {own : List Addr} {b : Addr} (h : b ∈ exOf s lo own) : b ∈ own ∨ (lo ≤ b ∧ ∃ o, s.heap.get? b = some o ∧ isCell o = true) := by
  rcases List.mem_append.mp h with h | h
  · exact .inl h
  · obtain ⟨_, h⟩ := List.mem_filter.mp h
    simp only [Bool.and_eq_true, decide_eq_true_eq] at h
    obtain ⟨h1, h2⟩ := h
    unfold cellAt at h2
    cases e : s.heap.get? b with
    | none => rw [e] at h2; cases h2
    | some o => rw [e] at h2; exact .inr ⟨h1, o, rfl, h2⟩
/-- the context of a generator's body from a wake on -/
def gX (G : GPar) (r : GFr) (A : Around) (s : Shared) (H : Hp) (pn : List (Addr × Obj)) : Cx where
  prog := G.P
  w := G.w
  K := G.K
  mg := G.mg
  base := G.base
  A := A.deeper r.env
  N := r.N
  s_0 := cutS s r.L
  H_0 := H
  env := r.env
  outer := G.outer
  stack := r.env :: G.outer
  ex := []
  calm := true
  fn := fun _ => true
  pn := pn
  xe := fun _ _ => False
/-- a frame that may be a generator's: the names, no cells -/
structure GFr.Ok (G : GPar) (r : GFr) : Prop where
  kind : r.scope.kind = .function
  cells : r.env.cells = []
  nocell : ∀ x, r.env.kindOf x ≠ some .cell ∧ r.env.kindOf x ≠ some .free
  lo : G.lo ≤ r.L
  nd : r.N.Nodup
/-- the names' values in the frame -/
def LocOf (r : GFr) (σ : L2.St) (h : Heap) : Prop := ∃ m, h.Ns r.L m ∧ ∀ (i : Nat) (x : Str) (v : V), r.N[i]? = some x → σ[i]? = some (some v) → Vis r.scope x → ∃ u, RelV v u ∧ Look r.env h m x u
section
variable {G : GPar} {r : GFr} {A : Around} {s : Shared} {H : Hp} {own : List Addr} {ip : List (Addr × Obj)} {σ : L2.St}
theorem inv_at (ok : G.Ok) (rok : r.Ok G) (hd : A.handled = none) (e0 : Env0 G.P G.w G.K G.mg G.base A G.outer s H) (hL : r.L < s.heap.objs.size) (hown : r.L ∈ own) (loc : LocOf r σ s.heap) (hl : H r.L = none) (hlen : σ.length = r.N.length)
    (hip : ∀ p ∈ ip, s.heap.get? p.1 = some p.2 ∧ H p.1 = none ∧ p.1 ≠ r.L ∧ G.lo ≤ p.1 ∧ isCell p.2 = false) : Inv (gX G r A s H (pnOf s H r.L own)) ip σ H s := by
  have hs : (cutS s r.L).heap.objs.size = r.L := cut_size (Nat.le_of_lt hL)
  have hfl : ∀ b ∈ frs G.outer, b < r.L := fun b hb => Nat.lt_of_lt_of_le (ok.fl b hb) rok.lo
  have nofr : ∀ b, G.lo ≤ b → b ∉ frs G.outer := fun b hb hm => absurd (Nat.lt_of_lt_of_le (ok.fl b hm) hb) (Nat.lt_irrefl _)
  refine ⟨⟨e0.mod, rok.kind, rfl, rfl, Nat.le_of_eq hs, fun x y c h => ?_, fun x h => ?_, fun x c _ h => ?_, fun _ => hd, Around.frames_deeper e0.frames, .inr ⟨rfl, rfl⟩, fun b hb => (by cases hb), fun b o e => ?_, ?_, fun b o e hb => (by cases hb), fun b hb => (by cases hb), ?_, e0.frf⟩,
    rfl, e0.bare, ?_, loc, fun x c h => ?_, hl, fun x c h => ?_, fun p hp => ?_, e0.hok, hlen⟩
  · rw [show (gX G r A s H (pnOf s H r.L own)).env.cells = [] from rok.cells] at h; cases h
  · exact absurd h (fun z => z.elim (rok.nocell x).1 (rok.nocell x).2)
  · rw [show (gX G r A s H (pnOf s H r.L own)).env.cells = [] from rok.cells] at h; cases h
  · obtain ⟨h1, h2⟩ := e0.bs b o e
    exact ⟨cut_of (Nat.lt_of_lt_of_le (Heap.lt_size e) (Nat.le_trans ok.bl rok.lo)) h1, h2⟩
  · exact Nat.le_trans (Nat.le_trans ok.bl rok.lo) (Nat.le_of_eq hs.symm)
  · exact cut_funs e0.funs hfl
  · exact ⟨fun b o e _ _ _ => (cut_some e).2, fun b o e _ _ _ => ⟨o.slots, (cut_some e).2⟩, fun _ _ _ n _ => n, fun b o e _ => ⟨o, (cut_some e).2⟩, fun _ _ e => e, fun _ _ _ e => e, fun b ps e => ⟨#[], by rw [show H b = _ from e]; simp⟩⟩
  · rw [show (gX G r A s H (pnOf s H r.L own)).env.cells = [] from rok.cells] at h; cases h
  · rw [show (gX G r A s H (pnOf s H r.L own)).env.cells = [] from rok.cells] at h; cases h
  · rcases List.mem_append.mp hp with hp | hp
    · obtain ⟨h1, h2, h3, h4, h5⟩ := of_pnOf hp
      exact ⟨h1, h5, fun z => h4 (by rw [show p.1 = r.L from z]; exact hown), nofr _ (Nat.le_trans rok.lo h2), isCell_no h3⟩
    · obtain ⟨h1, h2, h3, h4, h5⟩ := hip p hp
      exact ⟨h1, h2, h3, nofr _ h4, isCell_no h5⟩
theorem un_at {H' : Hp} {s' : Shared} (rok : r.Ok G) (hk : ∀ b, H b ≠ none → H' b ≠ none) (hown : r.L ∈ own) (I : Inv (gX G r A s H (pnOf s H r.L own)) ip σ H' s') (fl : ∀ b ∈ frs G.outer, b < G.lo) : Un (frs G.outer) (exOf s G.lo own) H H' s.heap s'.heap := by
  have B := I.base
  have young : ∀ b o, s.heap.get? b = some o → H b = none → b ∉ exOf s G.lo own → ¬ b < r.L → s'.heap.get? b = some o ∧ H' b = none := fun b o e n hx hb => by
    have hL : r.L ≤ b := Nat.le_of_not_lt hb
    have hc : isCell o = false := by
      cases q : isCell o with
      | false => rfl
      | true => exact absurd (mem_exOf_cell e (Nat.le_trans rok.lo hL) q) hx
    obtain ⟨h1, h2, _⟩ := I.pin (b, o) (List.mem_append_left _ (mem_pnOf e hL hc (fun z => hx (List.mem_append_left _ z)) n))
    exact ⟨h1, h2⟩
  refine ⟨fun b o e n hf hx => ?_, fun b o e n hf _ => ?_, fun b o e n hx => ?_, fun b o e hx => ?_, B.tups, B.frzs, B.tbls⟩
  · by_cases hb : b < r.L
    · exact B.keep b o (cut_of hb e) n hf (fun z => by cases z)
    · exact (young b o e n hx hb).1
  · exact B.slot b o (cut_of (Nat.lt_of_lt_of_le (fl b hf) rok.lo) e) n hf (fun z => by cases z)
  · by_cases hb : b < r.L
    · exact B.free b o (cut_of hb e) n (fun z => by cases z)
    · exact (young b o e n hx hb).2
  · by_cases hb : b < r.L
    · exact B.there b o (cut_of hb e) (fun z => by cases z)
    · cases q : H b with
      | none => exact ⟨o, (young b o e q hx hb).1⟩
      | some u =>
        cases q' : H' b with
        | none => exact absurd q' (hk b (by rw [q]; exact fun z => nomatch z))
        | some u' => exact objOk_get (I.hok b u' q')
end
/-! ### sleeping -/
/-- what is to come: nothing is promised; the end; a value, then more -/
inductive Beh where
  | stop
  | done
  | out (y : V → Hp → Prop) (b : Beh)
def Beh.app : Beh → Beh → Beh
  | .stop, _ => .stop
  | .done, c => c
  | .out y b, c => .out y (b.app c)
/-- what a wake needs -/
structure Rdy (G : GPar) (pv : List (Addr × Obj)) (gl : List (Nat × GenState)) (A : Around) (s : Shared) (H : Hp) : Prop where
  room : Room (G.k + 1) A
  env : Env0 G.P G.w G.K G.mg G.base A G.outer s H
  pv : ∀ p ∈ pv, s.heap.get? p.1 = some p.2 ∧ H p.1 = none
  gl : ∀ x ∈ gl, s.gens[x.1]? = some x.2
/-- what a resume does -/
structure Eff (G : GPar) (own : List Addr) (gown now : List Nat) (s : Shared) (H : Hp) (s' : Shared) (H' : Hp) : Prop where
  os : s'.os = s.os
  bare : AllBare s'.gens
  un : Un (frs G.outer) (exOf s G.lo own) H H' s.heap s'.heap
  hok : HOk G.P G.w H' s'.heap
  ry : G.Ry H H'
  gc : Gc gown s s' now
/-- what it keeps for itself: nothing that another could have pinned -/
structure Prv (G : GPar) (own : List Addr) (gown : List Nat) (s : Shared) (H : Hp) (s' : Shared) (H' : Hp) (pv : List (Addr × Obj)) (gl : List (Nat × GenState)) : Prop where
  pv : ∀ p ∈ pv, s'.heap.get? p.1 = some p.2 ∧ H' p.1 = none ∧ G.lo ≤ p.1 ∧ isCell p.2 = false ∧ ∀ b o, s.heap.get? b = some o → H b = none → isCell o = false → b ∉ own → b ≠ p.1
  gl : ∀ x ∈ gl, s'.gens[x.1]? = some x.2 ∧ asleep x.2 = true ∧ (x.1 ∈ gown ∨ s.gens.size ≤ x.1)
/-- it sleeps, b is to come -/
def Slp (G : GPar) (g : Nat) : Beh → List (Addr × Obj) → List (Nat × GenState) → Hp → Prop
  | .stop, _, _, _ => True
  | .done, pv, gl, Hy => ∀ A s H, Rdy G pv gl A s H → G.Rw Hy H → ∀ Γ p, Γ.In A → ∃ s' H', Wakes (plus G.P G.w) Γ p g (.send .none) s (.returned .none) s' ∧ Eff G (pv.map (·.1)) (gl.map (·.1)) [] s H s' H'
  | .out y b, pv, gl, Hy => ∀ A s H, Rdy G pv gl A s H → G.Rw Hy H → ∀ Γ p, Γ.In A → ∃ u s' v H' pv' gl', Wakes (plus G.P G.w) Γ p g (.send .none) s (.yielded u) s' ∧ RelV v u ∧ y v H' ∧
      Eff G (pv.map (·.1)) (gl.map (·.1)) (gl'.map (·.1)) s H s' H' ∧ Prv G (pv.map (·.1)) (gl.map (·.1)) s H s' H' pv' gl' ∧ g ∈ gl'.map (·.1) ∧ Slp G g b pv' gl' H'
end Ssp

/-! A generator's body on the second machine: its judgement. -/
namespace Ssp
open PySem PySem.Spec PyProof.Rows Ssg L2
open Sem (wp)
/-! ### the end of a resume -/
def FinG (G : GPar) (g : Nat) (b : Beh) (sw : Shared) (Hw : Hp) (own : List Addr) (gown : List Nat) (e : End) (s : Shared) : Prop := match b with
  | .stop => False
  | .done => e = .ret (.ok (.ret .none)) ∧ ∃ H', Eff G own gown [] sw Hw (s.setGen g .finished) H'
  | .out y b => ∃ u l k c p fs v H' pv gl, e = .susp u false l k c p fs ∧ RelV v u ∧ y v H' ∧ Eff G own gown (gl.map (·.1)) sw Hw (s.setGen g e.genState) H' ∧
      Prv G own gown sw Hw (s.setGen g e.genState) H' pv gl ∧ g ∈ gl.map (·.1) ∧ Slp G g b pv gl H'
/-- what goes on at the next wake -/
def Goes (G : GPar) (g : Nat) (b : Beh) (pv : List (Addr × Obj)) (gl : List (Nat × GenState)) (Hy : Hp) (c : Code) (t : Sem PySem.Fin) (fs : List Frame) : Prop :=
  ∀ A s H, Rdy G pv gl A s H → G.Rw Hy H → Stp G.P G.w A c t fs (s.setGen g .running) (FinG G g b s H (pv.map (·.1)) (gl.map (·.1)))
section
variable {G : GPar} {g : Nat} {b : Beh} {pv : List (Addr × Obj)} {gl : List (Nat × GenState)} {Hy : Hp}
theorem slp_susp {k : Resume → Sem PySem.Fin} {l : List Value} {c : Code} {p0 : Pos} {fs : List Frame} {cl : Bool} (hm : (g, GenState.suspended k l c p0 fs cl) ∈ gl) (h : Goes G g b pv gl Hy c (k (.send .none)) fs) : Slp G g b pv gl Hy := by
  have key : ∀ A s H, Rdy G pv gl A s H → G.Rw Hy H → ∀ Γ p, Γ.In A → ∃ e s1, Wakes (plus G.P G.w) Γ p g (.send .none) s e.result (s1.setGen g e.genState) ∧ FinG G g b s H (pv.map (·.1)) (gl.map (·.1)) e s1 := fun A s H R hw Γ p hΓ => by
    obtain ⟨e, s1, x, y, z⟩ := h A s H R hw (Γ.wake c p) p0 rfl (hΓ.wake c p)
    refine ⟨e, s1, ?_, z⟩
    unfold Wakes
    rw [R.gl _ hm]
    exact ⟨e, s1, x, y, rfl, rfl⟩
  cases b with
  | stop => trivial
  | done =>
    intro A s H R hw Γ p hΓ
    obtain ⟨e, s1, x, rfl, H', z⟩ := key A s H R hw Γ p hΓ
    exact ⟨_, H', x, z⟩
  | out y b =>
    intro A s H R hw Γ p hΓ
    obtain ⟨e, s1, x, u, l, k, c, p', fs, v, H', pv', gl', rfl, z1, z2, z3, z4, z5, z6⟩ := key A s H R hw Γ p hΓ
    exact ⟨u, _, v, H', pv', gl', x, z1, z2, z3, z4, z5, z6⟩
theorem slp_fresh {c : Code} (hm : (g, GenState.fresh c) ∈ gl) (h : Goes G g b pv gl Hy c ((plus G.P G.w).den c) []) : Slp G g b pv gl Hy := by
  have key : ∀ A s H, Rdy G pv gl A s H → G.Rw Hy H → ∀ Γ p, Γ.In A → ∃ e s1, Wakes (plus G.P G.w) Γ p g (.send .none) s e.result (s1.setGen g e.genState) ∧ FinG G g b s H (pv.map (·.1)) (gl.map (·.1)) e s1 := fun A s H R hw Γ p hΓ => by
    obtain ⟨e, s1, x, y, z⟩ := h A s H R hw (Γ.wake c p) p rfl (hΓ.wake c p)
    refine ⟨e, s1, ?_, z⟩
    unfold Wakes
    rw [R.gl _ hm]
    exact ⟨e, s1, x, y, rfl, rfl⟩
  cases b with
  | stop => trivial
  | done =>
    intro A s H R hw Γ p hΓ
    obtain ⟨e, s1, x, rfl, H', z⟩ := key A s H R hw Γ p hΓ
    exact ⟨_, H', x, z⟩
  | out y b =>
    intro A s H R hw Γ p hΓ
    obtain ⟨e, s1, x, u, l, k, c, p', fs, v, H', pv', gl', rfl, z1, z2, z3, z4, z5, z6⟩ := key A s H R hw Γ p hΓ
    exact ⟨u, _, v, H', pv', gl', x, z1, z2, z3, z4, z5, z6⟩
end
theorem gens_set {s : Shared} {g : Nat} {x : GenState} {i : Nat} (h : i ≠ g) : (s.setGen g x).gens[i]? = s.gens[i]? := by
  show (s.gens.setIfInBounds g x)[i]? = _
  rw [Array.getElem?_setIfInBounds_ne (Ne.symm h)]
/-- g turns -/
theorem Gc.begin {own : List Nat} {s : Shared} {g : Nat} (hg : g ∈ own) : Gc own s (s.setGen g .running) (own.filter (· != g)) where
  kept := fun i x h ha hi => by rw [gens_set (fun z => hi (by rw [z]; exact hg))]; exact h
  left := fun i x h hm => by
    by_cases hi : i = g
    · subst hi
      have h2 : i < s.gens.size := by
        have := (Array.getElem?_eq_some_iff.mp h).1
        rw [GenW.setGen_size] at this; exact this
      rw [setGen_at h2] at h
      cases h
      cases hm
    · rw [gens_set hi] at h
      by_cases ho : i ∈ own
      · exact .inr (List.mem_filter.mpr ⟨ho, by simpa using hi⟩)
      · exact .inl ⟨h, ho⟩
  size := by rw [GenW.setGen_size]; exact Nat.le_refl _
theorem Gc.trans {own own1 now now1 : List Nat} {s s1 s2 : Shared} (a : Gc own s s1 now) (b : Gc own1 s1 s2 now1) (ho : ∀ i ∈ own1, i ∈ own ∨ s.gens.size ≤ i) (hn : ∀ i ∈ now, i ∈ own1) : Gc own s s2 now1 where
  kept := fun i x h ha hi => b.kept i x (a.kept i x h ha hi) ha fun z => (ho i z).elim hi fun w => absurd (Nat.lt_of_lt_of_le (Array.getElem?_eq_some_iff.mp h).1 w) (Nat.lt_irrefl _)
  left := fun i x h hm => by
    rcases b.left i x h hm with ⟨h1, h2⟩ | h1
    · rcases a.left i x h1 hm with z | z
      · exact .inl z
      · exact absurd (hn i z) h2
    · exact .inr h1
  size := Nat.le_trans a.size b.size
theorem Gc.set {own now now0 : List Nat} {s s1 : Shared} {g : Nat} {x : GenState} (h : Gc own s s1 now0) (hs : ∀ i ∈ now0, i ∈ now) (hg : g ∈ own) (hm : marked x = true → g ∈ now) : Gc own s (s1.setGen g x) now where
  kept := fun i y e ha hi => by rw [gens_set (fun z => hi (by rw [z]; exact hg))]; exact h.kept i y e ha hi
  left := fun i y e hy => by
    by_cases hi : i = g
    · subst hi
      have h2 : i < s1.gens.size := by
        have := (Array.getElem?_eq_some_iff.mp e).1
        rw [GenW.setGen_size] at this; exact this
      rw [setGen_at h2] at e
      cases e
      exact .inr (hm hy)
    · rw [gens_set hi] at e
      exact (h.left i y e hy).imp id (hs i)
  size := by rw [GenW.setGen_size]; exact h.size
/-! ### the judgement -/
structure GEndsP where
  nx : Beh → L2.St → Hp → Hp → Prop
  rt : Beh → Hp → Hp → Prop
  bk : Beh → L2.St → Hp → Hp → Prop := fun _ _ _ _ => False
  ct : Beh → L2.St → Hp → Hp → Prop := fun _ _ _ _ => False
/-- what is wanted behind a statement: what is to come, the names, the heap's words now and at the last wake -/
abbrev TGp := GEndsP → Beh → L2.St → Hp → Hp → Prop
def GEndsP.at (D : GEndsP) (b : Beh) (Hw : Hp) : Ends := { nx := fun σ H => D.nx b σ H Hw, rt := fun v H => v = .non ∧ D.rt b H Hw, bk := fun σ H => D.bk b σ H Hw, ct := fun σ H => D.ct b σ H Hw }
def SPg (D : GEndsP) (f : Flow) (b : Beh) (σ : L2.St) (H Hw : Hp) : Prop := match f with
  | .next => D.nx b σ H Hw
  | .brk => D.bk b σ H Hw
  | .cont => D.ct b σ H Hw
  | .ret u => u = .none ∧ D.rt b H Hw
/-- it runs, woken at sw -/
structure GIn (G : GPar) (r : GFr) (g : Nat) (A : Around) (sw : Shared) (Hw : Hp) (own : List Addr) (gown now : List Nat) (ip : List (Addr × Obj)) (σ : L2.St) (H : Hp) (s : Shared) : Prop where
  room : Room (G.k + 1) A
  hown : r.L ∈ own
  hg : g ∈ gown
  inv : Inv (gX G r A sw Hw (pnOf sw Hw r.L own)) ip σ H s
  ipo : ∀ p ∈ ip, r.L ≤ p.1 ∧ ∀ q ∈ pnOf sw Hw r.L own, q.1 ≠ p.1
  gc : Gc gown sw s now
  gsz : g < sw.gens.size
  lsz : r.L < sw.heap.objs.size
/-- where the code stands -/
structure CP (r : GFr) (c : Code) (fs : List Frame) (gd : Bool → Bool) : Prop where
  over : ∀ A : Around, A.over c fs = A.deeper r.env
  split : splitAtGen fs = none
  guard : fs.any Frame.guarded = false
  gd : gd false = false
section
variable (G : GPar) (r : GFr) (g : Nat)
/-- what follows -/
def GKp (ip : List (Addr × Obj)) (c : Code) (fs : List Frame) (K : Flow → Sem PySem.Fin) (D : GEndsP) : Prop := ∀ A sw Hw own gown σ H s b f, GIn G r g A sw Hw own gown [] ip σ H s → SPg D f b σ H Hw →
  Stp G.P G.w A c (K f) fs s (FinG G g b sw Hw own gown)
structure GSp (st : Stmt) (t : TGp) : Prop where
  run : ∀ ip c fs K J gd lv D, CP r c fs gd → GKp G r g ip c fs K D → ∀ A sw Hw own gown σ H s b, GIn G r g A sw Hw own gown [] ip σ H s → t D b σ H Hw →
    Stp G.P G.w A c ((exec st r.env).wrap K J gd lv) fs s (FinG G g b sw Hw own gown)
structure GSsp (st : List Stmt) (t : TGp) : Prop where
  run : ∀ ip c fs K J gd lv D, CP r c fs gd → GKp G r g ip c fs K D → ∀ A sw Hw own gown σ H s b, GIn G r g A sw Hw own gown [] ip σ H s → t D b σ H Hw →
    Stp G.P G.w A c ((execs st r.env).wrap K J gd lv) fs s (FinG G g b sw Hw own gown)
/-- for each context that it may have -/
def AllX (Pr : Cx → Prop) : Prop := ∀ A sw Hw pn, Room (G.k + 1) A → Pr (gX G r A sw Hw pn)
end
section
variable {G : GPar} {r : GFr} {g : Nat} {st : Stmt} {sts rest : List Stmt}
theorem GIn.calm {A : Around} {sw : Shared} {Hw : Hp} {own : List Addr} {gown now : List Nat} {ip : List (Addr × Obj)} {σ σ' : L2.St} {H H' : Hp} {s s' : Shared} (h : GIn G r g A sw Hw own gown now ip σ H s) (I : Inv (gX G r A sw Hw (pnOf sw Hw r.L own)) ip σ' H' s') (c : Calm s s') :
    GIn G r g A sw Hw own gown now ip σ' H' s' := ⟨h.room, h.hown, h.hg, I, h.ipo, h.gc.calm c, h.gsz, h.lsz⟩
theorem xp_no {A : Around} {sw : Shared} {Hw : Hp} {pn : List (Addr × Obj)} {s s' : Shared} {e : Value} (h : XP (gX G r A sw Hw pn) s e s') : False := let ⟨_, _, _, z, _⟩ := h; z
theorem sp_spg {A : Around} {sw : Shared} {Hw : Hp} {own : List Addr} {gown : List Nat} {ip : List (Addr × Obj)} {σ : L2.St} {H : Hp} {s s' : Shared} {D : GEndsP} {b : Beh} {f : Flow} (h : GIn G r g A sw Hw own gown [] ip σ H s)
    (c : Calm s s') (q : SP (gX G r A sw Hw (pnOf sw Hw r.L own)) ip (D.at b Hw) f s') : ∃ σ' H', GIn G r g A sw Hw own gown [] ip σ' H' s' ∧ SPg D f b σ' H' Hw := by
  cases f with
  | next => obtain ⟨σ', H', I, q⟩ := q; exact ⟨σ', H', h.calm I c, q⟩
  | brk => obtain ⟨σ', H', I, q⟩ := q; exact ⟨σ', H', h.calm I c, q⟩
  | cont => obtain ⟨σ', H', I, q⟩ := q; exact ⟨σ', H', h.calm I c, q⟩
  | ret u =>
    obtain ⟨v, σ', H', I, rv, ev, q⟩ := q
    subst ev
    exact ⟨σ', H', h.calm I c, rv, q⟩
/-- a statement that hands out nothing -/
def tPl (t : TS) : TGp := fun D b σ H Hw => t (D.at b Hw) σ H
theorem gs_pl {t : TS} (h : AllX G r fun X => PSp X st t) : GSp G r g st (tPl t) := ⟨fun ip c fs K J gd lv D cp k A sw Hw own gown σ H s b I ht => by
  refine stp_wrap ?_
  rw [cp.over]
  exact wpAny_mono ((h A sw Hw _ I.room).run _ s σ H (D.at b Hw) I.inv ht) (fun f s' ⟨q, c⟩ => let ⟨σ', H', I', q'⟩ := sp_spg I c q; k A sw Hw own gown σ' H' s' b f I' q') fun e s' q => (xp_no q).elim⟩
theorem gss_pl {t : TS} (h : AllX G r fun X => PSsp X sts t) : GSsp G r g sts (tPl t) := ⟨fun ip c fs K J gd lv D cp k A sw Hw own gown σ H s b I ht => by
  refine stp_wrap ?_
  rw [cp.over]
  exact wpAny_mono ((h A sw Hw _ I.room).run _ s σ H (D.at b Hw) I.inv ht) (fun f s' ⟨q, c⟩ => let ⟨σ', H', I', q'⟩ := sp_spg I c q; k A sw Hw own gown σ' H' s' b f I' q') fun e s' q => (xp_no q).elim⟩
def tNx : TGp := fun D b σ H Hw => D.nx b σ H Hw
theorem gss_nilp : GSsp G r g [] tNx := ⟨fun ip c fs K J gd lv D cp k A sw Hw own gown σ H s b I ht => k A sw Hw own gown σ H s b .next I ht⟩
def tThen (t u : TGp) : TGp := fun D b σ H Hw => t { D with nx := u D } b σ H Hw
theorem gss_consp {t u : TGp} (ha : GSp G r g st t) (hb : GSsp G r g rest u) : GSsp G r g (st :: rest) (tThen t u) := ⟨fun ip c fs K J gd lv D cp k A sw Hw own gown σ H s b I ht => by
  rw [execs_cons_wrap]
  refine ha.run ip c fs _ J gd lv { D with nx := u D } cp (fun A sw Hw own gown σ H s b f I q => ?_) A sw Hw own gown σ H s b I ht
  cases f with
  | next => exact hb.run ip c fs K J gd lv D cp k A sw Hw own gown σ H s b I q
  | brk => exact k A sw Hw own gown σ H s b .brk I q
  | cont => exact k A sw Hw own gown σ H s b .cont I q
  | ret u => exact k A sw Hw own gown σ H s b (.ret u) I q⟩
def tIfg (c : TT) (t u : TGp) : TGp := fun D b σ H Hw => c σ H fun d H1 => if d = true then t D b σ H1 Hw else u D b σ H1 Hw
theorem gs_ifp {c : Expr} {st2 : List Stmt} {pos : Pos} {tc : TT} {t u : TGp} (hc : AllX G r fun X => PTp X c tc) (ha : GSsp G r g sts t) (hb : GSsp G r g st2 u) : GSp G r g (.If c sts st2 pos) (tIfg tc t u) := ⟨fun ip cc fs K J gd lv D cp k A sw Hw own gown σ H s b I ht => by
  rw [exec_If]
  refine stp_at ?_
  show Stp _ _ A cc (((isTrue c r.env (eval c r.env)) >>= fun d => if d = true then execs sts r.env else execs st2 r.env).wrap K J gd lv) fs s _
  rw [Sem.bind_eq_wrap', Sem.wrap_wrap]
  refine stp_wrap ?_
  rw [cp.over]
  refine wpAny_mono ((hc A sw Hw _ I.room).run _ s σ H _ I.inv ht) (fun d s' ⟨⟨H1, I1, q⟩, c⟩ => ?_) fun e s' q => (xp_no q).elim
  cases d with
  | true => exact ha.run ip cc fs K J gd lv D cp k A sw Hw own gown σ H1 s' b (I.calm I1 c) q
  | false => exact hb.run ip cc fs K J gd lv D cp k A sw Hw own gown σ H1 s' b (I.calm I1 c) q⟩
/-! ### yield -/
theorem loc_at {σ : L2.St} {h h' : Heap} (rok : r.Ok G) (l : LocOf r σ h) (k : ∀ o, h.get? r.L = some o → h'.get? r.L = some o) : LocOf r σ h' := by
  obtain ⟨m, ⟨o, es, ep, ho, z⟩, q⟩ := l
  refine ⟨m, ⟨o, es, ep, k o ho, z⟩, fun i x v h1 h2 h3 => ?_⟩
  obtain ⟨u, ru, q⟩ := q i x v h1 h2 h3
  refine ⟨u, ru, ?_⟩
  rcases q with q | ⟨q, _⟩
  · exact .inl q
  · exact absurd q (fun z => z.elim (rok.nocell x).1 (rok.nocell x).2)
theorem GIn.loc {A : Around} {sw : Shared} {Hw : Hp} {own : List Addr} {gown now : List Nat} {ip : List (Addr × Obj)} {σ : L2.St} {H : Hp} {s : Shared} (h : GIn G r g A sw Hw own gown now ip σ H s) : LocOf r σ s.heap := h.inv.loc
/-- what a resume has done, as it turns -/
theorem GIn.eff {A : Around} {sw : Shared} {Hw : Hp} {own : List Addr} {gown now now' : List Nat} {ip : List (Addr × Obj)} {σ : L2.St} {H : Hp} {s : Shared} {x : GenState} (ok : G.Ok) (rok : r.Ok G) (h : GIn G r g A sw Hw own gown now ip σ H s) (ry : G.Ry Hw H) (hx : x.bare = true)
    (gc : Gc gown sw (s.setGen g x) now') : Eff G own gown now' sw Hw (s.setGen g x) H :=
  ⟨h.inv.os, allBare_setGen h.inv.bare hx, un_at (s' := s) rok (fun b => ok.yk _ _ b ry) h.hown h.inv ok.fl, h.inv.hok, ry, gc⟩
/-- its frame's object -/
theorem GIn.frame {A : Around} {sw : Shared} {Hw : Hp} {own : List Addr} {gown now : List Nat} {ip : List (Addr × Obj)} {σ : L2.St} {H : Hp} {s : Shared} (h : GIn G r g A sw Hw own gown now ip σ H s) : ∃ o, s.heap.get? r.L = some o ∧ isCell o = false := by
  obtain ⟨m, ⟨o, es, ep, ho, hd, _⟩, _⟩ := h.inv.loc
  exact ⟨o, ho, by unfold isCell; rw [hd]⟩
/-- what it keeps while it sleeps, and that it may be woken again -/
theorem GIn.prv {A : Around} {sw : Shared} {Hw : Hp} {own : List Addr} {gown now : List Nat} {ip : List (Addr × Obj)} {σ : L2.St} {H : Hp} {s : Shared} {o : Obj} {x : GenState} (rok : r.Ok G) (h : GIn G r g A sw Hw own gown now ip σ H s) (ho : s.heap.get? r.L = some o) (hc : isCell o = false) (hx : asleep x = true) :
    Prv G own gown sw Hw (s.setGen g x) H ((r.L, o) :: ip) [(g, x)] where
  pv := fun p hp => by
    rcases List.mem_cons.mp hp with rfl | hp
    · exact ⟨ho, h.inv.free, rok.lo, hc, fun b _ _ _ _ hb z => hb (by rw [show b = r.L from z]; exact h.hown)⟩
    · obtain ⟨h1, h2⟩ := h.ipo p hp
      obtain ⟨e1, e2, _, _, e5⟩ := h.inv.pin p (List.mem_append_right _ hp)
      refine ⟨e1, e2, Nat.le_trans rok.lo h1, ?_, fun b o' e n hc' hb z => ?_⟩
      · unfold isCell
        split
        · rename_i v hv; exact absurd hv (e5 v)
        · rfl
      · by_cases hl : r.L ≤ b
        · exact h2 _ (mem_pnOf e hl hc' hb n) z
        · exact hl (by rw [z]; exact h1)
  gl := fun y hy => by
    rw [List.mem_singleton.mp hy]
    exact ⟨setGen_at (Nat.lt_of_lt_of_le h.gsz h.gc.size), hx, .inl h.hg⟩
/-- it is woken again: the frame, its own iterators -/
theorem gin_at {A : Around} {sw : Shared} {Hw : Hp} {pv : List (Addr × Obj)} {gl : List (Nat × GenState)} {ip : List (Addr × Obj)} {σ : L2.St} {s0 : Shared} {o : Obj} {x : GenState} (ok : G.Ok) (rok : r.Ok G) (R : Rdy G pv gl A sw Hw) (hgl : (g, x) ∈ gl) (hL : (r.L, o) ∈ pv) (hip : ∀ p ∈ ip, p ∈ pv)
    (loc : LocOf r σ s0.heap) (ho : s0.heap.get? r.L = some o) (hlen : σ.length = r.N.length) (hlo : ∀ p ∈ ip, p.1 ≠ r.L ∧ r.L ≤ p.1 ∧ isCell p.2 = false) : GIn G r g A sw Hw (pv.map (·.1)) (gl.map (·.1)) ((gl.map (·.1)).filter (· != g)) ip σ Hw (sw.setGen g .running) := by
  have hown : r.L ∈ pv.map (·.1) := List.mem_map.mpr ⟨_, hL, rfl⟩
  have hg : g ∈ gl.map (·.1) := List.mem_map.mpr ⟨_, hgl, rfl⟩
  refine ⟨R.room, hown, hg, inv_gens (s := sw) (inv_at ok rok R.room.hd R.env (Heap.lt_size (R.pv _ hL).1) hown (loc_at rok loc fun o' e => ?_) (R.pv _ hL).2 hlen fun p hp => ?_) (allBare_setGen R.env.bare rfl), fun p hp => ⟨(hlo p hp).2.1, fun q hq z => ?_⟩, Gc.begin hg, (Array.getElem?_eq_some_iff.mp (R.gl _ hgl)).1, Heap.lt_size (R.pv _ hL).1⟩
  · rw [ho] at e; cases e; exact (R.pv _ hL).1
  · obtain ⟨h1, h2⟩ := R.pv _ (hip p hp)
    obtain ⟨h3, h4, h5⟩ := hlo p hp
    exact ⟨h1, h2, h3, Nat.le_trans rok.lo h4, h5⟩
  · obtain ⟨_, _, _, h4, _⟩ := of_pnOf hq
    exact h4 (by rw [z]; exact List.mem_map.mpr ⟨_, hip p hp, rfl⟩)
end
theorem own_g {g : Nat} {x : GenState} : (([(g, x)] : List (Nat × GenState)).map (·.1)).filter (· != g) = [] := by simp
section
variable {G : GPar} {r : GFr} {g : Nat} {e : Expr} {te : TE} {yp pos : Pos}
def tYld (G : GPar) (te : TE) : TGp := fun D b σ H Hw => te σ H fun x H1 => G.Ry Hw H1 ∧ ∃ y b', b = .out y b' ∧ y x H1 ∧ (b' = .stop ∨ ∀ H2, G.Rw H1 H2 → D.nx b' σ H2 H2)
theorem gs_yld (ok : G.Ok) (rok : r.Ok G) (he : AllX G r fun X => PEp X e te) (hco : r.env.scope.isCoroutine = false) (hi : interactive r.env = false) : GSp G r g (.Expr (.Yield (some e) yp) pos) (tYld G te) := ⟨fun ip c fs K J gd lv D cp k A sw Hw own gown σ H s b I ht => by
  rw [exec_Expr r.env _ pos hi rfl]
  show Stp _ _ A c (.at pos fun _ => ((eval e r.env >>= fun v => (standAt yp >>= fun _ => yieldOut r.env v)) >>= fun x => dropValue (.Yield (some e) yp) pos x).wrap K J gd lv) fs s _
  have hy : ∀ v, yieldOut r.env v = yieldValue v := fun v => by simp only [yieldOut, hco, Bool.false_eq_true, if_false]
  simp only [hy]
  refine stp_at ?_
  rw [Sem.bind_eq_wrap', Sem.bind_eq_wrap', Sem.wrap_wrap, Sem.wrap_wrap]
  refine stp_wrap ?_
  rw [cp.over]
  refine wpAny_mono ((he A sw Hw _ I.room).run _ s σ H _ I.inv ht) (fun u s1 ⟨⟨x, H1, I1, rx, q⟩, ca⟩ => ?_) fun e s' q => (xp_no q).elim
  obtain ⟨ry, y, b', rfl, qy, qn⟩ := q
  have J1 := I.calm I1 ca
  obtain ⟨o, ho, hc⟩ := J1.frame
  refine stp_at (stp_yield cp.split cp.gd cp.guard fun p => ?_)
  refine ⟨u, _, _, c, p, fs, x, H1, _, _, congrArg (fun z => End.susp u z _ _ c p fs) cp.gd, rx, qy, J1.eff ok rok ry ?_ (J1.gc.set (fun _ z => by cases z) J1.hg fun _ => List.mem_singleton.mpr rfl), J1.prv rok ho hc rfl, List.mem_singleton.mpr rfl, ?_⟩
  · show (!(gd false || fs.any Frame.guarded)) = true
    rw [cp.gd, cp.guard]; rfl
  · rcases qn with rfl | qn
    · trivial
    refine slp_susp (List.mem_singleton.mpr rfl) fun A2 s2 H2 R hw => ?_
    have J2 := gin_at (ip := ip) (σ := σ) ok rok R (List.mem_singleton.mpr rfl) List.mem_cons_self (fun p hp => List.mem_cons_of_mem _ hp) J1.loc ho J1.inv.len fun p hp => by
      obtain ⟨_, _, h3, _, h5⟩ := J1.inv.pin p (List.mem_append_right _ hp)
      exact ⟨h3, (J1.ipo p hp).1, isCell_of h5⟩
    rw [own_g] at J2
    exact k A2 s2 H2 _ _ σ H2 _ b' .next J2 (qn H2 hw)⟩
end
end Ssp

/-! A generator is woken, on the second machine. -/
namespace Ssp
open PySem PySem.Spec PyProof.Rows Ssg L2
open Sem (wp)
section
variable {P : Program} {w : World} {A : Around} {E : Value → Shared → Prop} {s : Shared}
theorem call_entryP {T : String} {name : Str} {id : String} {b : Builtin} {self : Value} {rest : List Value} {Q : Value → Shared → Prop} (h : Slot T name id) (hT : s.TypeIs self T) (hb : entryFor table id = some b)
    (hc : wpAny (plus P w) A.in1 (b ⟨self :: rest, []⟩) (fun fin s' => ∃ v, fin = .done (.ret v) ∧ Q v s') E s) (ha : argsOk id ⟨self :: rest, []⟩ := by rfl) : wpAny (plus P w) A (call (.builtin id) (self :: rest)) Q E s := by
  refine wpAny_call (codeP ?_)
  show wpAny _ A.in1 (do checkBuiltinCall id ⟨self :: rest, []⟩; again (.builtin id ⟨self :: rest, []⟩)) _ _ s
  refine wpAny_bind (h.check _ _ _ _ _ _ _ _ hT ha (wpAny_pure (And.intro (plainId_quiet h.plain _) (codeP ?_))))
  rw [Around.under_plainId h.plain _]
  show wpAny _ _ (match entryFor table id with | some b => b _ | none => unsupported ((withoutEnding? id "#data").getD id)) _ _ s
  rw [hb]
  refine wpAny_mono hc (fun fin s' h' => ?_) fun _ _ h' => h'
  obtain ⟨v, rfl, hv⟩ := h'
  exact hv
theorem genNumberP {a : Addr} {g : Nat} {n : Int} {Q : Nat → Shared → Prop} (hg : GenOb s.heap a g n) (hn : n ≤ 0) (h : Q g s) : wpAny (plus P w) A (Builtin.Generator.genNumber (.ref a)) Q E s := by
  obtain ⟨o, nm, qn, ho, _, hd, hsl⟩ := hg
  unfold Builtin.Generator.genNumber
  refine wpAny_bind (wpAny_load ho ?_)
  have rest : wpAny (plus P w) A (match o.data with
      | .fields vs => match (vs[0]? : Option Value) with
        | some (Value.int i _) => pure i.toNat
        | _ => unsupported "internal:generator-number"
      | _ => unsupported "internal:no-fields") Q E s := by
    rw [hd]
    show wpAny _ A (pure ((g : Int).toNat)) Q E s
    rw [Int.toNat_natCast]; exact wpAny_pure h
  unfold slotN at hsl
  generalize o.slots[0]? = z at hsl ⊢
  have fin : ∀ (X : Sem Nat) (m : Int) (B : Sem Nat), m ≤ 0 → wpAny (plus P w) A X Q E s → wpAny (plus P w) A (if m > 0 then B else X) Q E s := fun X m B hm hX => by
    rw [if_neg (by omega)]; exact hX
  rcases z with _ | _ | v
  · exact rest
  · exact rest
  · cases v
    case int m k => exact fin _ m _ (by rw [show m = n from hsl]; exact hn) rest
    all_goals exact rest
theorem wpAny_resumeP {α : Type} {M : Model} {g : Nat} {r : Resume} {l : List Value} {k : GenResult → Sem α} {Q : α → Shared → Prop} (h : ∀ Γ p, Γ.In A → ∃ res s', Wakes M Γ p g r s res s' ∧ wpAny M A (k res) Q E s') : wpAny M A (.resume g r l k) Q E s := by
  intro Γ p hΓ
  rw [Sem.wp_resume]
  obtain ⟨res, s', x, y⟩ := h Γ p hΓ
  exact ⟨res, s', x, y Γ p hΓ⟩
end
section
variable {G : GPar} {A : Around} {E : Value → Shared → Prop} {s : Shared} {H Hy : Hp} {a : Addr} {g : Nat} {n : Int} {b : Beh} {pv : List (Addr × Obj)} {gl : List (Nat × GenState)}
/-- what has been handed out, or the end -/
structure Nxt (G : GPar) (g : Nat) (b : Beh) (pv : List (Addr × Obj)) (gl : List (Nat × GenState)) (s : Shared) (H : Hp) (Q : Value → Shared → Prop) (Z : Shared → Hp → Prop) : Prop where
  go : b ≠ .stop
  out : ∀ y b', b = .out y b' → ∀ u s' v H' pv' gl', RelV v u → y v H' → Eff G (pv.map (·.1)) (gl.map (·.1)) (gl'.map (·.1)) s H s' H' → Prv G (pv.map (·.1)) (gl.map (·.1)) s H s' H' pv' gl' → g ∈ gl'.map (·.1) → Slp G g b' pv' gl' H' → Q u s'
  done : b = .done → ∀ s' H', Eff G (pv.map (·.1)) (gl.map (·.1)) [] s H s' H' → Z s' H'
theorem wakes_of (R : Rdy G pv gl A s H) (S : Slp G g b pv gl Hy) (hw : G.Rw Hy H) {Q : Value → Shared → Prop} {Z : Shared → Hp → Prop} (N : Nxt G g b pv gl s H Q Z) {k : GenResult → Sem PySem.Fin} {F : PySem.Fin → Shared → Prop}
    (k1 : ∀ u s', Q u s' → wpAny (plus G.P G.w) A (k (.yielded u)) F E s') (k2 : ∀ s' H', Z s' H' → wpAny (plus G.P G.w) A (k (.returned .none)) F E s') : wpAny (plus G.P G.w) A (.resume g (.send .none) [] k) F E s := by
  refine wpAny_resumeP fun Γ p hΓ => ?_
  cases b with
  | stop => exact absurd rfl N.go
  | done =>
    obtain ⟨s', H', x, z⟩ := S A s H R hw Γ p hΓ
    exact ⟨_, s', x, k2 s' H' (N.done rfl s' H' z)⟩
  | out y b =>
    obtain ⟨u, s', v, H', pv', gl', x, z1, z2, z3, z4, z5, z6⟩ := S A s H R hw Γ p hΓ
    exact ⟨_, s', x, k1 u s' (N.out y b rfl u s' v H' pv' gl' z1 z2 z3 z4 z5 z6)⟩
theorem special_genP {Q : Option Value → Shared → Prop} (hh : A.handled = none) (hd : A.depth < recursionLimit) (hl : s.heap.NoLimit) (ho : GenOb s.heap a g n) (hn : n ≤ 0) (hg : g ∈ gl.map (·.1)) (R : Rdy G pv gl A.in1 s H) (S : Slp G g b pv gl Hy) (hw : G.Rw Hy H)
    (N : Nxt G g b pv gl s H (fun u s' => Q (some u) s') fun s' H' => ∀ e h' tk, StopX e h' → (∀ b o, s'.heap.get? b = some o → h'.get? b = some o) → E e { s' with heap := h', toks := tk }) :
    wpAny (plus G.P G.w) A (callSpecial? (.ref a) "__next__") Q E s := by
  have hT : s.TypeIs (.ref a) "generator" := let ⟨o, _, _, e, hc, _⟩ := ho; ⟨o, e, hc⟩
  refine wpAny_callSpecial?_slot (name := Str.ofString "__next__") hT slot_gen_next (call_entryP slot_gen_next hT entry_gen_next ?_ (args_gen_next _))
  show wpAny _ A.in1 (Builtin.Generator.genWake (.ref a) (.send .none)) _ _ s
  unfold Builtin.Generator.genWake
  refine wpAny_bind (wpAny_holding (genNumberP ho hn ?_))
  obtain ⟨x, hx, hxg⟩ := List.mem_map.mp hg
  have hgs : s.gens[g]? = some x.2 := by rw [← hxg]; exact R.gl x hx
  refine wpAny_bind (wpAny_genState hgs ?_)
  obtain ⟨i, st⟩ := x
  cases st
  case' fresh => refine wpAny_bind (wpAny_roomToWake hl hd ?_)
  case' suspended => refine wpAny_bind (wpAny_roomToWake hl hd ?_)
  all_goals
    show wpAny _ A.in1 (.resume g (.send .none) [] _) _ _ s
    refine wakes_of R S hw N (fun u s' hq => wpAny_pure ⟨u, rfl, hq⟩) fun s' H' hz => ?_
    show wpAny _ A.in1 (newExc (.type "StopIteration") [] >>= _) _ _ _
    refine wpAny_bind ?_
    simp only [newExc, newTuple]
    refine wpAny_bind (wpAny_newObj_type ?_ (by size_fits))
    refine wpAny_bind (m := firstArgMember _ _) (wpAny_of_eq (a := Value.none) (by first | rfl | (simp only [firstArgMember]; rfl)) ?_)
    refine wpAny_newObj_type ?_ (by size_fits)
    simp only [raiseNew]
    refine wpAny_bind (wpAny_bind (wpAny_handled ?_))
    rw [show A.in1.handled = none from hh]
    refine wpAny_throw ?_
    refine hz _ _ _ ⟨_, _, _, rfl, Heap.get?_push_size _ rfl, rfl, rfl, ?_⟩ fun b o hb => Heap.get?_push_of_some _ (Heap.get?_push_of_some _ hb)
    first
      | rfl
      | (rw [Array.getElem?_append_left (by decide)]; rfl)
      | kernel_rfl
theorem next_genP {Q : Option Value → Shared → Prop} (hh : A.handled = none) (hd : A.depth < recursionLimit) (hl : s.heap.NoLimit) (ho : GenOb s.heap a g n) (hn : n ≤ 0) (hg : g ∈ gl.map (·.1)) (R : Rdy G pv gl A.in1 s H) (S : Slp G g b pv gl Hy) (hw : G.Rw Hy H)
    (N : Nxt G g b pv gl s H (fun u s' => Q (some u) s') fun s' H' => ∀ h' tk, (∀ b o, s'.heap.get? b = some o → h'.get? b = some o) → Q none { s' with heap := h', toks := tk }) :
    wpAny (plus G.P G.w) A (pyNext (.ref a)) Q E s := by
  unfold pyNext
  refine wpAny_bind (wpAny_attempt (special_genP hh hd hl ho hn hg R S hw ⟨N.go, fun y b' e u s' v H' pv' gl' z1 z2 z3 z4 z5 z6 => ?_, fun e s' H' z h h' tk hS hk => ?_⟩))
  · exact wpAny_pure (N.out y b' e u s' v H' pv' gl' z1 z2 z3 z4 z5 z6)
  · obtain ⟨x, o, vs, rfl, hx, hc, _⟩ := hS
    refine wpAny_bind (wpAny_isInstance (T := "StopIteration") (b := true) ⟨o, hx, hc⟩ isSubtype_stop ?_)
    exact wpAny_pure (N.done e s' H' z h' tk hk)
end
/-! ### who wakes it -/
section
variable {X : Cx} {pins : List (Addr × Obj)} {σ : L2.St} {H H' : Hp} {s s' : Shared} {G : GPar} {own : List Addr} {gown now : List Nat}
theorem inv_eff (I : Inv X pins σ H s) (hP : G.P = X.prog) (hw : G.w = X.w) (ho : G.outer = X.stack) (hlo : ∀ b, G.lo ≤ b → X.s_0.heap.objs.size ≤ b ∧ b ≠ X.env.locals ∧ ∀ x c, X.env.cells.lookup x = some c → c ≠ b) (hown : ∀ b ∈ own, G.lo ≤ b ∧ ∀ p ∈ X.pn ++ pins, p.1 ≠ b)
    (F : Eff G own gown now s H s' H') : Inv X pins σ H' s' := by
  refine I.call' F.os (by rw [← ho]; exact F.un) (by rw [← hP, ← hw]; exact F.hok) F.bare fun b hb => ?_
  rcases of_exOf hb with hb | ⟨hb, o, e, hc⟩
  · obtain ⟨h1, h2⟩ := hown b hb
    obtain ⟨h3, h4, h5⟩ := hlo b h1
    exact ⟨.inr h3, h4, h5, h2⟩
  · obtain ⟨h3, h4, h5⟩ := hlo b hb
    refine ⟨.inr h3, h4, h5, fun p hp z => ?_⟩
    obtain ⟨e1, _, _, _, e5⟩ := I.pin p hp
    rw [z, e] at e1
    cases e1
    exact absurd (isCell_of e5) (by rw [hc]; exact Bool.noConfusion)
/-- what it holds is told apart from what others have pinned -/
theorem prv_apart (I : Inv X pins σ H s) {pv : List (Addr × Obj)} {gl : List (Nat × GenState)} (hown : ∀ b ∈ own, ∀ p ∈ X.pn ++ pins, p.1 ≠ b) (Pr : Prv G own gown s H s' H' pv gl) : ∀ b ∈ pv.map (·.1), G.lo ≤ b ∧ ∀ p ∈ X.pn ++ pins, p.1 ≠ b := fun b hb => by
  obtain ⟨q, hq, rfl⟩ := List.mem_map.mp hb
  obtain ⟨_, _, h3, _, h5⟩ := Pr.pv q hq
  refine ⟨h3, fun p hp => ?_⟩
  obtain ⟨e1, e2, _, _, e5⟩ := I.pin p hp
  exact h5 p.1 p.2 e1 e2 (isCell_of e5) fun z => hown _ z p hp rfl
end
end Ssp

/-! A generator def's promise on the second machine; who holds a generator. -/
namespace Ssp
open PySem PySem.Spec PyProof.Rows Ssg L2
open Sem (wp)
structure RwRy (Rw Ry : Hp → Hp → Prop) : Prop where
  wr : ∀ H, Rw H H
  wt : ∀ H H1 H2, Rw H H1 → Rw H1 H2 → Rw H H2
  yr : ∀ H, Ry H H
  yt : ∀ H H1 H2, Ry H H1 → Ry H1 H2 → Ry H H2
  yw : ∀ H H1, Ry H H1 → Rw H H1
  yk : ∀ H H1 b, Ry H H1 → H b ≠ none → H1 b ≠ none
/-- a generator that has not begun -/
def GMk (P : Program) (w : World) (K : PySem.W.Frag) (mg : Str → Option Value) (base : Heap) (k : Nat) (outer : List Env) (Rw Ry : Hp → Hp → Prop) (s : Shared) (H : Hp) (b : Beh) (u : Value) (s' : Shared) : Prop :=
  ∃ (a : Addr) (g : Nat) (oa : Obj) (pv : List (Addr × Obj)) (gl : List (Nat × GenState)), u = .ref a ∧ s.heap.objs.size ≤ a ∧ s'.heap.get? a = some oa ∧ (∃ nm qn, oa.cls = .type "generator" ∧ oa.data = .fields #[.int g 0, nm, qn] ∧ oa.slots = #[]) ∧ (∀ b o, s.heap.get? b = some o → s'.heap.get? b = some o) ∧ s'.os = s.os ∧
    AllBare s'.gens ∧ Calm s s' ∧ g ∈ gl.map (·.1) ∧ (∀ p ∈ pv, s.heap.objs.size ≤ p.1 ∧ p.1 ≠ a ∧ s'.heap.get? p.1 = some p.2 ∧ isCell p.2 = false) ∧ (∀ x ∈ gl, s.gens.size ≤ x.1 ∧ s'.gens[x.1]? = some x.2) ∧
    Slp ⟨P, w, K, mg, base, k, outer, s.heap.objs.size, Rw, Ry⟩ g b pv gl H
/-- what a generator def's call does; sp: the arguments, the heap's words, what is to come -/
structure GFnP (P : Program) (w : World) (K : PySem.W.Frag) (mg : Str → Option Value) (base : Heap) (k : Nat) (f : Addr) (fd : FuncData) (ps : List Str) (Rw Ry : Hp → Hp → Prop) (sp : List V → Hp → Beh → Prop) : Prop where
  len : ∀ vs H b, sp vs H b → vs.length = ps.length
  run : ∀ (A : Around) (outer : List Env) (s : Shared) (H : Hp) (args : Args) (us : List Value) (vs : List V) (b : Beh), Room (k + 1) A → Env0 P w K mg base A outer s H → BindsTo s fd args (ps.zip us) → Vals vs us → sp vs H b →
    codeAny (plus P w) A (.call (.ref f) args) (fun r s' => match r with | .ok (.ret u) => GMk P w K mg base k outer Rw Ry s H b u s' | _ => False) s
section
variable {P : Program} {w : World}
theorem code_gen {A : Around} {a : Addr} {args : Args} {o : Obj} {fd : FuncData} {body : List Stmt} {R : Result → Shared → Prop} {s : Shared} (hroom : A.depth < recursionLimit) (ho : s.heap.get? a = some o) (hd : o.data = .func fd)
    (hco : fd.scope.isCoroutine = false) (hgen : fd.scope.isGenerator = true) (hbody : fd.body = .stmts body) (hcd : s.heap.CodeRec fd.code fd.qualname)
    (h : wpAny (plus P w) A.in1 (bindArgs fd args) (fun binds s1 => wpAny (plus P w) A.in1 (newFunctionEnv fd.scope fd.globals fd.closure binds (fd.qualname ++ ".<locals>.") (some a) fd.code none fd.builtins)
      (fun env s2 => s2.heap.NoLimit ∧ ∀ go nm qn tk, go.cls = .type "generator" → go.data = .fields #[.int s2.gens.size 0, nm, qn] → go.slots = #[] → (∀ h : Heap, (h.push go).get? h.objs.size = some go) →
        R (.ok (.ret (.ref s2.heap.objs.size))) { s2 with gens := s2.gens.push (.fresh (.func body env)), toks := tk, heap := s2.heap.push go }) (fun e s' => R (.error e) s') s1) (fun e s' => R (.error e) s') s) : codeAny (plus P w) A (.call (.ref a) args) R s := by
  refine codeP ?_
  show wpAny _ A.in1 (callAny (.ref a) args) _ _ s
  simp only [callAny]
  refine wpAny_bind (wpAny_load ho ?_)
  obtain ⟨c, oc, vs, tq, hc, hoc, hdc, hq⟩ := hcd
  simp only [hd, callFunction, hco, hgen, hbody, hc]
  rw [hc] at h
  refine wpAny_bind (m := field (.ref c) 1) (wpAny_field hoc hdc hq (wpAny_bind (wpAny_pure ?_)))
  refine wpAny_bind (wpAny_mono h (fun b s1 h1 => wpAny_bind (wpAny_mono h1 (fun env s2 h2 => wpAny_bind (wpAny_enterFrame h2.1 hroom ?_)) fun _ _ z => z)) fun _ _ z => z)
  simp only [newGenerator, newFields]
  exact wpAny_bind (wpAny_bind (wpAny_newGen (wpAny_bind (wpAny_mkText (wpAny_bind (wpAny_mkText (wpAny_newObj_type (wpAny_pure (h2.2 _ _ _ _ rfl rfl rfl fun h => Heap.get?_push_size _ rfl)) (by size_fits))))))))
theorem cells_none {n : Nat} : ∀ {names : List (Str × NameKind)}, (∀ y ∈ names, y.2 ≠ .cell) → cellsFrom n names [] = []
  | [], _ => rfl
  | (x, k) :: r, h => by
    unfold cellsFrom
    rw [if_neg (fun z => h (x, k) List.mem_cons_self (beq_iff_eq.mp z))]
    exact cells_none fun y hy => h y (List.mem_cons_of_mem _ hy)
/-- a generator def, by its body -/
theorem gfn_ofP {K : PySem.W.Frag} {mg : Str → Option Value} {base : Heap} {k : Nat} {f : Addr} {name qual : Str} {params : Arguments} {body : List Stmt} {scope : Scope} {dV kV doc pm cdv ct oc : Value} {an od : Option Addr} {osl : Array (Option Value)} {N ps : List Str}
    {Rw Ry : Hp → Hp → Prop} {sp : List V → Hp → Beh → Prop} (rr : RwRy Rw Ry) (lk : K.lookup f = some ⟨oc, od, .func (PySem.W.fnOf name qual params body scope dV kV doc pm an cdv ct), osl⟩) (hcd : PySem.W.codeIn K cdv qual = true) (S : GScope N ps scope)
    (nc : ∀ y ∈ scope.names, y.2 ≠ .cell ∧ y.2 ≠ .free) (len : ∀ vs H b, sp vs H b → vs.length = ps.length)
    (hbody : ∀ (outer : List Env) (lo L g : Nat) (vs : List V) (H : Hp) (b : Beh), sp vs H b → GPar.Ok ⟨P, w, K, mg, base, k, outer, lo, Rw, Ry⟩ → GFr.Ok ⟨P, w, K, mg, base, k, outer, lo, Rw, Ry⟩ ⟨qual, scope, f, cdv, L, N⟩ →
      ∃ t, GSsp ⟨P, w, K, mg, base, k, outer, lo, Rw, Ry⟩ ⟨qual, scope, f, cdv, L, N⟩ g body t ∧ ∀ H2, Rw H H2 → t { nx := fun b _ H Hw => b = .done ∧ Ry Hw H, rt := fun b H Hw => b = .done ∧ Ry Hw H } b (start N vs) H2 H2) :
    GFnP P w K mg base k f (PySem.W.fnOf name qual params body scope dV kV doc pm an cdv ct) ps Rw Ry sp := by
  refine ⟨len, fun A outer s H args us vs b hr e0 hb r hsp => ?_⟩
  have hl := len _ _ _ hsp
  have KX : K.In s.heap := e0.mod.kin.keeps fun b o e => (e0.bs b o e).1
  have lim : s.heap.NoLimit := e0.mod.nolimit.keeps fun b o e => (e0.bs b o e).1
  have hkind : ∀ y ∈ ps.zip us, scope.names.lookup y.1 = some .local ∨ (scope.names.lookup y.1 = some .cell ∧ ((cellsFrom (s.heap.objs.size + 1) scope.names []).lookup y.1).isSome = true) := fun ⟨n, v⟩ hy => (S.par n (List.of_mem_zip hy).1).imp id fun q => ⟨q, PySem.W.cellsFrom_some _ _ _ (.inl q)⟩
  refine code_gen hr.depth (KX _ _ lk) rfl S.co S.gen rfl (PySem.W.codeRec_of KX hcd) (hb _ _ _ _ ?_)
  refine wpAny_newFunctionEnv_cells S.kind hkind fun env he s1 x => ?_
  subst he
  refine ⟨lim.keeps x.toInCall.keep, fun go nm qn tk hgc hgd hgs hgp => ?_⟩
  obtain ⟨h1, tk1, es1, hk1⟩ := x.done
  have os1 : s1.os = s.os := by rw [es1]
  have gen1 : s1.gens = s.gens := by rw [es1]
  have lt1 : s.heap.objs.size < s1.heap.objs.size := x.toInCall.ns.lt
  have I1 : Inv (gcxOf P w K mg base N qual scope f cdv A outer s H (fun _ _ _ => False) []) [] (start N vs) H s1 := inv_startG S hr.hd e0 hl r x
  obtain ⟨oL, hoL, hcL⟩ : ∃ o, s1.heap.get? s.heap.objs.size = some o ∧ isCell o = false := by
    obtain ⟨m, ⟨o, es, ep, ho, hd, _⟩, _⟩ := I1.loc
    exact ⟨o, ho, by unfold isCell; rw [hd]⟩
  have pushed : ∀ b o, s1.heap.get? b = some o → (s1.heap.push go).get? b = some o := fun b o e => Heap.get?_push_of_some _ e
  have gok : GPar.Ok ⟨P, w, K, mg, base, k, outer, s.heap.objs.size, Rw, Ry⟩ := ⟨e0.mod, e0.bsz, fun b hb => let ⟨_, o, ho, _⟩ := e0.funs.mem hb; Heap.lt_size ho, rr.wr, rr.wt, rr.yr, rr.yt, rr.yw, rr.yk⟩
  have rok : GFr.Ok ⟨P, w, K, mg, base, k, outer, s.heap.objs.size, Rw, Ry⟩ ⟨qual, scope, f, cdv, s.heap.objs.size, N⟩ := ⟨S.kind, cells_none fun y hy => (nc y hy).1, fun x => ⟨fun z => (nc _ (PySem.mem_of_lookup z)).1 rfl, fun z => (nc _ (PySem.mem_of_lookup z)).2 rfl⟩, Nat.le_refl _, S.nd⟩
  refine ⟨s1.heap.objs.size, s1.gens.size, go, [(s.heap.objs.size, oL)], [(s1.gens.size, .fresh (.func body (envOfC qual scope s.heap.objs.size f cdv)))], rfl, Nat.le_of_lt lt1, hgp _, ⟨nm, qn, hgc, hgd, hgs⟩, fun b o e => pushed b o (x.toInCall.keep b o e), os1,
    AllBare.push (by rw [gen1]; exact e0.bare) rfl, ⟨fun i y e _ => ?_, fun i y e hm => ?_, ?_⟩, List.mem_singleton.mpr rfl, fun p hp => ?_, fun y hy => ?_, slp_fresh (List.mem_singleton.mpr rfl) fun A2 s2 H2 R hw => ?_⟩
  · show (s1.gens.push _)[i]? = some y
    rw [gen1, Array.getElem?_push_lt (Array.getElem?_eq_some_iff.mp e).1]
    exact (Array.getElem?_eq_getElem _).symm.trans e
  · have e : (s1.gens.push _)[i]? = some y := e
    rw [gen1] at e
    by_cases hi : i < s.gens.size
    · rw [Array.getElem?_push_lt hi] at e
      rw [Array.getElem?_eq_getElem hi]; exact e
    · rw [Array.getElem?_push] at e
      split at e
      · cases e; cases hm
      · exact absurd (Array.getElem?_eq_some_iff.mp e).1 hi
  · show s.gens.size ≤ (s1.gens.push _).size
    rw [Array.size_push, gen1]; exact Nat.le_succ _
  · rw [List.mem_singleton.mp hp]
    exact ⟨Nat.le_refl _, Nat.ne_of_lt lt1, pushed _ _ hoL, hcL⟩
  · rw [List.mem_singleton.mp hy]
    exact ⟨by rw [gen1]; exact Nat.le_refl _, Array.getElem?_push_size ..⟩
  · obtain ⟨t, ht, hq⟩ := hbody outer s.heap.objs.size s.heap.objs.size s1.gens.size vs H b hsp gok rok
    have J := gin_at (r := ⟨qual, scope, f, cdv, s.heap.objs.size, N⟩) (ip := []) (σ := start N vs) (s0 := s1) gok rok R (List.mem_singleton.mpr rfl) (List.mem_singleton.mpr rfl) (fun p hp => by cases hp) I1.loc hoL I1.len fun p hp => by cases hp
    rw [own_g] at J
    rw [plus_den, mk_id rfl]
    show Stp _ _ A2 _ (.point [] fun _ => ((execs body (envOfC qual scope s.heap.objs.size f cdv)).onRaise (leaving (envOfC qual scope s.heap.objs.size f cdv))) >>= _) [] _ _
    refine stp_point ?_
    rw [Sem.onRaise_eq_wrap, Sem.bind_eq_wrap', Sem.wrap_wrap]
    rw [Sem.wrap_congr (execs body (envOfC qual scope s.heap.objs.size f cdv)) _ _ (K' := fun f => .pure (.done (.ret (match f with | .ret v => v | _ => .none))))
      (H' := fun e => (leaving (envOfC qual scope s.heap.objs.size f cdv) e).wrap (fun _ => .raise e) .raise id id) (fun f => by cases f <;> rfl) (fun e => by rw [Sem.bind_eq_wrap, Sem.wrap_wrap]; rfl)]
    refine ht.run [] _ [] _ _ id id _ ⟨fun A => GenW.over_func, rfl, rfl, rfl⟩ (fun A3 sw Hw own gown σ H3 s3 b fl I q => ?_) A2 s2 H2 _ _ _ H2 _ b J (hq H2 hw)
    have fin : ∀ {u : Value}, u = .none → b = .done → Ry Hw H3 → Stp P w A3 (.func body (envOfC qual scope s.heap.objs.size f cdv)) (leafOf (.ok (.ret u))) [] s3 (FinG ⟨P, w, K, mg, base, k, outer, s.heap.objs.size, Rw, Ry⟩ s1.gens.size b sw Hw own gown) := fun {u} eu eb ry => by
      subst eu
      subst eb
      exact stp_end _ ⟨rfl, H3, I.eff gok rok ry rfl (I.gc.set (fun _ z => by cases z) I.hg fun z => by cases z)⟩
    cases fl with
    | next => exact fin rfl q.1 q.2
    | brk => exact q.elim
    | cont => exact q.elim
    | ret u => exact fin q.1 q.2.1 q.2.2
end
end Ssp

/-! yield from another generator, on the second machine. -/
namespace Ssp
open PySem PySem.Spec PyProof.Rows Ssg L2
open Sem (wp)
theorem mk_bind {α β : Type} {c : Code} (m : Sem α) (f : α → Sem β) : mk c (m >>= f) = mk c m >>= fun a => mk c (f a) := by
  show mk c (m.bind f) = (mk c m).bind fun a => mk c (f a)
  induction m with
  | yield v g l k ih =>
    unfold Sem.bind
    simp only [mk]
    cases overOf c with
    | none => simp only [Sem.bind]; congr 1; funext x; exact ih x
    | some a => simp only [Sem.bind]; congr 1; funext o; congr 1; funext x; exact ih x
  | pure a => rfl
  | raise e => rfl
  | unsupported w => rfl
  | finish e => rfl
  | _ => simp only [Sem.bind, mk, *]
def GenObj (o : Obj) (g : Nat) (n : Int) : Prop := ∃ nm qn, o.cls = .type "generator" ∧ o.data = .fields #[.int g 0, nm, qn] ∧ slotN o = n
theorem GenObj.ob {h : Heap} {a : Addr} {o : Obj} {g : Nat} {n : Int} (x : GenObj o g n) (e : h.get? a = some o) : GenOb h a g n := let ⟨nm, qn, r⟩ := x; ⟨o, nm, qn, e, r⟩
theorem GenObj.cell {o : Obj} {g : Nat} {n : Int} (x : GenObj o g n) : isCell o = false := by
  obtain ⟨nm, qn, _, hd, _⟩ := x
  unfold isCell
  rw [hd]
theorem GenObj.num {o : Obj} {g : Nat} {n : Int} (x : GenObj o g n) : genAt (some o) = true := by
  obtain ⟨nm, qn, hc, hd, _⟩ := x
  show (o.genNumber?).isSome = true
  unfold Obj.genNumber?
  rw [hc, hd]
  rfl
section
variable {P : Program} {w : World} {A : Around} {c : Code} {fs : List Frame} {s : Shared} {Φ : End → Shared → Prop}
theorem stp_mk {α : Type} {m : Sem α} {f : α → Sem PySem.Fin} (h : wpAny (plus P w) (A.over c fs) m (fun a s' => Stp P w A c (mk c (f a)) fs s' Φ) (fun x s' => Stp P w A c (.raise x) fs s' Φ) s) : Stp P w A c (mk c (m >>= f)) fs s Φ := by
  rw [mk_bind]
  exact stp_bind (wpAny_mk h)
theorem stp_bw {α β : Type} {m : Sem α} {f : α → Sem β} {K : β → Sem PySem.Fin} {J : Value → Sem PySem.Fin} {gd : Bool → Bool} {lv : List Value → List Value}
    (h : wpAny (plus P w) (A.over c fs) m (fun a s' => Stp P w A c ((f a).wrap K J gd lv) fs s' Φ) (fun x s' => Stp P w A c (J x) fs s' Φ) s) : Stp P w A c ((m >>= f).wrap K J gd lv) fs s Φ := by
  rw [Sem.bind_eq_wrap', Sem.wrap_wrap]
  exact stp_wrap h
theorem stp_bw2 {α β γ : Type} {m : Sem α} {f : α → Sem β} {f2 : β → Sem γ} {K : γ → Sem PySem.Fin} {J : Value → Sem PySem.Fin} {gd : Bool → Bool} {lv : List Value → List Value}
    (h : wpAny (plus P w) (A.over c fs) m (fun a s' => Stp P w A c ((f a).wrap (fun b => (f2 b).wrap K J gd lv) J gd lv) fs s' Φ) (fun x s' => Stp P w A c (J x) fs s' Φ) s) :
    Stp P w A c (((m >>= f) >>= f2).wrap K J gd lv) fs s Φ := by
  rw [Sem.bind_eq_wrap' (m >>= f) f2, Sem.wrap_wrap]
  exact stp_bw h
/-- a plain builtin's code over its caller's -/
theorem over_in1 {c' : Code} {k : Result → Sem PySem.Fin} {g : Bool} {l kp : List Value} {p : Pos} (hw : c'.weight = 0) (hu : c'.cUnits = 1) : A.over c' (.ret k none g l c p kp :: fs) = (A.over c fs).in1 := by
  have e2 : A.depth + frameCount ((Frame.ret k none g l c p kp :: fs).map Frame.where_) + c'.weight = A.depth + frameCount (fs.map Frame.where_) + c.weight := by
    show A.depth + frameCount ((c, p) :: fs.map Frame.where_) + c'.weight = _
    rw [frameCount_cons, hw]; omega
  have e3 : pushEnvs c'.envs (pushEnvs (envsOf ((Frame.ret k none g l c p kp :: fs).map Frame.where_)) A.frames) = pushEnvs c.envs (pushEnvs (envsOf (fs.map Frame.where_)) A.frames) := by
    show pushEnvs c'.envs (pushEnvs (envsOf ((c, p) :: fs.map Frame.where_)) A.frames) = _
    rw [Code.envs_of_weight hw, envsOf_cons]
    simp only [pushEnvs_eq]
    cases A.frames <;> simp [List.append_assoc]
  have e4 : pushGuards c'.guards (pushGuards (guardsOf ((Frame.ret k none g l c p kp :: fs).map Frame.where_)) A.guards) = pushGuards c.guards (pushGuards (guardsOf (fs.map Frame.where_)) A.guards) := by
    show pushGuards c'.guards (pushGuards (guardsOf ((c, p) :: fs.map Frame.where_)) A.guards) = _
    rw [Code.guards_of_weight hw, guardsOf_cons]
    simp only [pushGuards_eq]
    cases A.guards <;> simp [List.append_assoc]
  have e5 : A.units + unitsOf ((Frame.ret k none g l c p kp :: fs).map Frame.where_) + c'.cUnits = A.units + unitsOf (fs.map Frame.where_) + c.cUnits + 1 := by
    show A.units + unitsOf ((c, p) :: fs.map Frame.where_) + c'.cUnits = _
    rw [unitsOf_cons, hu]; omega
  have e1 : (marksOver (Frame.ret k none g l c p kp :: fs) (A.handled, A.handled)).1 = (marksOver fs (A.handled, A.handled)).1 := rfl
  show (⟨(marksOver (Frame.ret k none g l c p kp :: fs) (A.handled, A.handled)).1, A.depth + frameCount ((Frame.ret k none g l c p kp :: fs).map Frame.where_) + c'.weight,
    pushEnvs c'.envs (pushEnvs (envsOf ((Frame.ret k none g l c p kp :: fs).map Frame.where_)) A.frames), pushGuards c'.guards (pushGuards (guardsOf ((Frame.ret k none g l c p kp :: fs).map Frame.where_)) A.guards),
    A.units + unitsOf ((Frame.ret k none g l c p kp :: fs).map Frame.where_) + c'.cUnits⟩ : Around) = _
  rw [e1, e2, e3, e4, e5]
  rfl
theorem sleptG {A : Around} {E : Value → Shared → Prop} {a : Addr} {o : Obj} {g : Nat} {n : Int} {more : Bool} {Q : Unit → Shared → Prop} (ho : s.heap.get? a = some o) (hg : GenObj o g n)
    (h : ∀ h' o', h'.get? a = some o' → GenObj o' g (if more = true then n + 1 else n - 1) → (∀ b u, b ≠ a → s.heap.get? b = some u → h'.get? b = some u) → Q () { s with heap := h' }) : wpAny (plus P w) A (Builtin.Generator.sleptOver (.ref a) more) Q E s := by
  obtain ⟨nm, qn, hc, hd, hs⟩ := hg
  unfold Builtin.Generator.sleptOver
  refine wpAny_bind (wpAny_load ho ?_)
  rw [hc, if_neg (by decide)]
  show wpAny _ A (setSlotAt a 0 _) Q E s
  unfold setSlotAt
  rw [if_neg (by decide)]
  refine wpAny_updatePart ho ?_
  have hne : 0 < (o.slots ++ Array.replicate (0 + 1 - o.slots.size) (none : Option Value)).size := by
    rw [Array.size_append, Array.size_replicate]; omega
  refine h _ _ (Heap.get?_update_self _ ho (Obj.isFreed_of_fields (vs := #[.int g 0, nm, qn]) hd)) ⟨nm, qn, hc, hd, ?_⟩ fun b u hb e => (Heap.get?_update_other _ _ (Ne.symm hb)).trans e
  have key : ∀ k : Int, slotN { o with slots := (o.slots ++ Array.replicate (0 + 1 - o.slots.size) none).setIfInBounds 0 (some (rawInt k)) } = k := fun k => by
    unfold slotN
    show (match ((o.slots ++ Array.replicate (0 + 1 - o.slots.size) none).setIfInBounds 0 (some (rawInt k)))[0]? with | some (some (Value.int n _)) => n | _ => 0) = k
    rw [Array.getElem?_setIfInBounds_self_of_lt hne]
    rfl
  subst hs
  exact (key _).trans (by cases more <;> rfl)
end
end Ssp

/-! The turns of «yield from» over a generator, on the second machine. -/
namespace Ssp
open PySem PySem.Spec PyProof.Rows Ssg L2
open Sem (wp)
abbrev yfc (a : Addr) : Code := .builtin "proto.yield_from" ⟨[.ref a, .bool false, .none], []⟩
theorem over_yfc (a : Addr) : overOf (yfc a) = some a := rfl
theorem mk_yield {α : Type} {c : Code} {a : Addr} (h : overOf c = some a) (v : Value) (g : Bool) (l : List Value) (k : Resume → Sem α) :
    mk c (.yield v g l k) = .loadIfAlive a fun o => .yield v (g && !genAt o) (if g && genAt o then markV :: plainL l else plainL l) fun x => mk c (k x) := by simp only [mk, h]
theorem den_yfP {P : Program} {w : World} {a : Addr} : (plus P w).den (yfc a) = mk (yfc a) (Builtin.«proto.yield_from» ⟨[.ref a, .bool false, .none], []⟩) := by
  rw [plus_den]
  show mk _ (match entryFor table "proto.yield_from" with | some b => b ⟨[.ref a, .bool false, .none], []⟩ | none => unsupported ((withoutEnding? "proto.yield_from" "#data").getD "proto.yield_from")) = _
  rw [entry_yf]
theorem close_gen : typeLookup (.type "generator") "close" = pure (some (.builtin "generator.close")) := by rw [typeLookup_type, builtinLookup_eq_fast]; kernel_rfl
section
variable {G : GPar} {r : GFr} {g0 : Nat} {A : Around} {sw : Shared} {Hw : Hp} {own : List Addr} {gown now now' : List Nat} {ip : List (Addr × Obj)} {σ : L2.St} {H H' : Hp} {s s' : Shared} {a : Addr} {oa : Obj} {pv1 : List (Addr × Obj)} {gl1 : List (Nat × GenState)} {k1 lo1 : Nat}
/-- the generators that one makes here -/
def gIn (G : GPar) (r : GFr) (k1 lo1 : Nat) : GPar := ⟨G.P, G.w, G.K, G.mg, G.base, k1, r.env :: G.outer, lo1, G.Rw, G.Ry⟩
theorem GIn.more (h : GIn G r g0 A sw Hw own gown now ip σ H s) (hn : ∀ i ∈ now, i ∈ now') : GIn G r g0 A sw Hw own gown now' ip σ H s :=
  ⟨h.room, h.hown, h.hg, h.inv, h.ipo, ⟨h.gc.kept, fun i x e m => (h.gc.left i x e m).imp id (hn i), h.gc.size⟩, h.gsz, h.lsz⟩
theorem GIn.sub {ip' : List (Addr × Obj)} (h : GIn G r g0 A sw Hw own gown now ip σ H s) (hp : ∀ p ∈ ip', p ∈ ip) : GIn G r g0 A sw Hw own gown now ip' σ H s :=
  ⟨h.room, h.hown, h.hg, h.inv.pins_of fun p q => h.inv.pin p (List.mem_append_right _ (hp p q)), fun p q => h.ipo p (hp p q), h.gc, h.gsz, h.lsz⟩
theorem GIn.low (h : GIn G r g0 A sw Hw own gown now ip σ H s) (rok : r.Ok G) (hL : r.L < lo1) : ∀ b, lo1 ≤ b → (gX G r A sw Hw (pnOf sw Hw r.L own)).s_0.heap.objs.size ≤ b ∧ b ≠ (gX G r A sw Hw (pnOf sw Hw r.L own)).env.locals ∧
    ∀ x c, (gX G r A sw Hw (pnOf sw Hw r.L own)).env.cells.lookup x = some c → c ≠ b := fun b hb =>
  ⟨Nat.le_trans h.inv.ok.above (Nat.le_of_lt (Nat.lt_of_lt_of_le hL hb)), fun z => absurd (Nat.lt_of_lt_of_le hL hb) (by rw [show b = r.L from z]; exact Nat.lt_irrefl _), fun x c e => by
    rw [show (gX G r A sw Hw (pnOf sw Hw r.L own)).env.cells = [] from rok.cells] at e; cases e⟩
/-- behind a resume of the generator that it holds -/
theorem gin_eff (rok : r.Ok G) (hL : r.L < lo1) (h : GIn G r g0 A sw Hw own gown (gl1.map (·.1)) ((a, oa) :: (pv1 ++ ip)) σ H s) (ap : ∀ p ∈ pv1, lo1 ≤ p.1 ∧ ∀ q ∈ (a, oa) :: ip, q.1 ≠ p.1) (hgl : ∀ x ∈ gl1, x.1 ∈ gown ∨ sw.gens.size ≤ x.1)
    (F : Eff (gIn G r k1 lo1) (pv1.map (·.1)) (gl1.map (·.1)) now s H s' H') : GIn G r g0 A sw Hw own gown now ((a, oa) :: ip) σ H' s' := by
  have sub : ∀ p ∈ (a, oa) :: ip, p ∈ (a, oa) :: (pv1 ++ ip) := fun p hp => by
    rcases List.mem_cons.mp hp with e | hp
    · rw [e]; exact List.mem_cons_self
    · exact List.mem_cons_of_mem _ (List.mem_append_right _ hp)
  refine ⟨h.room, h.hown, h.hg, inv_eff (G := gIn G r k1 lo1) (h.sub sub).inv rfl rfl rfl (h.low rok hL) (fun b hb => ?_) F, fun p hp => h.ipo p (sub p hp), h.gc.trans F.gc (fun i hi => ?_) (fun i hi => hi), h.gsz, h.lsz⟩
  · obtain ⟨q, hq, rfl⟩ := List.mem_map.mp hb
    obtain ⟨h1, h2⟩ := ap q hq
    refine ⟨h1, fun p hp => ?_⟩
    rcases List.mem_append.mp hp with hp | hp
    · exact (h.ipo q (List.mem_cons_of_mem _ (List.mem_append_left _ hq))).2 p hp
    · exact h2 p hp
  · obtain ⟨x, hx, rfl⟩ := List.mem_map.mp hi
    exact hgl x hx
/-- what it holds for itself is pinned -/
theorem gin_prv (rok : r.Ok G) (hL : r.L < lo1) (h : GIn G r g0 A sw Hw own gown now ip σ H s) (hp : ∀ p ∈ pv1, s.heap.get? p.1 = some p.2 ∧ H p.1 = none ∧ lo1 ≤ p.1 ∧ isCell p.2 = false ∧ ∀ q ∈ pnOf sw Hw r.L own, q.1 ≠ p.1) (hfl : ∀ b ∈ frs G.outer, b < G.lo) :
    GIn G r g0 A sw Hw own gown now (pv1 ++ ip) σ H s := by
  refine ⟨h.room, h.hown, h.hg, h.inv.pins_of fun p q => ?_, fun p q => ?_, h.gc, h.gsz, h.lsz⟩
  · rcases List.mem_append.mp q with q | q
    · obtain ⟨h1, h2, h3, h4, _⟩ := hp p q
      have hl := Nat.lt_of_lt_of_le hL h3
      exact ⟨h1, h2, fun z => absurd hl (by rw [show p.1 = r.L from z]; exact Nat.lt_irrefl _), fun z => absurd (Nat.lt_of_lt_of_le (hfl _ z) (Nat.le_trans rok.lo (Nat.le_of_lt hl))) (Nat.lt_irrefl _), isCell_no h4⟩
    · exact h.inv.pin p (List.mem_append_right _ q)
  · rcases List.mem_append.mp q with q | q
    · obtain ⟨_, _, h3, _, h5⟩ := hp p q
      exact ⟨Nat.le_of_lt (Nat.lt_of_lt_of_le hL h3), h5⟩
    · exact h.ipo p q
/-- the held generator's object is written -/
theorem gin_obj (rok : r.Ok G) (hL : r.L < lo1) (ha : lo1 ≤ a) (h : GIn G r g0 A sw Hw own gown now ((a, oa) :: ip) σ H s) (hip : ∀ p ∈ ip, p.1 ≠ a) {h' : Heap} {o' : Obj} {tk : Nat} (e : h'.get? a = some o') (hc : isCell o' = false) (k : ∀ b u, b ≠ a → s.heap.get? b = some u → h'.get? b = some u) :
    GIn G r g0 A sw Hw own gown now ((a, o') :: ip) σ H { s with heap := h', toks := tk } := by
  obtain ⟨p1, p2, p3, p4, _⟩ := h.inv.pin (a, oa) (List.mem_append_right _ List.mem_cons_self)
  obtain ⟨l1, l2, l3⟩ := h.low rok hL a ha
  have I : Inv (gX G r A sw Hw (pnOf sw Hw r.L own)) ip σ H { s with heap := h', toks := tk } := (h.sub (ip' := ip) fun p hp => List.mem_cons_of_mem _ hp).inv.turned (it := a) k p2 l2 (.inr l1) l3 fun p hp => by
    rcases List.mem_append.mp hp with hp | hp
    · exact (h.ipo (a, oa) List.mem_cons_self).2 p hp
    · exact hip p hp
  refine ⟨h.room, h.hown, h.hg, I.pins_of fun p hp => ?_, fun p hp => ?_, ⟨h.gc.kept, h.gc.left, h.gc.size⟩, h.gsz, h.lsz⟩
  · rcases List.mem_cons.mp hp with z | hp
    · rw [z]; exact ⟨e, p2, p3, p4, isCell_no hc⟩
    · exact I.pin p (List.mem_append_right _ hp)
  · rcases List.mem_cons.mp hp with z | hp
    · rw [z]; exact h.ipo (a, oa) List.mem_cons_self
    · exact h.ipo p (List.mem_cons_of_mem _ hp)
/-- the turns -/
structure YIn (G : GPar) (r : GFr) (g0 : Nat) (k1 lo1 : Nat) (a : Addr) (g1 : Nat) (ip : List (Addr × Obj)) (H1 : Hp) (b1 : Beh) (A : Around) (sw : Shared) (Hw : Hp) (own : List Addr) (gown : List Nat) (σ : L2.St) (H : Hp) (s : Shared) (oa : Obj) (pv1 : List (Addr × Obj)) (gl1 : List (Nat × GenState)) (Hy : Hp) : Prop where
  gin : GIn G r g0 A sw Hw own gown (gl1.map (·.1)) ((a, oa) :: (pv1 ++ ip)) σ H s
  ob : GenObj oa g1 0
  ap : ∀ p ∈ pv1, lo1 ≤ p.1 ∧ ∀ q ∈ (a, oa) :: ip, q.1 ≠ p.1
  gl : ∀ x ∈ gl1, s.gens[x.1]? = some x.2 ∧ g0 < x.1 ∧ (x.1 ∈ gown ∨ sw.gens.size ≤ x.1)
  mem : g1 ∈ gl1.map (·.1)
  slp : Slp (gIn G r k1 lo1) g1 b1 pv1 gl1 Hy
  rw : G.Rw Hy H
  ry : G.Ry Hw H
  r1 : G.Rw H1 H
theorem yin_rdy (hk : k1 + 3 ≤ G.k) {g1 : Nat} {H1 Hy : Hp} {b1 : Beh} (Y : YIn G r g0 k1 lo1 a g1 ip H1 b1 A sw Hw own gown σ H s oa pv1 gl1 Hy) : Room (k1 + 2) (A.deeper r.env).in1 ∧ Rdy (gIn G r k1 lo1) pv1 gl1 (A.deeper r.env).in1.in1 s H := by
  have r0 : Room G.k (A.deeper r.env) := Y.gin.room.deeper r.env
  have r1 : Room (k1 + 2) (A.deeper r.env).in1 := (r0.mono hk).in1
  have e := Y.gin.inv.env0
  exact ⟨r1, r1.in1, ⟨e.frames, e.mod, e.bs, e.bsz, e.funs, e.frf, e.hok, e.bare⟩, fun p hp => by
    obtain ⟨h1, h2, _⟩ := Y.gin.inv.pin p (List.mem_append_right _ (List.mem_cons_of_mem _ (List.mem_append_left _ hp)))
    exact ⟨h1, h2⟩, fun x hx => (Y.gl x hx).1⟩
theorem yin_obj {g1 : Nat} {H1 Hy : Hp} {b1 : Beh} (Y : YIn G r g0 k1 lo1 a g1 ip H1 b1 A sw Hw own gown σ H s oa pv1 gl1 Hy) : s.heap.get? a = some oa := (Y.gin.inv.pin (a, oa) (List.mem_append_right _ List.mem_cons_self)).1
theorem fin_out {y : V → Hp → Prop} {b : Beh} {u : Value} {l : List Value} {k : Resume → Sem PySem.Fin} {c : Code} {p : Pos} {fs : List Frame} {v : V} {pv : List (Addr × Obj)} {gl : List (Nat × GenState)} (rv : RelV v u) (hy : y v H')
    (F : Eff G own gown (g0 :: gl.map (·.1)) sw Hw (s.setGen g0 (End.susp u false l k c p fs).genState) H') (Pr : Prv G own gown sw Hw (s.setGen g0 (End.susp u false l k c p fs).genState) H' pv ((g0, (End.susp u false l k c p fs).genState) :: gl))
    (sl : Slp G g0 b pv ((g0, (End.susp u false l k c p fs).genState) :: gl) H') : FinG G g0 (.out y b) sw Hw own gown (.susp u false l k c p fs) s :=
  ⟨u, l, k, c, p, fs, v, H', pv, (g0, (End.susp u false l k c p fs).genState) :: gl, rfl, rv, hy, F, Pr, List.mem_cons_self, sl⟩
theorem stp_yf {g1 : Nat} {H1 : Hp} {rest : Beh} {c : Code} {fs : List Frame} {p : Pos} {kk : Result → Sem PySem.Fin} {gb : Bool} {l0 kp : List Value} (ok : G.Ok) (rok : r.Ok G) (hk : k1 + 3 ≤ G.k) (hL : r.L < lo1) (ha : lo1 ≤ a) (hip : ∀ p ∈ ip, p.1 ≠ a)
    (hov : ∀ A : Around, A.over (yfc a) (.ret kk none gb l0 c p kp :: fs) = (A.deeper r.env).in1) (hsp : splitAtGen (.ret kk none gb l0 c p kp :: fs) = none) (hgd : List.any (.ret kk none gb l0 c p kp :: fs) Frame.guarded = false)
    (kend : ∀ A sw Hw own gown H s, GIn G r g0 A sw Hw own gown [] ip σ H s → G.Rw H1 H → G.Ry Hw H → Stp G.P G.w A c (kk (.ok (.ret .none))) fs s (FinG G g0 rest sw Hw own gown)) :
    ∀ (b1 : Beh), b1 ≠ .stop → ∀ A sw Hw own gown H s oa pv1 gl1 Hy, YIn G r g0 k1 lo1 a g1 ip H1 b1 A sw Hw own gown σ H s oa pv1 gl1 Hy →
      Stp G.P G.w A (yfc a) ((plus G.P G.w).den (yfc a)) (.ret kk none gb l0 c p kp :: fs) s (FinG G g0 (b1.app rest) sw Hw own gown) := by
  intro b1
  induction b1 with
  | stop => intro h; exact absurd rfl h
  | done =>
    intro _ A sw Hw own gown H s oa pv1 gl1 Hy Y
    rw [den_yfP]
    unfold Builtin.«proto.yield_from»
    try dsimp only
    refine stp_mk (wpAny_pure ?_)
    try dsimp only
    refine stp_mk (wpAny_attempt (wpAny_holding ?_))
    rw [if_neg Bool.false_ne_true, if_pos (show (Value.none == Value.none) = true from rfl), hov]
    refine wpAny_bind (wpAny_rule (wpAny_bind ?_))
    obtain ⟨rm, rd⟩ := yin_rdy hk Y
    refine special_genP (G := gIn G r k1 lo1) rm.hd rm.depth Y.gin.inv.nolimit (Y.ob.ob (yin_obj Y)) (Int.le_refl 0) Y.mem rd Y.slp Y.rw ⟨fun z => (by cases z), fun y b' z => (by cases z), fun _ s' H' F e h' tk hS hk' => ?_⟩
    obtain ⟨x, o, vs, rfl, hox, hcls, hdat, h5⟩ := hS
    try dsimp only
    refine stp_mk (wpAny_endsTurn hox hcls ?_)
    try dsimp only
    rw [if_pos rfl]
    first
      | refine stp_mk (wpAny_rule ?_)
      | (rw [if_neg Bool.false_ne_true]; refine stp_mk (wpAny_rule ?_))
      | (rw [if_neg Bool.false_ne_true]; refine stp_mk (wpAny_pure ?_); refine stp_mk (wpAny_rule ?_))
    refine stp_mk (wpAny_field hox hdat h5 ?_)
    have J := gin_eff rok hL Y.gin Y.ap (fun x hx => (Y.gl x hx).2.2) F
    have J' : GIn G r g0 A sw Hw own gown [] ip σ H' { s' with heap := h', toks := tk } := ⟨J.room, J.hown, J.hg, (J.sub (ip' := ip) fun p hp => List.mem_cons_of_mem _ hp).inv.kept hk', fun p hp => J.ipo p (List.mem_cons_of_mem _ hp), ⟨J.gc.kept, J.gc.left, J.gc.size⟩, J.gsz, J.lsz⟩
    exact stp_leaf (.ok (.ret .none)) (kend A sw Hw own gown H' _ J' (ok.wt _ _ _ Y.r1 (ok.yw _ _ F.ry)) (ok.yt _ _ _ Y.ry F.ry))
  | out y b1 ih =>
    intro _ A sw Hw own gown H s oa pv1 gl1 Hy Y
    rw [den_yfP]
    unfold Builtin.«proto.yield_from»
    try dsimp only
    refine stp_mk (wpAny_pure ?_)
    try dsimp only
    refine stp_mk (wpAny_attempt (wpAny_holding ?_))
    rw [if_neg Bool.false_ne_true, if_pos (show (Value.none == Value.none) = true from rfl), hov]
    refine wpAny_bind (wpAny_rule (wpAny_bind ?_))
    obtain ⟨rm, rd⟩ := yin_rdy hk Y
    refine special_genP (G := gIn G r k1 lo1) rm.hd rm.depth Y.gin.inv.nolimit (Y.ob.ob (yin_obj Y)) (Int.le_refl 0) Y.mem rd Y.slp Y.rw ⟨fun z => (by cases z), fun y' b' z u s' v H' pv' gl' rv hy F Pr hg sl => ?_, fun z => (by cases z)⟩
    cases z
    refine wpAny_pure ?_
    try dsimp only
    have J := gin_eff rok hL Y.gin Y.ap (fun x hx => (Y.gl x hx).2.2) F
    obtain ⟨nm, qn, hc, hd, hs⟩ := id Y.ob
    have eo : s'.heap.get? a = some oa := (J.inv.pin (a, oa) (List.mem_append_right _ List.mem_cons_self)).1
    refine stp_mk (wpAny_typeOf (T := "generator") ⟨oa, eo, hc⟩ ?_)
    try dsimp only
    first
      | (refine stp_mk (wpAny_of_eq close_gen ?_); refine stp_mk (wpAny_pure ?_))
      | refine stp_mk (wpAny_bind (wpAny_of_eq close_gen (wpAny_pure ?_)))
      | refine stp_mk (wpAny_of_eq close_gen ?_)
    try dsimp only
    refine stp_mk (sleptG eo Y.ob fun h2 o2 e2 g2 k2 => ?_)
    have sub : ∀ q ∈ (a, oa) :: ip, q ∈ (a, oa) :: (pv1 ++ ip) := fun q hq => by
      rcases List.mem_cons.mp hq with e | hq
      · rw [e]; exact List.mem_cons_self
      · exact List.mem_cons_of_mem _ (List.mem_append_right _ hq)
    have apart := prv_apart (G := gIn G r k1 lo1) (Y.gin.sub sub).inv (fun b hb q hq => by
      obtain ⟨p, hp, rfl⟩ := List.mem_map.mp hb
      rcases List.mem_append.mp hq with hq | hq
      · exact (Y.gin.ipo p (List.mem_cons_of_mem _ (List.mem_append_left _ hp))).2 q hq
      · exact (Y.ap p hp).2 q hq) Pr
    have ap2 : ∀ p ∈ pv', lo1 ≤ p.1 ∧ ∀ o, ∀ q ∈ (a, o) :: ip, q.1 ≠ p.1 := fun p hp => by
      obtain ⟨h1, h3⟩ := apart p.1 (List.mem_map.mpr ⟨p, hp, rfl⟩)
      refine ⟨h1, fun o q hq => ?_⟩
      rcases List.mem_cons.mp hq with e | hq
      · rw [e]; exact h3 (a, oa) (List.mem_append_right _ List.mem_cons_self)
      · exact h3 q (List.mem_append_right _ (List.mem_cons_of_mem _ hq))
    have glok : ∀ x ∈ gl', s'.gens[x.1]? = some x.2 ∧ asleep x.2 = true ∧ g0 < x.1 ∧ (x.1 ∈ gown ∨ sw.gens.size ≤ x.1) := fun x hx => by
      obtain ⟨h1, h3, h4⟩ := Pr.gl x hx
      rcases h4 with h4 | h4
      · obtain ⟨z, hz, e⟩ := List.mem_map.mp h4
        obtain ⟨_, q2, q3⟩ := Y.gl z hz
        rw [e] at q2 q3
        exact ⟨h1, h3, q2, q3⟩
      · have := Y.gin.gc.size
        exact ⟨h1, h3, Nat.lt_of_lt_of_le (Nat.lt_of_lt_of_le Y.gin.gsz this) h4, .inr (Nat.le_trans this h4)⟩
    have J2 : GIn G r g0 A sw Hw own gown (gl'.map (·.1)) ((a, o2) :: ip) σ H' { s' with heap := h2 } := gin_obj (tk := s'.toks) rok hL ha J hip e2 g2.cell k2
    have J3 : GIn G r g0 A sw Hw own gown (gl'.map (·.1)) ((a, o2) :: (pv' ++ ip)) σ H' { s' with heap := h2 } := (gin_prv rok hL (pv1 := pv') J2 (fun p hp => by
      obtain ⟨h1, h3, h4, h5, _⟩ := Pr.pv p hp
      exact ⟨k2 p.1 p.2 (Ne.symm ((ap2 p hp).2 o2 (a, o2) List.mem_cons_self)) h1, h3, h4, h5, fun q hq => (apart p.1 (List.mem_map.mpr ⟨p, hp, rfl⟩)).2 q (List.mem_append_left _ hq)⟩) ok.fl).sub fun p hp => by
        rcases List.mem_cons.mp hp with e | hp
        · rw [e]; exact List.mem_append_right _ List.mem_cons_self
        · rcases List.mem_append.mp hp with hp | hp
          · exact List.mem_append_left _ hp
          · exact List.mem_append_right _ (List.mem_cons_of_mem _ hp)
    obtain ⟨oL, hoL, hcL⟩ := J3.frame
    have hpin : ∀ p ∈ (a, o2) :: (pv' ++ ip), p.1 ≠ r.L ∧ r.L ≤ p.1 ∧ isCell p.2 = false := fun p hp => by
      obtain ⟨_, _, q3, _, q5⟩ := J3.inv.pin p (List.mem_append_right _ hp)
      exact ⟨q3, (J3.ipo p hp).1, isCell_of q5⟩
    show Stp _ _ A (yfc a) (mk (yfc a) (.yield u true [] _)) _ _ _
    rw [mk_yield (over_yfc a)]
    refine stp_alive ?_
    rw [show ({ s' with heap := h2 } : Shared).heap.get? a = some o2 from e2, g2.num]
    refine stp_yield hsp rfl hgd fun p => ?_
    show FinG G g0 (.out y (b1.app rest)) sw Hw own gown _ _
    refine fin_out (pv := (r.L, oL) :: ((a, o2) :: (pv' ++ ip))) (gl := gl') rv hy (J3.eff ok rok (ok.yt _ _ _ Y.ry F.ry) (by show (!(_ || List.any _ _)) = true; rw [hgd]; rfl) (J3.gc.set (fun i hi => List.mem_cons_of_mem _ hi) J3.hg fun _ => List.mem_cons_self)) ⟨(J3.prv (x := .suspended (fun _ => .unsupported "") [] (yfc a) p [] false) rok hoL hcL rfl).pv, fun x hx => ?_⟩ ?_
    · rcases List.mem_cons.mp hx with e | hx
      · rw [e]; exact ⟨setGen_at (Nat.lt_of_lt_of_le J3.gsz J3.gc.size), rfl, .inl J3.hg⟩
      · obtain ⟨q1, q2, q3, q4⟩ := glok x hx
        exact ⟨(gens_set (Nat.ne_of_gt q3)).trans q1, q2, q4⟩
    · by_cases hst : b1 = .stop
      · subst hst
        trivial
      refine slp_susp List.mem_cons_self fun A2 s2 H2 R hw => ?_
      have J4 := (gin_at (ip := (a, o2) :: (pv' ++ ip)) (σ := σ) ok rok R List.mem_cons_self List.mem_cons_self (fun p hp => List.mem_cons_of_mem _ hp) J3.loc hoL J3.inv.len hpin).more (now' := gl'.map (·.1)) fun i hi => by
        obtain ⟨h1, h3⟩ := List.mem_filter.mp hi
        rcases List.mem_cons.mp h1 with e | h1
        · rw [e] at h3; simp at h3
        · exact h1
      have e4 : (s2.setGen g0 .running).heap.get? a = some o2 := (J4.inv.pin (a, o2) (List.mem_append_right _ List.mem_cons_self)).1
      show Stp _ _ A2 (yfc a) (mk (yfc a) (Builtin.Generator.sleptOver (.ref a) false >>= fun _ => _)) _ _ _
      refine stp_mk (sleptG e4 g2 fun h5 o5 e5 g5 k5 => ?_)
      try dsimp only
      refine stp_mk (wpAny_pure ?_)
      refine stp_again (plainId_quiet plain_yf _) (ih hst A2 s2 H2 _ _ H2 _ o5 pv' gl' H' ⟨gin_obj (tk := (s2.setGen g0 .running).toks) rok hL ha J4 (fun p hp => ?_) e5 g5.cell k5, g5, fun p hp => ⟨(ap2 p hp).1, (ap2 p hp).2 o5⟩, fun x hx => ?_, hg, sl, hw, ok.yr _, ok.wt _ _ _ (ok.wt _ _ _ Y.r1 (ok.yw _ _ F.ry)) hw⟩)
      · rcases List.mem_append.mp hp with hp | hp
        · exact Ne.symm ((ap2 p hp).2 o2 (a, o2) List.mem_cons_self)
        · exact hip p hp
      · obtain ⟨_, _, q3, _⟩ := glok x hx
        exact ⟨(gens_set (Nat.ne_of_gt q3)).trans (R.gl x (List.mem_cons_of_mem _ hx)), q3, .inl (List.mem_cons_of_mem _ (List.mem_map.mpr ⟨x, hx, rfl⟩))⟩
end
end Ssp

/-! Expressions that make a generator, yield from: the rules. -/
namespace Ssp
open PySem PySem.Spec PyProof.Rows Ssg L2
open Sem (wp)
abbrev TGm := L2.St → Hp → (Beh → Hp → Prop) → Prop
/-- an expression that makes a generator -/
structure PGm (X : Cx) (k : Nat) (Rw Ry : Hp → Hp → Prop) (e : Expr) (tg : TGm) : Prop where
  run : ∀ (pins : List (Addr × Obj)) (s : Shared) (σ : L2.St) (H : Hp) (cont : Beh → Hp → Prop), Inv X pins σ H s → tg σ H cont →
    Wp X s (eval e X.env) (fun u s' => ∃ sc H1 b, Inv X pins σ H1 sc ∧ Calm s sc ∧ GMk X.prog X.w X.K X.mg X.base k X.stack Rw Ry sc H1 b u s' ∧ cont b H1) s
section
variable {X : Cx} {k : Nat} {Rw Ry : Hp → Hp → Prop} {f C : Addr} {fd : FuncData} {ps : List Str} {sp : List V → Hp → Beh → Prop} {dvs : List V} {ds : List Value} {x m : Str} {p pos apos : Pos} {o e : Expr} {es : List Expr} {te : TE} {ta : TA} {pl : Sem Bool}
theorem run_gfnP (F : GFnP X.prog X.w X.K X.mg X.base k f fd ps Rw Ry sp) (hr : Room (k + 1) X.A) (hb : Binds X.K fd ps ds) (hd : Vals dvs ds) {pins : List (Addr × Obj)} {σ : L2.St} {H : Hp} {s : Shared} {us : List Value} {vs : List V} {b : Beh} {cont : Beh → Hp → Prop}
    (I : Inv X pins σ H s) (r : Vals vs us) (h : sp (vs ++ dvs) H b) (hc : cont b H) :
    Wp X s (call (.ref f) us) (fun u s' => ∃ sc H1 b, Inv X pins σ H1 sc ∧ Calm s sc ∧ GMk X.prog X.w X.K X.mg X.base k X.stack Rw Ry sc H1 b u s' ∧ cont b H1) s := by
  have r2 := r.append hd
  have hl : (us ++ ds).length = ps.length := r2.length.symm.trans (F.len _ _ _ h)
  refine wpAny_call (codeAny_mono (F.run X.A X.stack s H ⟨us, []⟩ (us ++ ds) (vs ++ dvs) b hr I.env0 (hb s us I.kIn hl) r2 h) fun r s' q => ?_)
  match r, q with
  | .ok (.ret u), q =>
    refine ⟨⟨s, H, b, I, Calm.refl s, q, hc⟩, ?_⟩
    obtain ⟨a, g, oa, pv, gl, _, _, _, _, _, _, _, c, _⟩ := q
    exact c
  | .error e, q => exact q.elim
  | .ok .next, q => exact q.elim
  | .ok .brk, q => exact q.elim
  | .ok .cont, q => exact q.elim
def tMethM (C : Addr) (m : Str) (sp : List V → Hp → Beh → Prop) (dvs : List V) (te : TE) (t : TA) : TGm := fun σ H cont => te σ H fun x H1 => ∃ a dx fs, x = .ref a ∧ H1 a = some (.ins C dx fs) ∧ fs.lookup m = none ∧ t σ H1 fun vs H2 => ∃ b, sp (x :: (vs ++ dvs)) H2 b ∧ cont b H2
theorem pgm_meth0 (ho : PEp X o te) (c : Cls X.K C) (hm : Meth X.K C m f) (F : GFnP X.prog X.w X.K X.mg X.base k f fd ps Rw Ry sp) (hr : Room (k + 1) X.A) (hb : Binds X.K fd ps ds) (hd : Vals dvs ds)
    (ht : eval (.Call (.Attribute o m apos) [] [] pos) X.env = (do
      let ov ← eval o X.env
      standAt apos.atName
      let (f, first) ← holding [ov] (getMethod ov m pl)
      callWith pos f first (backTo pos (starEach [] X.env)) (backToKw pos (keywordEach [] X.env))) := by rfl) :
    PGm X k Rw Ry (.Call (.Attribute o m apos) [] [] pos) (tMethM C m sp dvs te tNil) := ⟨fun pins s σ H cont I q =>
  PySem.W.methodCall_KW (pl := pl) ((ho.run pins s σ H _ I q).then_ fun u s1 ⟨x, H1, I1, rx, a, dx, fs, ex, ea, l, b, q1, q2⟩ c1 => by
    subst ex
    cases (show u = Value.ref a from rx)
    refine ((getmethP (R := fun r s' => r = (.ref f, [.ref a]) ∧ Inv X pins σ H1 s') (fun _ _ _ z h => ⟨z.1, inv_gens z.2 (h z.2.bare)⟩) I1 ea c hm l ⟨rfl, inv_dead I1⟩).from_ c1).then_ fun r s2 ⟨er, I2⟩ c2 => ?_
    subst er
    exact PySem.W.callWith_K0 (first := [.ref a]) I2.kIn hm.kp (wpAny_mono (run_gfnP F hr hb hd I2 (us := [.ref a]) (vs := [.ref a]) (.cons rfl .nil) q1 q2) (fun u s3 ⟨⟨sc, H3, b3, I3, c3, g3, q3⟩, c4⟩ => ⟨⟨sc, H3, b3, I3, c2.trans c3, g3, q3⟩, c2.trans c4⟩) fun _ _ z => z.from_ c2)) ht⟩
def tCallM (sp : List V → Hp → Beh → Prop) (dvs : List V) (t : TA) : TGm := fun σ H cont => t σ H fun vs H1 => ∃ b, sp (vs ++ dvs) H1 b ∧ cont b H1
theorem pgm_call (F : GFnP X.prog X.w X.K X.mg X.base k f fd ps Rw Ry sp) (hr : Room (k + 1) X.A) (hg : Gl X x) (hm : X.mg x = some (.ref f)) (hk : PySem.W.keepIn X.K (.ref f) = true) (hb : Binds X.K fd ps ds) (hd : Vals dvs ds)
    (ha : PAp X (e :: es) ta) (hdb : (x == ("__debug__" : Str)) = false := by decide) (he : starEach (e :: es) X.env = (false, eval e X.env) :: starEach es X.env := by rfl) (hpl : (backTo pos (starEach es X.env)).any (·.1) = false := by rfl) :
    PGm X k Rw Ry (.Call (.Name x p) (e :: es) [] pos) (tCallM sp dvs ta) := ⟨fun pins s σ H cont I q =>
  wpAny_Call_Name_kw (ld_globP I hg hm (PySem.W.callWith_K (h₀ := X.base) I.ok.mod.kin hk ((ha.run pos pins s σ H _ I q).then_ fun us s1 ⟨vs, H1, I1, r, b, q1, q2⟩ c => ⟨I1.kIn, wpAny_mono (run_gfnP F hr hb hd I1 r q1 q2) (fun u s3 ⟨⟨sc, H3, b3, I3, c3, g3, q3⟩, c4⟩ => ⟨⟨sc, H3, b3, I3, c.trans c3, g3, q3⟩, c.trans c4⟩) fun _ _ z => z.from_ c⟩) he hpl) hdb)⟩
/-- iter(g) is g -/
theorem iter_genP {P : Program} {w : World} {A : Around} {E : Value → Shared → Prop} {s : Shared} {a : Addr} {oa : Obj} {Q : Value → Shared → Prop} (e : s.heap.get? a = some oa) (hc : oa.cls = .type "generator") (h : Q (.ref a) s) : wpAny (plus P w) A (pyIter (.ref a)) Q E s := by
  have hT : s.TypeIs (.ref a) "generator" := ⟨oa, e, hc⟩
  refine wpAny_pyIter_slot hT slot_gen_iter (call_entryP slot_gen_iter hT entry_gen_iter ?_ (args_gen_iter _))
  show wpAny _ _ (ret (.ref a)) _ _ s
  exact wpAny_pure ⟨_, rfl, "generator", _, hT, slot_gen_next.lookup, h⟩
end
section
variable {G : GPar} {r : GFr} {g0 : Nat} {k1 : Nat} {e : Expr} {tg : TGm} {yp pos : Pos}
/-- what has just been made is pinned -/
theorem gin_made {A : Around} {sw : Shared} {Hw : Hp} {own : List Addr} {gown now : List Nat} {ip new : List (Addr × Obj)} {σ : L2.St} {H : Hp} {sc s : Shared} (rok : r.Ok G) (h : GIn G r g0 A sw Hw own gown now ip σ H sc) (k : ∀ b o, sc.heap.get? b = some o → s.heap.get? b = some o) (os : s.os = sc.os)
    (hb : AllBare s.gens) (c : Calm sc s) (hn : ∀ p ∈ new, sc.heap.objs.size ≤ p.1 ∧ s.heap.get? p.1 = some p.2 ∧ isCell p.2 = false) : GIn G r g0 A sw Hw own gown now (new ++ ip) σ H s := by
  have I : Inv (gX G r A sw Hw (pnOf sw Hw r.L own)) ip σ H s := h.inv.call' (ch := []) os (Un.kept k) (h.inv.hok.kept k) hb fun b hb => by cases hb
  refine ⟨h.room, h.hown, h.hg, I.pins_of fun p hp => ?_, fun p hp => ?_, h.gc.calm c, h.gsz, h.lsz⟩
  · rcases List.mem_append.mp hp with hp | hp
    · obtain ⟨h1, h2, h3⟩ := hn p hp
      exact ⟨h2, h.inv.hok.fresh h1, Nat.ne_of_gt (Nat.lt_of_lt_of_le h.inv.lt h1), h.inv.nofs h1, isCell_no h3⟩
    · exact I.pin p (List.mem_append_right _ hp)
  · rcases List.mem_append.mp hp with hp | hp
    · obtain ⟨h1, _, _⟩ := hn p hp
      refine ⟨Nat.le_of_lt (Nat.lt_of_lt_of_le h.inv.lt h1), fun q hq => Nat.ne_of_lt (Nat.lt_of_lt_of_le (Heap.lt_size (h.inv.pin q (List.mem_append_left _ hq)).1) h1)⟩
    · exact h.ipo p hp
/-- b: what is to come here is what the other hands out, then rest -/
def tYF (G : GPar) (tg : TGm) : TGp := fun D b σ H Hw => tg σ H fun b1 H1 => b1 ≠ .stop ∧ G.Ry Hw H1 ∧ ∃ rest, b = b1.app rest ∧ ∀ H2 Hw2, G.Rw H1 H2 → G.Ry Hw2 H2 → D.nx rest σ H2 Hw2
theorem gs_yf (ok : G.Ok) (rok : r.Ok G) (hk : k1 + 3 ≤ G.k) (he : AllX G r fun X => PGm X k1 G.Rw G.Ry e tg) (hi : interactive r.env = false) : GSp G r g0 (.Expr (.YieldFrom e yp) pos) (tYF G tg) := ⟨fun ip c fs K J gd lv D cp k A sw Hw own gown σ H s b I ht => by
  rw [exec_Expr r.env _ pos hi rfl]
  show Stp _ _ A c (.at pos fun _ => ((eval e r.env >>= fun v => (standAt yp >>= fun _ => yieldFrom r.env v)) >>= fun x => dropValue (.YieldFrom e yp) pos x).wrap K J gd lv) fs s _
  refine stp_at (stp_bw2 ?_)
  rw [cp.over]
  refine wpAny_mono ((he A sw Hw _ I.room).run _ s σ H _ I.inv ht) (fun u s1 ⟨⟨sc, H1, b1, I1, c1, g1, q⟩, ca⟩ => ?_) fun e s' q => (xp_no q).elim
  obtain ⟨hst, ry, rest, rfl, q⟩ := q
  obtain ⟨a, n, oa, pv, gl, rfl, ha, hoa, ⟨nm, qn, hc, hd, hs⟩, hkp, os, hb, cc, hg, hpv, hgl, S⟩ := g1
  have Jc : GIn G r g0 A sw Hw own gown [] ip σ H1 sc := I.calm I1 c1
  have hob : GenObj oa n 0 := ⟨nm, qn, hc, hd, by unfold slotN; rw [hs]; rfl⟩
  have J1 := (gin_made rok (new := (a, oa) :: pv) Jc hkp os hb cc fun p hp => by
    rcases List.mem_cons.mp hp with e | hp
    · rw [e]; exact ⟨ha, hoa, hob.cell⟩
    · obtain ⟨h1, _, h3, h4⟩ := hpv p hp
      exact ⟨h1, h3, h4⟩).more (now' := gl.map (·.1)) fun i hi => by cases hi
  have hL : r.L < sc.heap.objs.size := Jc.inv.lt
  have hip : ∀ p ∈ ip, p.1 ≠ a := fun p hp => Nat.ne_of_lt (Nat.lt_of_lt_of_le (Heap.lt_size (Jc.inv.pin p (List.mem_append_right _ hp)).1) ha)
  refine stp_at ?_
  show Stp _ _ A c ((yieldFrom r.env (.ref a)).wrap (fun b => (dropValue (.YieldFrom e yp) pos b).wrap K J gd lv) J gd lv) fs s1 _
  unfold yieldFrom
  refine stp_bw (wpAny_typeOf (T := "generator") ⟨oa, hoa, hc⟩ ?_)
  rw [if_neg (by decide)]
  refine stp_bw (wpAny_holding (iter_genP hoa hc ?_))
  refine stp_call fun p => ?_
  refine stp_yf (H1 := H1) (k1 := k1) (lo1 := sc.heap.objs.size) ok rok hk hL ha hip (fun A' => by rw [over_in1 (plainId_weight plain_yf _) (plainId_units plain_yf _), cp.over]) (by show (splitAtGen fs).map _ = none; rw [cp.split]; rfl) (by show (gd false || fs.any Frame.guarded) = false; rw [cp.gd, cp.guard]; rfl)
    (σ := σ) (fun A2 sw2 Hw2 own2 gown2 H2 s2 I2 w2 y2 => k A2 sw2 Hw2 own2 gown2 σ H2 s2 rest .next I2 (q H2 Hw2 w2 y2)) b1 hst A sw Hw own gown H1 s1 oa pv gl H1 ⟨J1, hob, fun p hp => ⟨(hpv p hp).1, fun q hq => ?_⟩, fun x hx => ⟨(hgl x hx).2, ?_, .inr ?_⟩, hg, S, ok.wr _, ry, ok.wr _⟩
  · rcases List.mem_cons.mp hq with e | hq
    · rw [e]; exact Ne.symm (hpv p hp).2.1
    · exact Nat.ne_of_lt (Nat.lt_of_lt_of_le (Heap.lt_size (Jc.inv.pin q (List.mem_append_right _ hq)).1) (hpv p hp).1)
  · exact Nat.lt_of_lt_of_le (Nat.lt_of_lt_of_le Jc.gsz Jc.gc.size) (hgl x hx).1
  · exact Nat.le_trans Jc.gc.size (hgl x hx).1⟩
end
end Ssp

/-! for loops on the second machine: the pieces, a loop in a generator's body. -/
namespace Ssp
open PySem PySem.Spec PyProof.Rows Ssg L2
open Sem (wp)
section
variable {tg iter : Expr} {body : List Stmt} {env : Env} {pos : Pos}
/-- a for's iterator -/
def forIter (iter : Expr) (env : Env) : Sem Value := eval iter env >>= fun v => foldedSetIterable iter env v >>= fun x => standAt iter.pos >>= fun _ => holding [x] (pyIter x)
theorem exec_ForI (orelse : List Stmt) : exec (.For tg iter body orelse pos) env = standAt pos >>= fun _ => forIter iter env >>= fun it => runOwn (.forLoop tg it body orelse env) env := by
  rw [exec_For]
  simp only [forIter, bind_assoc]
/-- a for's next item, ahead of its store -/
def forNext (tg : Expr) (it : Value) : Sem (Option Value) := (pyNext it).onRaise (fun _ => standAt { tg.pos with line := 0 }) >>= fun r => match r with
  | none => pure none
  | some v => letOwnedTupleGo tg it v >>= fun _ => pure (some v)
/-- a for's turn behind it -/
def forBody (tg : Expr) (it : Value) (body : List Stmt) (env : Env) : Option Value → Sem PySem.Fin
  | none => again (.block [] env)
  | some v => assign tg env v >>= fun _ => execs body env >>= fun f => match f with
    | .next | .cont => again (.forLoop tg it body [] env)
    | .brk => pure (.done .next)
    | .ret v => pure (.done (.ret v))
theorem forTurn_eq (it : Value) : forTurn tg it body [] env = standAt tg.pos >>= fun _ => forNext tg it >>= forBody tg it body env := by
  unfold forTurn forNext
  simp only [bind_assoc]
  congr 1
  funext _
  congr 1
  funext r
  cases r with
  | none => rfl
  | some v =>
    simp only [bind_assoc, pure_bind]
    rfl
end
section
variable {X : Cx} {tg iter : Expr} {wi : TI} {pins : List (Addr × Obj)} {σ : L2.St} {H : Hp} {s : Shared}
theorem for_iterP (hi : PI X tg iter wi) (hs : ∀ x, foldedSetIterable iter X.env x = pure x) {R : It → Hp → Prop} (I : Inv X pins σ H s) (h : wi σ H R) : Wp X s (forIter iter X.env) (PIE X pins σ tg R) s :=
  Ssp.up (fun _ _ _ ⟨it, fp, tn, J, H', e, I, T, t, f, r⟩ hg => ⟨it, fp, tn, J, H', e, inv_gens I (hg I.bare), T, t, f, r⟩)
    (wpAny_bind (wpAny_mono (hi.run pins _ σ H R (inv_dead I) h) (fun v s1 h1 => wpAny_bind (wpAny_of_eq (hs v) (wpAny_bind (wpAny_standAt (wpAny_holding h1))))) fun _ _ z => z))
/-- an iterator's item -/
def NextP (X : Cx) (pins : List (Addr × Obj)) (σ : L2.St) (J : It) (fp : List Addr) (tn : Nat → Heap → Prop) (i : Nat) (H : Hp) (r : Option Value) (s' : Shared) : Prop := match r with
  | none => False
  | some u => ∃ x H', Inv X pins σ H' s' ∧ RelV x u ∧ J.yld i H x H' ∧ tn (i + 1) s'.heap ∧ ∀ b ∈ fp, H' b = none
theorem for_nextP {it : Addr} {fp : List Addr} {tn : Nat → Heap → Prop} {J : It} {i : Nat} (T : Turn X.prog X.w X.K tg J fp it tn) (hc : X.calm = true) (I : Inv X pins σ H s) (hf : ∀ b ∈ fp, FpOk X pins H b) (ht : tn i s.heap) (go : J.go i H) :
    Wp X s (forNext tg (.ref it)) (NextP X pins σ J fp tn i H) s :=
  Ssp.up (fun r s' G z hg => by
      cases r with
      | none => exact z
      | some u => obtain ⟨x, H', I, a, b, c, d⟩ := z; exact ⟨x, H', inv_gens I (hg I.bare), a, b, c, d⟩)
    (wpAny_bind (wpAny_onRaise (wpAny_mono (T.item X rfl rfl rfl hc i pins _ σ H (fun _ _ => False) (inv_dead I) hf ht go) (fun r s1 ⟨u, hr, h1⟩ => by
      subst hr
      exact wpAny_bind (wpAny_mono h1 (fun _ s2 h2 => wpAny_pure h2) fun _ _ z => z.elim)) fun _ _ z => z.elim)))
theorem for_doneP {it : Addr} {fp : List Addr} {tn : Nat → Heap → Prop} {J : It} {i : Nat} (T : Turn X.prog X.w X.K tg J fp it tn) (hc : X.calm = true) (I : Inv X pins σ H s) (hf : ∀ b ∈ fp, FpOk X pins H b) (ht : tn i s.heap) (go : J.stop i H) :
    Wp X s (forNext tg (.ref it)) (fun r s' => r = none ∧ Inv X pins σ H s') s :=
  Ssp.up (fun r s' G z hg => ⟨z.1, inv_gens z.2 (hg z.2.bare)⟩)
    (wpAny_bind (wpAny_onRaise (wpAny_mono (T.done X rfl rfl rfl hc i pins _ σ H (fun _ _ => False) (inv_dead I) hf ht go) (fun r s1 ⟨hr, h1⟩ => by
      subst hr
      exact wpAny_pure ⟨rfl, h1⟩) fun _ _ z => z.elim)))
structure PGp (X : Cx) (target : Expr) (t : TG) : Prop where
  run : ∀ (pins : List (Addr × Obj)) (s : Shared) (σ : L2.St) (H : Hp) (v : V) (u : Value) (Q : L2.St → Hp → Prop), Inv X pins σ H s → RelV v u → t v σ H Q → Wp X s (assign target X.env u) (fun _ s' => ∃ σ' H', Inv X pins σ' H' s' ∧ Q σ' H') s
theorem PGp.up {t : TG} (h : PG X tg t) : PGp X tg t := ⟨fun pins s σ H v u Q I r q => Ssp.up (fun _ _ _ ⟨σ', H', I, q⟩ hg => ⟨σ', H', inv_gens I (hg I.bare), q⟩) (h.run pins _ σ H v u Q (inv_dead I) r q)⟩
end
section
variable {G : GPar} {r : GFr} {g0 : Nat} {tg iter : Expr} {body : List Stmt} {pos : Pos}
def tForG (wi : TI) (gt : TG) (tb : TGp) : TGp := fun D b σ H Hw => wi σ H fun J H1 => ∃ W : Nat → Nat → Beh → L2.St → Hp → Hp → Prop, (∃ m, W 0 m b σ H1 Hw) ∧ ∀ i m b σ H Hw, W i m b σ H Hw →
  (J.stop i H ∧ D.nx b σ H Hw) ∨ (J.go i H ∧ ∃ N : Beh → L2.St → Hp → Hp → Prop, (∀ b' σ' H' Hw', N b' σ' H' Hw' → ∃ m', m' < m ∧ W (i + 1) m' b' σ' H' Hw') ∧ ∀ x H', J.yld i H x H' → gt x σ H' fun σ2 H2 => tb { D with nx := N, ct := N, bk := D.nx } b σ2 H2 Hw)
theorem gs_forg {wi : TI} {gt : TG} {tb : TGp} (rok : r.Ok G) (hi : AllX G r fun X => PI X tg iter wi) (hg : AllX G r fun X => PG X tg gt) (hb : GSsp G r g0 body tb) (hs : ∀ x, foldedSetIterable iter r.env x = pure x) : GSp G r g0 (.For tg iter body [] pos) (tForG wi gt tb) := ⟨fun ip c fs K J gd lv D cp k A sw Hw own gown σ H s b I ht => by
  rw [exec_ForI]
  refine stp_at ?_
  show Stp _ _ A c ((forIter iter r.env >>= fun it => runOwn (.forLoop tg it body [] r.env) r.env).wrap K J gd lv) fs s _
  refine stp_bw ?_
  rw [cp.over]
  refine wpAny_mono (for_iterP (hi A sw Hw _ I.room) hs I.inv ht) (fun u s2 ⟨⟨it, fp, tn, Jt, H2, e, I2, T, st2, f2, W, ⟨m0, w0⟩, turn⟩, ca⟩ => ?_) fun e s' q => (xp_no q).elim
  subst e
  refine stp_call fun p => ?_
  have lcp : ∀ (fs' : List Frame) (kk : Result → Sem PySem.Fin), fs' = .ret kk none (gd false) (lv []) c p [] :: fs → CP r (.forLoop tg (.ref it) body [] r.env) fs' id := fun fs' kk e => by
    subst e
    exact ⟨fun A => (GenW.over_loop rfl rfl).trans (cp.over A), by show (splitAtGen fs).map _ = none; rw [cp.split]; rfl, by show (gd false || fs.any Frame.guarded) = false; rw [cp.gd, cp.guard]; rfl, rfl⟩
  have stat : ∀ b ∈ fp, b ∉ ip.map (·.1) := fun b hb z => by
    obtain ⟨q, hq, e⟩ := List.mem_map.mp z
    exact (f2 b hb).2.2.2.2.2 q (List.mem_append_right _ hq) e
  have loop : ∀ (m i : Nat) (b : Beh) A sw Hw own gown σ H s, GIn G r g0 A sw Hw own gown [] ip σ H s → tn i s.heap → (∀ b ∈ fp, FpOk (gX G r A sw Hw (pnOf sw Hw r.L own)) ip H b) → W i m b σ H Hw →
      Stp G.P G.w A (.forLoop tg (.ref it) body [] r.env) ((plus G.P G.w).den (.forLoop tg (.ref it) body [] r.env)) (.ret (fun r_1 => ((match r_1 with | .ok f => (.pure f : Sem Flow) | .error e => .raise e).onRaise (cameBack r.env)).wrap K J gd lv) none (gd false) (lv []) c p [] :: fs) s (FinG G g0 b sw Hw own gown) := by
    intro m
    induction m using Nat.strongRecOn with
    | ind m ih =>
      intro i b A sw Hw own gown σ H s I3 st3 fr3 w3
      have lc := lcp _ (fun r_1 => ((match r_1 with | .ok f => (.pure f : Sem Flow) | .error e => .raise e).onRaise (cameBack r.env)).wrap K J gd lv) rfl
      rw [plus_den, mk_id rfl]
      show Stp _ _ A _ ((forTurn tg (.ref it) body [] r.env).onRaise (fun x => do noteFrame x r.env; theTreesLotGoes x)) _ s _
      rw [forTurn_eq, Sem.onRaise_eq_wrap]
      refine stp_bw (wpAny_standAt ?_)
      refine stp_bw ?_
      rw [lc.over]
      rcases turn i m b σ H Hw w3 with ⟨stop, qn⟩ | ⟨go, N, hN, step⟩
      · refine wpAny_mono (for_doneP (X := gX G r A sw Hw (pnOf sw Hw r.L own)) T rfl I3.inv fr3 st3 stop) (fun r' s4 ⟨⟨hr, I4⟩, c4⟩ => ?_) fun e s' q => (xp_no q).elim
        subst hr
        refine stp_again rfl ?_
        rw [plus_den, mk_id rfl]
        exact stp_leaf (.ok .next) (k A sw Hw own gown σ H s4 b .next (I3.calm I4 c4) qn)
      · refine wpAny_mono (for_nextP (X := gX G r A sw Hw (pnOf sw Hw r.L own)) T rfl I3.inv fr3 st3 go) (fun r' s5 ⟨hn, c5⟩ => ?_) fun e s' q => (xp_no q).elim
        cases r' with
        | none => exact hn.elim
        | some u =>
          obtain ⟨x, H5, I5, r5, y5, st5, fr5⟩ := hn
          have I5' := I5.pinned (fp := fp) (fun b hb => ⟨fr5 b hb, (fr3 b hb).2⟩) (T.obj _ _ st5)
          have J5 : GIn G r g0 A sw Hw own gown [] (ip ++ pinsAt fp s5.heap) σ H5 s5 := ⟨I3.room, I3.hown, I3.hg, I5', fun q hq => by
            rcases List.mem_append.mp hq with hq | hq
            · exact I3.ipo q hq
            · obtain ⟨hb, _⟩ := of_pinsAt hq
              obtain ⟨_, _, _, z4, _, z6⟩ := fr3 _ hb
              refine ⟨?_, fun q' hq' => z6 q' (List.mem_append_left _ hq')⟩
              rcases z4 with z4 | z4
              · cases z4
              · exact Nat.le_trans (Nat.le_of_eq (cut_size (Nat.le_of_lt I3.lsz)).symm) z4, I3.gc.calm c5, I3.gsz, I3.lsz⟩
          refine stp_bw ?_
          rw [lc.over]
          refine wpAny_mono ((PGp.up (hg A sw Hw _ I3.room)).run _ s5 σ H5 x u _ J5.inv r5 (step x H5 y5)) (fun _ s6 ⟨⟨σ6, H6, I6, q6⟩, c6⟩ => ?_) fun e s' q => (xp_no q).elim
          rw [Sem.bind_eq_wrap', Sem.wrap_wrap]
          refine hb.run (ip ++ pinsAt fp s5.heap) _ _ _ _ _ _ { D with nx := N, ct := N, bk := D.nx } ⟨lc.over, lc.split, lc.guard, rfl⟩ (fun A2 sw2 Hw2 own2 gown2 σ2 H2 s2 b2 f I2 q2 => ?_) A sw Hw own gown σ6 H6 s6 b (J5.calm I6 c6) q6
          have again : N b2 σ2 H2 Hw2 → Stp G.P G.w A2 (.forLoop tg (.ref it) body [] r.env) (.pure (.again (.forLoop tg (.ref it) body [] r.env))) (.ret (fun r_1 => ((match r_1 with | .ok f => (.pure f : Sem Flow) | .error e => .raise e).onRaise (cameBack r.env)).wrap K J gd lv) none (gd false) (lv []) c p [] :: fs) s2 (FinG G g0 b2 sw2 Hw2 own2 gown2) := fun n2 => by
            obtain ⟨m', hm, w7⟩ := hN b2 σ2 H2 Hw2 n2
            refine stp_again rfl (ih m' hm (i + 1) b2 A2 sw2 Hw2 own2 gown2 σ2 H2 s2 (I2.sub fun q hq => List.mem_append_left _ hq) (T.keep _ _ _ st5 fun b hb o e => (I2.inv.pin (b, o) (List.mem_append_right _ (List.mem_append_right _ (mem_pinsAt hb e)))).1) (fun b hb => ?_) w7)
            obtain ⟨o, e, d⟩ := T.obj _ _ st5 b hb
            have hm2 : (b, o) ∈ ip ++ pinsAt fp s5.heap := List.mem_append_right _ (mem_pinsAt hb e)
            obtain ⟨_, z2, z3, z4, _⟩ := I2.inv.pin (b, o) (List.mem_append_right _ hm2)
            refine ⟨z2, z3, z4, .inr (Nat.le_trans I2.inv.ok.above (I2.ipo _ hm2).1), fun y cc e' => ?_, fun q hq => ?_⟩
            · rw [show (gX G r A2 sw2 Hw2 (pnOf sw2 Hw2 r.L own2)).env.cells = [] from rok.cells] at e'; cases e'
            · rcases List.mem_append.mp hq with hq | hq
              · exact (I2.ipo _ hm2).2 q hq
              · exact fun z => stat b hb (List.mem_map.mpr ⟨q, hq, z⟩)
          cases f with
          | next => exact again q2
          | cont => exact again q2
          | brk => exact stp_leaf (.ok .next) (k A2 sw2 Hw2 own2 gown2 σ2 H2 s2 b2 .next (I2.sub fun q hq => List.mem_append_left _ hq) q2)
          | ret v => exact stp_leaf (.ok (.ret v)) (k A2 sw2 Hw2 own2 gown2 σ2 H2 s2 b2 (.ret v) (I2.sub fun q hq => List.mem_append_left _ hq) q2)
  exact loop m0 0 b A sw Hw own gown σ H2 s2 (I.calm I2 ca) st2 f2 w0⟩
end
end Ssp

/-! Who holds a generator, on the second machine. -/
namespace Ssp
open PySem PySem.Spec PyProof.Rows Ssg L2
open Sem (wp)
def Beh.len : Beh → Nat
  | .out _ b => b.len + 1
  | _ => 0
def cG (X : Cx) (k lo : Nat) (Rw Ry : Hp → Hp → Prop) : GPar := ⟨X.prog, X.w, X.K, X.mg, X.base, k, X.stack, lo, Rw, Ry⟩
/-- it holds the generator at a; b is to come -/
structure Con (X : Cx) (k lo : Nat) (Rw Ry : Hp → Hp → Prop) (s0 : Shared) (a : Addr) (oa : Obj) (g : Nat) (pins : List (Addr × Obj)) (σ : L2.St) (b : Beh) (pv : List (Addr × Obj)) (gl : List (Nat × GenState)) (Hy H : Hp) (s : Shared) : Prop where
  inv : Inv X ((a, oa) :: (pv ++ pins)) σ H s
  ap : ∀ p ∈ pv, lo ≤ p.1 ∧ ∀ q ∈ X.pn ++ ((a, oa) :: pins), q.1 ≠ p.1
  gls : ∀ x ∈ gl, s.gens[x.1]? = some x.2 ∧ s0.gens.size ≤ x.1
  mem : g ∈ gl.map (·.1)
  gc : Gc [] s0 s (gl.map (·.1))
  slp : Slp (cG X k lo Rw Ry) g b pv gl Hy
  rw : Rw Hy H
/-- what is young is not the frame's -/
structure ConLo (X : Cx) (lo : Nat) : Prop where
  s0 : X.s_0.heap.objs.size ≤ lo
  cl : ∀ x c, X.env.cells.lookup x = some c → c < lo
  fl : ∀ b ∈ frs X.stack, b < lo
section
variable {X : Cx} {k lo : Nat} {Rw Ry : Hp → Hp → Prop} {s0 : Shared} {a : Addr} {oa : Obj} {g : Nat} {pins : List (Addr × Obj)} {σ : L2.St} {b : Beh} {pv : List (Addr × Obj)} {gl : List (Nat × GenState)} {Hy H H' : Hp} {s s' : Shared}
theorem Con.sub {pins' : List (Addr × Obj)} (C : Con X k lo Rw Ry s0 a oa g pins σ b pv gl Hy H s) (h : ∀ p ∈ pins', p ∈ pins) : Con X k lo Rw Ry s0 a oa g pins' σ b pv gl Hy H s :=
  ⟨C.inv.pins_of fun p hp => C.inv.pin p (List.mem_append_right _ (by
    rcases List.mem_cons.mp hp with e | hp
    · rw [e]; exact List.mem_cons_self
    · rcases List.mem_append.mp hp with hp | hp
      · exact List.mem_cons_of_mem _ (List.mem_append_left _ hp)
      · exact List.mem_cons_of_mem _ (List.mem_append_right _ (h p hp)))), fun p hp => ⟨(C.ap p hp).1, fun q hq => (C.ap p hp).2 q (by
      rcases List.mem_append.mp hq with hq | hq
      · exact List.mem_append_left _ hq
      · rcases List.mem_cons.mp hq with e | hq
        · rw [e]; exact List.mem_append_right _ List.mem_cons_self
        · exact List.mem_append_right _ (List.mem_cons_of_mem _ (h q hq)))⟩, C.gls, C.mem, C.gc, C.slp, C.rw⟩
/-- the holder has gone on; the generator sleeps -/
theorem Con.step {σ' : L2.St} (C : Con X k lo Rw Ry s0 a oa g pins σ b pv gl Hy H s) (hs : ∀ x ∈ gl, asleep x.2 = true) (I : Inv X ((a, oa) :: (pv ++ pins)) σ' H' s') (c : Calm s s') (hr : Rw Hy H') : Con X k lo Rw Ry s0 a oa g pins σ' b pv gl Hy H' s' :=
  ⟨I, C.ap, fun x hx => ⟨c.kept x.1 x.2 (C.gls x hx).1 (hs x hx), (C.gls x hx).2⟩, C.mem, C.gc.calm c, C.slp, hr⟩
theorem Con.obj (C : Con X k lo Rw Ry s0 a oa g pins σ b pv gl Hy H s) : s.heap.get? a = some oa := (C.inv.pin (a, oa) (List.mem_append_right _ List.mem_cons_self)).1
/-- behind a resume -/
theorem con_eff {now : List Nat} (cl : ConLo X lo) (C : Con X k lo Rw Ry s0 a oa g pins σ b pv gl Hy H s) (F : Eff (cG X k lo Rw Ry) (pv.map (·.1)) (gl.map (·.1)) now s H s' H') : Inv X ((a, oa) :: pins) σ H' s' ∧ Gc [] s0 s' now := by
  have sub : ∀ p ∈ (a, oa) :: pins, p ∈ (a, oa) :: (pv ++ pins) := fun p hp => by
    rcases List.mem_cons.mp hp with e | hp
    · rw [e]; exact List.mem_cons_self
    · exact List.mem_cons_of_mem _ (List.mem_append_right _ hp)
  have I : Inv X ((a, oa) :: pins) σ H s := C.inv.pins_of fun p hp => C.inv.pin p (List.mem_append_right _ (sub p hp))
  refine ⟨I.call' F.os F.un F.hok F.bare fun b hb => ?_, C.gc.trans F.gc (fun i hi => ?_) fun i hi => hi⟩
  · rcases of_exOf hb with hb | ⟨hb, o, e, hc⟩
    · obtain ⟨q, hq, rfl⟩ := List.mem_map.mp hb
      obtain ⟨h1, h2⟩ := C.ap q hq
      obtain ⟨_, _, h5, _⟩ := C.inv.pin q (List.mem_append_right _ (List.mem_cons_of_mem _ (List.mem_append_left _ hq)))
      exact ⟨.inr (Nat.le_trans cl.s0 h1), h5, fun x c e z => absurd (Nat.lt_of_lt_of_le (cl.cl x c e) h1) (by rw [z]; exact Nat.lt_irrefl _), h2⟩
    · refine ⟨.inr (Nat.le_trans cl.s0 hb), fun z => ?_, fun x c e' z => absurd (Nat.lt_of_lt_of_le (cl.cl x c e') hb) (by rw [z]; exact Nat.lt_irrefl _), fun p hp z => ?_⟩
      · obtain ⟨m, ⟨o', es, ep, ho, hd, _⟩, _⟩ := I.loc
        rw [← z, e] at ho
        cases ho
        unfold isCell at hc
        rw [hd] at hc
        cases hc
      · obtain ⟨e1, _, _, _, e5⟩ := I.pin p hp
        rw [z, e] at e1
        cases e1
        exact absurd (isCell_of e5) (by rw [hc]; exact Bool.noConfusion)
  · obtain ⟨x, hx, rfl⟩ := List.mem_map.mp hi
    exact .inr (C.gls x hx).2
/-- the next item, or the end -/
theorem con_next {A : Around} {E : Value → Shared → Prop} {Q : Option Value → Shared → Prop} (cl : ConLo X lo) (C : Con X k lo Rw Ry s0 a oa g pins σ b pv gl Hy H s) (ob : GenObj oa g 0) (hfr : A.frames = some X.stack) (hr : Room (k + 2) A) (hb : b ≠ .stop)
    (hout : ∀ y b', b = .out y b' → ∀ u s' v H' pv' gl', RelV v u → y v H' → Ry H H' → Con X k lo Rw Ry s0 a oa g pins σ b' pv' gl' H' H' s' → (∀ x ∈ gl', asleep x.2 = true) → Q (some u) s')
    (hdone : b = .done → ∀ s' H', Ry H H' → Inv X ((a, oa) :: pins) σ H' s' → Calm s0 s' → Q none s') (wr : ∀ H, Rw H H) :
    wpAny (plus X.prog X.w) A (pyNext (.ref a)) Q E s := by
  have e := C.inv.env0
  have rd : Rdy (cG X k lo Rw Ry) pv gl A.in1 s H := ⟨hr.in1, ⟨hfr, e.mod, e.bs, e.bsz, e.funs, e.frf, e.hok, e.bare⟩, fun p hp => by
    obtain ⟨h1, h2, _⟩ := C.inv.pin p (List.mem_append_right _ (List.mem_cons_of_mem _ (List.mem_append_left _ hp)))
    exact ⟨h1, h2⟩, fun x hx => (C.gls x hx).1⟩
  refine next_genP (G := cG X k lo Rw Ry) hr.hd hr.depth C.inv.nolimit (ob.ob C.obj) (Int.le_refl 0) C.mem rd C.slp C.rw ⟨hb, fun y b' z u s' v H' pv' gl' rv hy F Pr hg sl => ?_, fun z s' H' F h' tk hk => ?_⟩
  · obtain ⟨I', gc'⟩ := con_eff cl C F
    have apart : ∀ p ∈ pv', ∀ q ∈ X.pn ++ ((a, oa) :: pins), q.1 ≠ p.1 := fun p hp q hq => by
      obtain ⟨_, _, _, _, h5⟩ := Pr.pv p hp
      have hq' : q ∈ X.pn ++ ((a, oa) :: (pv ++ pins)) := by
        rcases List.mem_append.mp hq with hq | hq
        · exact List.mem_append_left _ hq
        · rcases List.mem_cons.mp hq with e | hq
          · rw [e]; exact List.mem_append_right _ List.mem_cons_self
          · exact List.mem_append_right _ (List.mem_cons_of_mem _ (List.mem_append_right _ hq))
      obtain ⟨e1, e2, _, _, e5⟩ := C.inv.pin q hq'
      refine h5 q.1 q.2 e1 e2 (isCell_of e5) fun w => ?_
      obtain ⟨z', hz', e'⟩ := List.mem_map.mp w
      exact (C.ap z' hz').2 q hq e'.symm
    refine hout y b' z u s' v H' pv' gl' rv hy F.ry ⟨I'.pins_of fun p hp => ?_, fun p hp => ⟨(Pr.pv p hp).2.2.1, apart p hp⟩, fun x hx => ?_, hg, gc', sl, wr _⟩ fun x hx => (Pr.gl x hx).2.1
    · rcases List.mem_cons.mp hp with e | hp
      · rw [e]; exact I'.pin (a, oa) (List.mem_append_right _ List.mem_cons_self)
      · rcases List.mem_append.mp hp with hp | hp
        · obtain ⟨h1, h2, h3, h4, h5⟩ := Pr.pv p hp
          refine ⟨h1, h2, fun w => ?_, fun w => ?_, isCell_no h4⟩
          · obtain ⟨m, ⟨o', es, ep, ho, hd, _⟩, _⟩ := C.inv.loc
            refine h5 X.env.locals o' ho C.inv.free (by unfold isCell; rw [hd]) (fun w' => ?_) w.symm
            obtain ⟨z', hz', e'⟩ := List.mem_map.mp w'
            exact (C.inv.pin z' (List.mem_append_right _ (List.mem_cons_of_mem _ (List.mem_append_left _ hz')))).2.2.1 e'
          · have : p.1 ∈ frs X.stack := by
              rcases C.inv.ok.stk with e | ⟨e, hf⟩
              · rw [e]; exact w
              · rw [e]; unfold frs; rw [List.filterMap_cons, hf]; exact List.mem_cons_of_mem _ w
            exact absurd (Nat.lt_of_lt_of_le (cl.fl _ this) h3) (Nat.lt_irrefl _)
        · exact I'.pin p (List.mem_append_right _ (List.mem_cons_of_mem _ hp))
    · obtain ⟨h1, _, h3⟩ := Pr.gl x hx
      refine ⟨h1, ?_⟩
      rcases h3 with h3 | h3
      · obtain ⟨z', hz', e'⟩ := List.mem_map.mp h3
        rw [← e']; exact (C.gls z' hz').2
      · exact Nat.le_trans C.gc.size h3
  · obtain ⟨I', gc'⟩ := con_eff cl C F
    exact hdone z _ H' F.ry (I'.kept (t' := tk) hk) ⟨fun i x e ha => gc'.kept i x e ha (fun z => by cases z), fun i x e hm => (gc'.left i x e hm).elim (fun z => z.1) fun z => (by cases z), gc'.size⟩
/-- it has just been made -/
theorem con_made {sc : Shared} {u : Value} (I : Inv X pins σ H sc) (h : GMk X.prog X.w X.K X.mg X.base k X.stack Rw Ry sc H b u s) (wr : ∀ H, Rw H H) (c0 : Calm s0 sc) :
    ∃ a oa g pv gl, u = .ref a ∧ sc.heap.objs.size ≤ a ∧ GenObj oa g 0 ∧ Con X k sc.heap.objs.size Rw Ry s0 a oa g pins σ b pv gl H H s ∧ Inv X pins σ H s ∧ Calm sc s ∧ (∀ b o, sc.heap.get? b = some o → s.heap.get? b = some o) := by
  obtain ⟨a, g, oa, pv, gl, rfl, ha, hoa, ⟨nm, qn, hc, hd, hs⟩, hkp, os, hb, cc, hg, hpv, hgl, S⟩ := h
  have hob : GenObj oa g 0 := ⟨nm, qn, hc, hd, by unfold slotN; rw [hs]; rfl⟩
  have I1 : Inv X pins σ H s := I.call' (ch := []) os (Un.kept hkp) (I.hok.kept hkp) hb fun b hb => by cases hb
  have old : ∀ q ∈ X.pn ++ pins, q.1 < sc.heap.objs.size := fun q hq => Heap.lt_size (I.pin q hq).1
  refine ⟨a, oa, g, pv, gl, rfl, ha, hob, ⟨I1.pins_of fun p hp => ?_, fun p hp => ⟨(hpv p hp).1, fun q hq => ?_⟩, fun x hx => ⟨(hgl x hx).2, Nat.le_trans c0.size (hgl x hx).1⟩, hg, ?_, S, wr _⟩, I1, cc, hkp⟩
  · have key : ∀ (p : Addr × Obj), sc.heap.objs.size ≤ p.1 → s.heap.get? p.1 = some p.2 → isCell p.2 = false → s.heap.get? p.1 = some p.2 ∧ H p.1 = none ∧ p.1 ≠ X.env.locals ∧ p.1 ∉ X.fs ∧ ∀ v, p.2.data ≠ .cell v := fun p h1 h2 h3 => ⟨h2, I.hok.fresh h1, Nat.ne_of_gt (Nat.lt_of_lt_of_le I.lt h1), I.nofs h1, isCell_no h3⟩
    rcases List.mem_cons.mp hp with e | hp
    · rw [e]; exact key (a, oa) ha hoa hob.cell
    · rcases List.mem_append.mp hp with hp | hp
      · obtain ⟨h1, _, h3, h4⟩ := hpv p hp
        exact key p h1 h3 h4
      · exact I1.pin p (List.mem_append_right _ hp)
  · rcases List.mem_append.mp hq with hq | hq
    · exact Nat.ne_of_lt (Nat.lt_of_lt_of_le (old q (List.mem_append_left _ hq)) (hpv p hp).1)
    · rcases List.mem_cons.mp hq with e | hq
      · rw [e]; exact Ne.symm (hpv p hp).2.1
      · exact Nat.ne_of_lt (Nat.lt_of_lt_of_le (old q (List.mem_append_right _ hq)) (hpv p hp).1)
  · have c := c0.trans cc
    exact ⟨fun i x e ha _ => c.kept i x e ha, fun i x e hm => .inl ⟨c.left i x e hm, fun z => by cases z⟩, c.size⟩
theorem conLo_of (I : Inv X pins σ H s) : ConLo X s.heap.objs.size := ⟨I.sz, fun x c e => let ⟨v, z⟩ := I.cell x c e; z.lt, fun b hb => by
  obtain ⟨_, o, ho, _⟩ := I.stack.mem hb
  exact Heap.lt_size ho⟩
end
end Ssp

/-! list(g) on the second machine. -/
namespace Ssp
open PySem PySem.Spec PyProof.Rows Ssg L2
open Sem (wp)
section
variable {P : Program} {w : World} {A : Around} {E : Value → Shared → Prop} {s : Shared}
theorem codeAny_lift {c : Code} {R : Result → Shared → Prop} (h : codeAny (model P w) A c R { s with gens := s.gens.map dead }) : codeAny (plus P w) A c (fun r s1 => ∃ s2, R r s2 ∧ SimP s.gens s1.gens s2.gens ∧ s1 = { s2 with gens := s1.gens }) s := fun Γ p hc hΓ => by
  obtain ⟨r, s2, hr, q⟩ := h Γ p hc hΓ
  obtain ⟨G1, h1, h2, _⟩ := lift_runs hr rfl rfl s.gens (SimP.start s.gens)
  exact ⟨r, { s2 with gens := G1 }, h2, s2, q, h1, rfl⟩
theorem gens_same {G0 G1 : Array GenState} (h : SimP G0 G1 (G0.map dead)) : G1 = G0 := by
  refine Array.ext_getElem? fun i => ?_
  rcases h.or i with ⟨x, hx, ha⟩ | hn
  · rw [(h.old i x hx ha).1, hx]
  · obtain ⟨h1, _⟩ := h.new i hn
    rw [h1, Array.getElem?_map]
    cases e : G0[i]? with
    | none => rfl
    | some y =>
      have := hn y e
      cases y with
      | suspended => cases this
      | _ => rfl
theorem builtinP {id : String} {args : Args} {b : Builtin} {R : Result → Shared → Prop} (hb : entryFor table id = some b)
    (h : wpAny (plus P w) (A.under (.builtin id args)) (b args) (fun fin s' => match fin with | .done f => R (.ok f) s' | .again c' => c'.quiet = true ∧ codeAny (plus P w) A c' R s') (fun e s' => R (.error e) s') s) : codeAny (plus P w) A (.builtin id args) R s := by
  refine codeP ?_
  show wpAny _ _ (match entryFor table id with | some b => b args | none => unsupported ((withoutEnding? id "#data").getD id)) _ _ s
  rw [hb]; exact h
theorem call_builtinP {id : String} {args : Args} {b : Builtin} {R : Result → Shared → Prop} (hq : plainId id = true) (hb : entryFor table id = some b)
    (h : wpAny (plus P w) A.in1 (checkBuiltinCall id args) (fun _ s₁ => wpAny (plus P w) A.in1 (b args)
      (fun fin s' => match fin with | .done f => R (.ok f) s' | .again c' => c'.quiet = true ∧ codeAny (plus P w) A c' R s') (fun e s' => R (.error e) s') s₁)
      (fun e s' => R (.error e) s') s) : codeAny (plus P w) A (.call (.builtin id) args) R s := by
  refine codeP ?_
  show wpAny _ A.in1 (do checkBuiltinCall id args; again (.builtin id args)) _ _ s
  exact wpAny_bind (wpAny_mono h (fun _ s₁ h₁ => wpAny_pure (And.intro (plainId_quiet hq _) (builtinP hb (by rw [Around.under_plainId hq args]; exact h₁)))) fun _ _ h' => h')
theorem callTypeP {T newId initId : String} {Bi : Builtin} {args : List Value} {Q Q₁ : Value → Shared → Prop} (ft : TypeCalled T newId initId)
    (hct : checkTypeCall T ⟨args, []⟩ = pure ()) (entryI : entryFor table initId = some Bi)
    (hnew : codeAny (plus P w) A.in1 (.call (.builtin newId) ⟨.type T :: args, []⟩) (wants Q₁ E) s)
    (hnext : ∀ obj s₁, Q₁ obj s₁ → s₁.TypeIs obj T ∧ argsOk initId ⟨obj :: args, []⟩ ∧
      wpAny (plus P w) A.in1.in1 (Bi ⟨obj :: args, []⟩)
        (fun fin s' => match fin with | .done f => wants (fun r s₂ => r = .none ∧ Q obj s₂) E (.ok f) s' | .again c' => c'.quiet = true ∧ codeAny (plus P w) A.in1 c' (wants (fun r s₂ => r = .none ∧ Q obj s₂) E) s')
        (fun e s' => wants (fun r s₂ => r = .none ∧ Q obj s₂) E (.error e) s') s₁) :
    wpAny (plus P w) A (call (.type T) args) Q E s := by
  obtain ⟨c, tl, hmro⟩ := ft.mro
  have hmade := ft.made
  have hsub := ft.sub
  refine wpAny_call (codeP ?_)
  show wpAny _ _ (callAny (.type T) _) _ _ _
  refine wpAny_pure ⟨Code.quiet_builtin _ (by decide +kernel), builtinP F.entry_type_call ?_⟩
  rw [Around.under_plain (weight_type_call_type T args []) rfl]
  have h1 := ft.notType
  have h2 := ft.canCreate
  repeat (any_goals (first | assumption | wp_step))
  refine codeAny_mono hnew fun r s₁ hr => ?_
  cases r with
  | error e => exact hr
  | ok fl =>
    cases fl with
    | ret obj =>
      obtain ⟨hT, hok, hsi⟩ := hnext _ _ hr
      have hli := ft.init.lookup
      have hbi := ft.init.bind obj
      repeat (any_goals (first | assumption | wp_step))
      refine codeAny_mono (call_builtinP ft.init.plain entryI (ft.init.check _ _ _ _ _ _ _ _ hT hok hsi)) fun r₂ s₂ hr₂ => ?_
      cases r₂ with
      | error e => exact hr₂
      | ok fl₂ =>
        cases fl₂ with
        | ret r =>
          obtain ⟨rfl, hq⟩ := hr₂
          repeat (any_goals (first | assumption | wp_step))
        | _ => exact hr₂.elim
    | _ => exact hr.elim
end
section
variable {X : Cx} {k lo : Nat} {Rw Ry : Hp → Hp → Prop} {s0 : Shared} {a : Addr} {oa : Obj} {g : Nat} {pins : List (Addr × Obj)} {σ : L2.St} {b : Beh} {pv : List (Addr × Obj)} {gl : List (Nat × GenState)} {Hy H H' : Hp} {s s' : Shared}
/-- a new object of the holder's -/
theorem con_new {S : Addr} {o : Obj} {h' : Heap} {tk : Nat} (C : Con X k lo Rw Ry s0 a oa g pins σ b pv gl Hy H s) (hS : s.heap.objs.size ≤ S) (kp : ∀ b o, s.heap.get? b = some o → h'.get? b = some o) (e : h'.get? S = some o) (hc : isCell o = false) :
    Con X k lo Rw Ry s0 a oa g ((S, o) :: pins) σ b pv gl Hy H { s with heap := h', toks := tk } := by
  have I := C.inv.kept (t' := tk) kp
  refine ⟨I.pins_of fun p hp => ?_, fun p hp => ⟨(C.ap p hp).1, fun q hq => ?_⟩, C.gls, C.mem, ⟨C.gc.kept, C.gc.left, C.gc.size⟩, C.slp, C.rw⟩
  · rcases List.mem_cons.mp hp with z | hp
    · rw [z]; exact I.pin (a, oa) (List.mem_append_right _ List.mem_cons_self)
    · rcases List.mem_append.mp hp with hp | hp
      · exact I.pin p (List.mem_append_right _ (List.mem_cons_of_mem _ (List.mem_append_left _ hp)))
      · rcases List.mem_cons.mp hp with z | hp
        · rw [z]; exact ⟨e, C.inv.hok.fresh hS, Nat.ne_of_gt (Nat.lt_of_lt_of_le C.inv.lt hS), C.inv.nofs hS, isCell_no hc⟩
        · exact I.pin p (List.mem_append_right _ (List.mem_cons_of_mem _ (List.mem_append_right _ hp)))
  · rcases List.mem_append.mp hq with hq | hq
    · exact (C.ap p hp).2 q (List.mem_append_left _ hq)
    · rcases List.mem_cons.mp hq with z | hq
      · rw [z]; exact (C.ap p hp).2 (a, oa) (List.mem_append_right _ List.mem_cons_self)
      · rcases List.mem_cons.mp hq with z | hq
        · rw [z]
          exact Nat.ne_of_gt (Nat.lt_of_lt_of_le (Heap.lt_size (C.inv.pin p (List.mem_append_right _ (List.mem_cons_of_mem _ (List.mem_append_left _ hp)))).1) hS)
        · exact (C.ap p hp).2 q (List.mem_append_right _ (List.mem_cons_of_mem _ hq))
/-- it is written -/
theorem con_put {S : Addr} {o o' : Obj} {h' : Heap} {tk : Nat} (cl : ConLo X lo) (hS : lo ≤ S) (hp : ∀ q ∈ X.pn ++ pins, q.1 < lo) (ha : a ≠ S) (C : Con X k lo Rw Ry s0 a oa g ((S, o) :: pins) σ b pv gl Hy H s) (kp : ∀ b u, b ≠ S → s.heap.get? b = some u → h'.get? b = some u) (e : h'.get? S = some o') (hc : isCell o' = false) :
    Con X k lo Rw Ry s0 a oa g ((S, o') :: pins) σ b pv gl Hy H { s with heap := h', toks := tk } := by
  obtain ⟨p1, p2, p3, p4, _⟩ := C.inv.pin (S, o) (List.mem_append_right _ (List.mem_cons_of_mem _ (List.mem_append_right _ List.mem_cons_self)))
  have hpS : ∀ p ∈ pv, p.1 ≠ S := fun p hp' => Ne.symm ((C.ap p hp').2 (S, o) (List.mem_append_right _ (List.mem_cons_of_mem _ List.mem_cons_self)))
  have C0 : Con X k lo Rw Ry s0 a oa g pins σ b pv gl Hy H s := C.sub fun p hp => List.mem_cons_of_mem _ hp
  have I : Inv X ((a, oa) :: (pv ++ pins)) σ H { s with heap := h', toks := tk } := C0.inv.turned (it := S) kp p2 p3 (.inr (Nat.le_trans cl.s0 hS)) (fun x c e' z => absurd (Nat.lt_of_lt_of_le (cl.cl x c e') hS) (by rw [z]; exact Nat.lt_irrefl _)) fun p hp' => by
    rcases List.mem_append.mp hp' with hp' | hp'
    · exact Nat.ne_of_lt (Nat.lt_of_lt_of_le (hp p (List.mem_append_left _ hp')) hS)
    · rcases List.mem_cons.mp hp' with z | hp'
      · rw [z]; exact ha
      · rcases List.mem_append.mp hp' with hp' | hp'
        · exact hpS p hp'
        · exact Nat.ne_of_lt (Nat.lt_of_lt_of_le (hp p (List.mem_append_right _ hp')) hS)
  refine ⟨I.pins_of fun p hp' => ?_, fun p hp' => ⟨(C.ap p hp').1, fun q hq => ?_⟩, C.gls, C.mem, ⟨C.gc.kept, C.gc.left, C.gc.size⟩, C.slp, C.rw⟩
  · rcases List.mem_cons.mp hp' with z | hp'
    · rw [z]; exact I.pin (a, oa) (List.mem_append_right _ List.mem_cons_self)
    · rcases List.mem_append.mp hp' with hp' | hp'
      · exact I.pin p (List.mem_append_right _ (List.mem_cons_of_mem _ (List.mem_append_left _ hp')))
      · rcases List.mem_cons.mp hp' with z | hp'
        · rw [z]; exact ⟨e, p2, p3, p4, isCell_no hc⟩
        · exact I.pin p (List.mem_append_right _ (List.mem_cons_of_mem _ (List.mem_append_right _ hp')))
  · rcases List.mem_append.mp hq with hq | hq
    · exact (C.ap p hp').2 q (List.mem_append_left _ hq)
    · rcases List.mem_cons.mp hq with z | hq
      · rw [z]; exact (C.ap p hp').2 (a, oa) (List.mem_append_right _ List.mem_cons_self)
      · rcases List.mem_cons.mp hq with z | hq
        · rw [z]; exact Ne.symm (hpS p hp')
        · exact (C.ap p hp').2 q (List.mem_append_right _ (List.mem_cons_of_mem _ (List.mem_cons_of_mem _ hq)))
/-- what is wanted of the turns of list(g) -/
def Dr (Rw Ry : Hp → Hp → Prop) (W : Beh → List V → Hp → Hp → Prop) (Q : List V → Hp → Prop) : Prop := ∀ b ys H Hy, W b ys H Hy → b ≠ .stop ∧ (b = .done → ∀ H', Ry H H' → ys.length ≤ sizeLine ∧ Q ys H') ∧
  ∀ y b', b = .out y b' → ys.length < sizeLine ∧ ∀ x H', Ry H H' → y x H' → W b' (ys ++ [x]) H' H'
theorem drainP {A : Around} {S : Addr} {W : Beh → List V → Hp → Hp → Prop} {Q : List V → Hp → Prop} {res : Value} {R : Result → Shared → Prop} (cl : ConLo X lo) (ob : GenObj oa g 0) (hfr : A.frames = some X.stack) (hr : Room (k + 3) A) (wr : ∀ H, Rw H H) (hS : lo ≤ S) (hp : ∀ q ∈ X.pn ++ pins, q.1 < lo) (ha : a ≠ S)
    (D : Dr Rw Ry W Q) (hend : ∀ s' acc c H' ys, Inv X ((S, lstObj acc c) :: pins) σ H' s' → Vals ys acc.toList → ys.length ≤ sizeLine → Q ys H' → Calm s0 s' → R (.ok (.ret res)) s') :
    ∀ (b : Beh) (s : Shared) acc c ys pv gl Hy H, Con X k lo Rw Ry s0 a oa g ((S, lstObj acc c) :: pins) σ b pv gl Hy H s → Vals ys acc.toList → W b ys H Hy → codeAny (plus X.prog X.w) A (.builtin "list.extend.loop" ⟨[.ref S, .ref a, res], []⟩) R s := by
  intro b
  induction b with
  | stop => intro s acc c ys pv gl Hy H C rv w; exact absurd rfl (D _ _ _ _ w).1
  | done =>
    intro s acc c ys pv gl Hy H C rv w
    obtain ⟨_, d2, _⟩ := D _ _ _ _ w
    refine builtinP F.entry_extend_loop ?_
    rw [Around.under_plainId F.plain_extend_loop _]
    show wpAny _ A.in1 (pyNext (.ref a) >>= _) _ _ s
    refine wpAny_bind (con_next (A := A.in1) cl C ob hfr hr.in1 (fun z => by cases z) (fun y b' z => by cases z) (fun _ s' H' ry I' c' => ?_) wr)
    obtain ⟨q1, q2⟩ := d2 rfl H' ry
    exact wpAny_pure (hend s' acc c H' ys (I'.pins_of fun p hp => I'.pin p (List.mem_append_right _ (List.mem_cons_of_mem _ hp))) rv q1 q2 c')
  | out y b ih =>
    intro s acc c ys pv gl Hy H C rv w
    obtain ⟨_, _, d3⟩ := D _ _ _ _ w
    obtain ⟨d4, d5⟩ := d3 y b rfl
    refine builtinP F.entry_extend_loop ?_
    rw [Around.under_plainId F.plain_extend_loop _]
    show wpAny _ A.in1 (pyNext (.ref a) >>= _) _ _ s
    refine wpAny_bind (con_next (A := A.in1) cl C ob hfr hr.in1 (fun z => by cases z) (fun y' b' z u s' v H' pv' gl' ru hy ry C' hs => ?_) (fun z => by cases z) wr)
    cases z
    have hS1 := (C'.inv.pin (S, lstObj acc c) (List.mem_append_right _ (List.mem_cons_of_mem _ (List.mem_append_right _ List.mem_cons_self)))).1
    have hsz : acc.size < sizeLine := by
      have e1 := rv.length
      have e2 : acc.toList.length = acc.size := by simp
      omega
    show wpAny _ A.in1 (updateSeq S (·.push u) >>= _) _ _ _
    refine wpAny_bind ?_
    refine wpAny_updateSeq hS1 rfl (wpAny_pure ⟨plainId_quiet F.plain_extend_loop _, ?_⟩) (Nat.le_of_lt hsz) (by show (acc.push u).size ≤ sizeLine + 1; rw [Array.size_push]; omega)
    obtain ⟨c2, e2⟩ : ∃ c2, (s'.heap.update S (Obj.mapSeq (·.push u))).get? S = some (lstObj (acc.push u) c2) := ⟨_, Heap.get?_update_self _ hS1 rfl⟩
    refine ih _ (acc.push u) c2 (ys ++ [v]) pv' gl' H' H' (con_put (tk := s'.toks) cl hS hp ha C' (fun b o hb e => (Heap.get?_update_other _ _ (Ne.symm hb)).trans e) e2 rfl) ?_ (d5 v H' ry hy)
    rw [Array.toList_push]
    exact rv.append (.cons ru .nil)
end
section
variable {X : Cx} {k lo : Nat} {Rw Ry : Hp → Hp → Prop} {s0 : Shared} {a : Addr} {oa : Obj} {g : Nat} {pins : List (Addr × Obj)} {σ : L2.St} {b : Beh} {pv : List (Addr × Obj)} {gl : List (Nat × GenState)} {Hy H H' : Hp} {s s' : Shared}
theorem call_listP {A : Around} {W : Beh → List V → Hp → Hp → Prop} {Q : List V → Hp → Prop} {Q' : Value → Shared → Prop} {E : Value → Shared → Prop} (cl : ConLo X lo) (ob : GenObj oa g 0) (hfr : A.frames = some X.stack) (hr : Room (k + 4) A) (wr : ∀ H, Rw H H) (hlo : lo ≤ s.heap.objs.size) (hp : ∀ q ∈ X.pn ++ pins, q.1 < lo)
    (D : Dr Rw Ry W Q) (C : Con X k lo Rw Ry s0 a oa g pins σ b pv gl Hy H s) (w : W b [] H Hy)
    (hQ : ∀ S s' acc c H' ys, Inv X ((S, lstObj acc c) :: pins) σ H' s' → Vals ys acc.toList → ys.length ≤ sizeLine → Q ys H' → Calm s0 s' → lo ≤ S → Q' (.ref S) s') :
    wpAny (plus X.prog X.w) A (call (.type "list") [.ref a]) Q' E s := by
  have ha2 : a < s.heap.objs.size := Heap.lt_size C.obj
  have hSa : s.heap.objs.size ≠ a := Nat.ne_of_gt ha2
  obtain ⟨nm, qn, hgc, hgd, _⟩ := id ob
  refine callTypeP (Q₁ := fun obj s₁ => obj = .ref s.heap.objs.size ∧ s₁ = { s with heap := s.heap.push { cls := .type "list", data := .seq #[] } }) F.called_list (F.typeCall_list_1 _) F.entry_list_init
    (codeAny_mono (codeAny_lift (code_list_new _ (Q₁ := fun obj s₁ => obj = .ref s.heap.objs.size ∧ s₁ = { s with gens := s.gens.map dead, heap := s.heap.push { cls := .type "list", data := .seq #[] } }) (E := fun _ _ => False) ⟨rfl, rfl⟩)) fun r s1 ⟨s2, q, hS, e⟩ => ?_) fun obj s₁ h₁ => ?_
  · match r, q with
    | .ok (.ret obj), ⟨q1, q2⟩ =>
      refine ⟨q1, ?_⟩
      subst q2
      rw [e, gens_same hS]
  obtain ⟨rfl, rfl⟩ := h₁
  have hS : (s.heap.push { cls := .type "list", data := .seq #[] }).get? s.heap.objs.size = some { cls := .type "list", data := .seq #[] } := Heap.get?_push_size _ rfl
  refine ⟨⟨_, hS, rfl⟩, F.args_list_init_2 _ _, ?_⟩
  show wpAny _ A.in1.in1 (do let old ← Builtin.List.listItems (.ref s.heap.objs.size); Builtin.List.listUpdate (.ref s.heap.objs.size) (fun _ => #[]); letGo old.toList.reverse; Builtin.List.listExtendWith (.ref s.heap.objs.size) (.ref a) .none) _ _ _
  refine wpAny_bind ?_
  unfold Builtin.List.listItems
  refine wpAny_bind (wpAny_seqItems hS rfl (wpAny_pure ?_))
  show wpAny _ A.in1.in1 (updateSeq s.heap.objs.size (fun _ => #[]) >>= fun _ => letGo (#[] : Array Value).toList.reverse >>= fun _ => Builtin.List.listExtendWith (.ref s.heap.objs.size) (.ref a) .none) _ _ _
  refine wpAny_bind (wpAny_updateSeq hS rfl ?_)
  have hS2 := Heap.get?_update_self (Obj.mapSeq (fun _ => (#[] : Array Value))) hS rfl
  refine wpAny_bind (wpAny_letGo ?_)
  unfold Builtin.List.listExtendWith
  have up : ∀ (h : Heap) (f : Obj → Obj), (∀ b o, s.heap.get? b = some o → h.get? b = some o) → ∀ b o, s.heap.get? b = some o → (h.update s.heap.objs.size f).get? b = some o := fun h f q b o e =>
    (Heap.get?_update_other _ _ (Ne.symm (Nat.ne_of_lt (Heap.lt_size e)))).trans (q b o e)
  have k1 : ∀ b o, s.heap.get? b = some o → (s.heap.push { cls := .type "list", data := .seq #[] }).get? b = some o := fun b o e => Heap.get?_push_of_some _ e
  have k2 := up _ (Obj.mapSeq (fun _ => (#[] : Array Value))) k1
  have e2 := k2 a oa C.obj
  have hT : ({ s with heap := (s.heap.push { cls := .type "list", data := .seq #[] }).update s.heap.objs.size (Obj.mapSeq fun _ => (#[] : Array Value)) } : Shared).TypeIs (.ref a) "generator" := ⟨oa, e2, hgc⟩
  refine wpAny_bind (wpAny_typeOf hT ?_)
  have h1 : Builtin.List.listSameRef (.ref s.heap.objs.size) (.ref a) = false := by simp [Builtin.List.listSameRef, hSa]
  have h2 : (Value.type "generator" == Value.type "list") = false := by decide
  have h3 : (Value.type "generator" == Value.type "tuple") = false := by decide
  simp only [h1, h2, h3, Bool.or_false, Bool.false_eq_true, if_false]
  refine wpAny_bind (iter_genP (s := { s with heap := _ }) e2 hgc ?_)
  refine wpAny_bind (wpAny_holding ?_)
  unfold Builtin.List.listLengthHint
  refine wpAny_bind (wpAny_specialOf hT F.gen_no_len ?_)
  show wpAny _ A.in1.in1 (specialOf (Value.ref a) (Str.ofString "__length_hint__") >>= _) _ _ _
  refine wpAny_bind (wpAny_specialOf hT F.gen_no_hint ?_)
  refine wpAny_pure ?_
  show wpAny _ A.in1.in1 (rule "list.extend.makes-room" >>= fun _ => Builtin.List.listTouch (.ref s.heap.objs.size) >>= fun _ =>
    again (.builtin "list.extend.loop" ⟨[.ref s.heap.objs.size, .ref a, .none], []⟩)) _ _ _
  refine wpAny_bind (wpAny_rule ?_)
  refine wpAny_bind ?_
  show wpAny _ A.in1.in1 (updateSeq s.heap.objs.size (·.push .none) >>= fun _ => updateSeq s.heap.objs.size (·.pop)) _ _ _
  refine wpAny_bind (wpAny_updateSeq hS2 rfl ?_)
  have hS3 := Heap.get?_update_self (Obj.mapSeq (·.push Value.none)) hS2 rfl
  refine wpAny_updateSeq (hz := by seq_fits) hS3 rfl ?_
  have hS4 := Heap.get?_update_self (Obj.mapSeq (·.pop)) hS3 rfl
  have k4 := up _ (Obj.mapSeq (·.pop)) (up _ (Obj.mapSeq (·.push Value.none)) k2)
  refine wpAny_pure ⟨plainId_quiet F.plain_extend_loop _, ?_⟩
  obtain ⟨c4, e4⟩ : ∃ c4, ((((s.heap.push { cls := .type "list", data := .seq #[] }).update s.heap.objs.size (Obj.mapSeq fun _ => (#[] : Array Value))).update s.heap.objs.size (Obj.mapSeq (·.push Value.none))).update s.heap.objs.size (Obj.mapSeq (·.pop))).get? s.heap.objs.size = some (lstObj #[] c4) := ⟨_, hS4⟩
  have Cn := con_new (tk := s.toks) C (Nat.le_refl _) k4 e4 rfl
  exact drainP (A := A.in1) (S := s.heap.objs.size) cl ob hfr hr.in1 wr hlo hp (Ne.symm hSa) D (fun s' acc c H' ys I rv hl q c' => ⟨rfl, hQ _ s' acc c H' ys I rv hl q c' hlo⟩) b _ #[] c4 [] pv gl Hy H Cn .nil w
theorem ld_bltP {E : Value → Shared → Prop} {x : Str} {u : Value} {pos : Pos} {Q : Value → Shared → Prop} (I : Inv X pins σ H s) (hg : Gl X x) (hm : X.mg x = none) (hv : bootBuiltins x = some u) (h : Q u s)
    (hn : x ≠ "__name__" := by decide) (hd : (x == ("__debug__" : Str)) = false := by decide) : wpAny (plus X.prog X.w) X.A (eval (.Name x pos) X.env) Q E s := by
  obtain ⟨mb, h1, h2⟩ := I.mod.blt
  exact Calls.Name_function_global I.ok.kind hg (Calls.loadGlobal_builtin (by rw [I.ok.glob]; exact I.mod.glob.keeps I.bk) hm (by rw [I.ok.blt]; exact h1.keeps I.bk) ((h2 x hn).trans hv) h) hd
def tListM (Rw Ry : Hp → Hp → Prop) (tg : TGm) : TE := fun σ H Q => tg σ H fun b H1 => ∃ W : Beh → List V → Hp → Hp → Prop, W b [] H1 H1 ∧ Dr Rw Ry W fun ys H' => ∀ p, H' p = none → Q (.ref p) (upd H' p (.lst ys))
/-- list(g) -/
theorem pe_listP {e : Expr} {tg : TGm} {nm : Str} {p pos : Pos} (h : PGm X k Rw Ry e tg) (hr : Room (k + 4) X.A) (wr : ∀ H, Rw H H) (hg : Gl X nm) (hmg : X.mg nm = none) (hv : bootBuiltins nm = some (.type "list")) (hnm : nm ≠ "__name__" := by decide) (hdb : (nm == ("__debug__" : Str)) = false := by decide)
    (he : starEach [e] X.env = (false, eval e X.env) :: starEach [] X.env := by rfl) : PEp X (.Call (.Name nm p) [e] [] pos) (tListM Rw Ry tg) := ⟨fun pins s σ H Q I hq => by
  refine wpAny_Call_Name_kw (ld_bltP I hg hmg hv ?_ hnm hdb)
  refine PyProof.Rows.callWith_type1 ?_ he rfl
  rw [he]
  show wpAny _ _ (spliced ((false, eval e X.env) :: backTo pos (starEach [] X.env))) _ _ s
  refine Calls.spliced_cons ((h.run pins s σ H _ I hq).then_ fun u s1 ⟨sc, H1, b, I1, c1, G1, W, w, D⟩ ca => ?_)
  refine Calls.spliced_nil ?_
  obtain ⟨a, oa, g, pv, gl, rfl, ha, ob, C, I2, c2, kp⟩ := con_made I1 G1 wr c1
  refine call_listP (W := W) (conLo_of I1) ob I2.ok.frames hr wr (Nat.le_trans ha (Nat.le_of_lt (Heap.lt_size C.obj))) (fun q hq => Heap.lt_size (I1.pin q hq).1) D C w fun S s' acc c H' ys J rv hl q c' hS => ?_
  obtain ⟨j1, j2, j3, j4, _⟩ := J.pin (S, lstObj acc c) (List.mem_append_right _ List.mem_cons_self)
  have J0 : Inv X pins σ H' s' := J.pins_of fun p hp => J.pin p (List.mem_append_right _ (List.mem_cons_of_mem _ hp))
  have lo1 := conLo_of I1
  refine ⟨⟨.ref S, upd H' S (.lst ys), J0.take (t' := s'.toks) (fun b ob _ e => e) ⟨j2, j3, j4, .inr (Nat.le_trans lo1.s0 hS), fun x c e z => absurd (Nat.lt_of_lt_of_le (lo1.cl x c e) hS) (by rw [z]; exact Nat.lt_irrefl _), fun p hp => Nat.ne_of_lt (Nat.lt_of_lt_of_le (Heap.lt_size (I1.pin p hp).1) hS)⟩ ⟨hl, acc.toList, c, rv, by rw [j1]⟩, rfl, q S j2⟩, c'⟩⟩
end
end Ssp

/-! A list comprehension over a generator, on the second machine. -/
namespace Ssp
open PySem PySem.Spec PyProof.Rows Ssg L2
open Sem (wp)
section
variable {P : Program} {w : World} {A : Around} {s : Shared} {R : Result → Shared → Prop}
theorem compLoopP {elt target iter : Expr} {ifs : List Expr} {scope : Scope} {pos : Pos} {it acc : Value} {env : Env} (I : Nat → Shared → Prop)
    (turn : ∀ n s, I n s → wpAny (plus P w) A (pyNext it) (fun r s₁ => match r with
      | none => R (.ok .next) s₁
      | some v => wpAny (plus P w) A (letOwnedTupleGo target it v) (fun _ s₁' => wpAny (plus P w) A (assign target env v) (fun _ s₂ =>
          wpAny (plus P w) A (forIn ifs true fun c r => if r = true then do let ok ← isTrue c env (eval c env); pure (ForInStep.yield ok) else pure (ForInStep.yield r)) (fun ok s₃ =>
            if ok = true then wpAny (plus P w) A (eval elt env) (fun x s₄ =>
              wpAny (plus P w) A (call (.builtin "list.append") [acc, x]) (fun _ s₅ => ∃ m, m < n ∧ I m s₅) (notedBy (plus P w) A env fun e s' => R (.error e) s') s₄) (notedBy (plus P w) A env fun e s' => R (.error e) s') s₃
            else ∃ m, m < n ∧ I m s₃) (notedBy (plus P w) A env fun e s' => R (.error e) s') s₂) (notedBy (plus P w) A env fun e s' => R (.error e) s') s₁') (notedBy (plus P w) A env fun e s' => R (.error e) s') s₁) (notedBy (plus P w) A env fun e s' => R (.error e) s') s)
    (n : Nat) (h : I n s) :
    codeAny (plus P w) A (.compLoop (.ListComp elt [⟨target, iter, ifs, 0⟩] scope pos) 0 it acc env) R s := by
  refine codeAny_loop' rfl I (fun n s hI => ?_) n h
  rw [plus_den, mk_id rfl]
  show wpAny _ A ((compTurn (.ListComp elt [⟨target, iter, ifs, 0⟩] scope pos) 0 it acc env).onRaise (fun x => do noteFrame x env; theTreesLotGoes x)) _ _ s
  refine wpAny_noted ?_
  rw [compTurn_list]
  refine wpAny_bind (wpAny_standAt (wpAny_bind (wpAny_mono (turn n s hI) (fun r s₁ h₁ => ?_) fun _ _ h' => h')))
  cases r with
  | none => exact wpAny_pure h₁
  | some v =>
    refine wpAny_bind (wpAny_mono h₁ (fun _ s₁' h₁' => ?_) fun _ _ h' => h')
    refine wpAny_bind (wpAny_mono h₁' (fun _ s₂ h₂ => wpAny_bind (wpAny_mono h₂ (fun ok s₃ h₃ => ?_) fun _ _ h' => h')) fun _ _ h' => h')
    cases ok with
    | false => exact wpAny_pure (.inl ⟨rfl, h₃⟩)
    | true =>
      exact wpAny_bind (wpAny_bind (wpAny_mono h₃ (fun x s₄ h₄ => wpAny_bind (wpAny_mono h₄ (fun _ s₅ h₅ => wpAny_pure (wpAny_pure (.inl ⟨rfl, h₅⟩))) fun _ _ h' => h')) fun _ _ h' => h'))
theorem compStartP {elt target iter : Expr} {ifs : List Expr} {rest : List Comprehension} {scope : Scope} {pos : Pos} {it acc : Value} {env : Env}
    (h0 : codeAny (plus P w) A (.compLoop (.ListComp elt (⟨target, iter, ifs, 0⟩ :: rest) scope pos) 0 it acc env) R s)
    (h : wpAny (plus P w) A (pyIter it) (fun it' s' => codeAny (plus P w) A (.compLoop (.ListComp elt (⟨target, iter, ifs, 0⟩ :: rest) scope pos) 0 it' acc env) R s')
      (notedBy (plus P w) A env fun x s' => R (.error x) s') s) :
    codeAny (plus P w) A (.compStart (.ListComp elt (⟨target, iter, ifs, 0⟩ :: rest) scope pos) 0 it acc env) R s := by
  refine codeP ?_
  show wpAny _ _ ((compStart (.ListComp elt (⟨target, iter, ifs, 0⟩ :: rest) scope pos) 0 it acc env).onRaise (fun x => do noteFrame x env; standAt theWindowsPlace)) _ _ s
  refine wpAny_notedAt ?_
  unfold compStart
  show wpAny _ _ (ask >>= _) _ _ s
  refine wpAny_bind (wpAny_askSetting (wpAny_ite ?_))
  split
  · first
      | exact wpAny_bind (wpAny_pure (wpAny_pure (And.intro rfl h0)))
      | exact wpAny_pure (And.intro rfl h0)
  · first
      | exact wpAny_bind (wpAny_rule (wpAny_bind (wpAny_standAt (wpAny_bind (wpAny_mono h (fun it' s' h' => wpAny_pure (And.intro rfl h')) fun _ _ x => x)))))
      | (refine wpAny_bind (wpAny_rule ?_); show wpAny _ _ (standAt iter.pos >>= _) _ _ s; exact wpAny_bind (wpAny_standAt (wpAny_bind (wpAny_mono h (fun it' s' h' => wpAny_pure (And.intro rfl h')) fun _ _ x => x))))
end
theorem cellsFrom_none {n : Nat} : ∀ {names : List (Str × NameKind)} {acc : List (Str × Addr)}, (∀ y ∈ names, y.2 ≠ .cell) → cellsFrom n names acc = acc
  | [], _, _ => rfl
  | (x, k) :: r, acc, h => by
    unfold cellsFrom
    rw [if_neg (fun z => h (x, k) List.mem_cons_self (beq_iff_eq.mp z))]
    exact cellsFrom_none fun y hy => h y (List.mem_cons_of_mem _ hy)
theorem cloFrom_none {cells : List (Str × Addr)} : ∀ {names : List (Str × NameKind)} {acc : List (Str × Addr)}, (∀ y ∈ names, y.2 ≠ .free) → cloFrom cells names acc = acc
  | [], _, _ => rfl
  | (x, k) :: r, acc, h => by
    unfold cloFrom
    rw [if_neg (fun z => h (x, k) List.mem_cons_self (beq_iff_eq.mp z))]
    exact cloFrom_none fun y hy => h y (List.mem_cons_of_mem _ hy)
/-- the context from s on; what is younger than lo and not its own stands -/
def Cx.reb (Y : Cx) (s : Shared) (lo : Nat) (H : Hp) (own : List Addr) : Cx := { Y with s_0 := cutS s lo, H_0 := H, ex := [], pn := pnOf s H lo own }
section
variable {Y : Cx} {pins : List (Addr × Obj)} {σ σ' : L2.St} {H H' : Hp} {s s' : Shared} {lo : Nat} {own : List Addr}
theorem rebase (I : Inv Y pins σ H s) (b1 : Y.base.objs.size ≤ lo) (b2 : lo ≤ Y.env.locals) (fl : ∀ b ∈ Y.fs, b < lo) (hc : ∀ x c, Y.fn x = true → Y.env.cells.lookup x = some c → lo ≤ c) (hl : lo ≤ s.heap.objs.size) (hown : Y.env.locals ∈ own) : Inv (Cx.reb Y s lo H own) pins σ H s := by
  have hs : (cutS s lo).heap.objs.size = lo := cut_size hl
  refine ⟨⟨I.ok.mod, I.ok.kind, I.ok.glob, I.ok.blt, by show (cutS s lo).heap.objs.size ≤ _; rw [hs]; exact b2, I.ok.inj, I.ok.has, fun x c h1 h2 => by show (cutS s lo).heap.objs.size ≤ _; rw [hs]; exact hc x c h1 h2, I.ok.hd, I.ok.frames, I.ok.stk, fun b hb => (by cases hb), fun b o e => ?_, by show _ ≤ (cutS s lo).heap.objs.size; rw [hs]; exact b1, fun b o e hb => (by cases hb), fun b hb => (by cases hb), cut_funs I.funs fl, fun b hb => ?_⟩,
    rfl, I.bare, ?_, I.loc, I.cell, I.free, I.freeC, fun p hp => ?_, I.hok, I.len⟩
  · obtain ⟨h1, h2⟩ := I.bs b o e
    exact ⟨cut_of (Nat.lt_of_lt_of_le (Heap.lt_size e) b1) h1, h2⟩
  · obtain ⟨_, o, ho, _⟩ := I.ok.funs.mem hb
    exact I.base.free b o ho (I.ok.frf b hb) fun z => I.ok.exfs b z hb
  · exact ⟨fun b o e _ _ _ => (cut_some e).2, fun b o e _ _ _ => ⟨o.slots, (cut_some e).2⟩, fun _ _ _ n _ => n, fun b o e _ => ⟨o, (cut_some e).2⟩, fun _ _ e => e, fun _ _ _ e => e, fun b ps e => ⟨#[], by rw [show H b = _ from e]; simp⟩⟩
  · rcases List.mem_append.mp hp with hp | hp
    · obtain ⟨h1, h2, h3, h4, h5⟩ := of_pnOf hp
      exact ⟨h1, h5, fun z => h4 (by rw [show p.1 = Y.env.locals from z]; exact hown), fun z => absurd (Nat.lt_of_lt_of_le (fl _ z) h2) (Nat.lt_irrefl _), isCell_no h3⟩
    · exact I.pin p (List.mem_append_right _ hp)
theorem un_reb (hk : ∀ b, lo ≤ b → b ∉ own → H b ≠ none → H' b ≠ none) (I : Inv (Cx.reb Y s lo H own) pins σ' H' s') (fl : ∀ b ∈ Y.fs, b < lo) : Un Y.fs (exOf s lo own) H H' s.heap s'.heap := by
  have B := I.base
  have young : ∀ b o, s.heap.get? b = some o → H b = none → b ∉ exOf s lo own → ¬ b < lo → s'.heap.get? b = some o ∧ H' b = none := fun b o e n hx hb => by
    have hL : lo ≤ b := Nat.le_of_not_lt hb
    have hc : isCell o = false := by
      cases q : isCell o with
      | false => rfl
      | true => exact absurd (mem_exOf_cell e hL q) hx
    obtain ⟨h1, h2, _⟩ := I.pin (b, o) (List.mem_append_left _ (mem_pnOf e hL hc (fun z => hx (List.mem_append_left _ z)) n))
    exact ⟨h1, h2⟩
  refine ⟨fun b o e n hf hx => ?_, fun b o e n hf _ => ?_, fun b o e n hx => ?_, fun b o e hx => ?_, B.tups, B.frzs, B.tbls⟩
  · by_cases hb : b < lo
    · exact B.keep b o (cut_of hb e) n hf (fun z => by cases z)
    · exact (young b o e n hx hb).1
  · exact B.slot b o (cut_of (fl b hf) e) n hf (fun z => by cases z)
  · by_cases hb : b < lo
    · exact B.free b o (cut_of hb e) n (fun z => by cases z)
    · exact (young b o e n hx hb).2
  · by_cases hb : b < lo
    · exact B.there b o (cut_of hb e) (fun z => by cases z)
    · cases q : H b with
      | none => exact ⟨o, (young b o e q hx hb).1⟩
      | some u =>
        cases q' : H' b with
        | none => exact absurd q' (hk b (Nat.le_of_not_lt hb) (fun z => hx (List.mem_append_left _ z)) (by rw [q]; exact fun z => nomatch z))
        | some u' => exact objOk_get (I.hok b u' q')
end
/-- the block's context -/
def Cx.gb (X : Cx) (s : Shared) (H : Hp) (scope : Scope) (C : Addr) (pn : List (Addr × Obj)) : Cx := { X.blk s H scope (compEnvC scope [] C X.env) [] with pn := pn }
structure PTsp (X : Cx) (ifs : List Expr) (t : TT) : Prop where
  run : ∀ (pins : List (Addr × Obj)) (s : Shared) (σ : L2.St) (H : Hp) (Q : Bool → Hp → Prop), Inv X pins σ H s → t σ H Q →
    Wp X s (forIn ifs true fun c r => if r = true then do let ok ← isTrue c X.env (eval c X.env); pure (ForInStep.yield ok) else pure (ForInStep.yield r)) (TP X pins σ Q) s
theorem PTsp.up {X : Cx} {ifs : List Expr} {t : TT} (h : PTs X ifs t) : PTsp X ifs t := ⟨fun pins s σ H Q I q => Ssp.up clo_TP (h.run pins _ σ H Q (inv_dead I) q)⟩
section
variable {X : Cx} {k : Nat} {Rw Ry : Hp → Hp → Prop}
def tLcG (Rw Ry : Hp → Hp → Prop) (tg : TGm) (g : TG) (tt : TT) (te : TE) (vs : List Nat) : TE := fun σ H Q => tg σ H fun b H1 => ∀ D, H1 D = none → ∃ W : Beh → Hp → Hp → Prop, W b (upd H1 D (.lst [])) H1 ∧ ∀ b H Hy, W b H Hy → Rw Hy H ∧ b ≠ .stop ∧ (b = .done → ∀ H', Ry H H' → Q (.ref D) H') ∧
  ∀ y b', b = .out y b' → ∀ x H', Ry H H' → y x H' → g x (wipe σ vs) H' fun σ2 H2 => wipe σ2 vs = wipe σ vs ∧ tt σ2 H2 fun bb H3 => if bb = true then te σ2 H3 fun z H4 => ∃ acc, H4 D = some (.lst acc) ∧ acc.length < sizeLine ∧ W b' (upd H4 D (.lst (acc ++ [z]))) H' else W b' H3 H'
theorem pe_lcG {elt tg iter : Expr} {ifs : List Expr} {scope : Scope} {own : List (Str × Nat)} {pos : Pos} {gm : TGm} {g : TG} {tt : TT} {te : TE} (rr : RwRy Rw Ry) (hc : X.calm = true) (hN : X.N.Nodup) (hr : Room (k + 2) X.A) (hi : PGm X k Rw Ry iter gm) (ok : BlkOk X.N X.env.scope scope own) (hloc : ∀ y ∈ scope.names, y.2 ≠ .cell ∧ y.2 ≠ .free)
    (hg : ∀ s H C pn, PG (Cx.gb X s H scope C pn) tg g) (ht : ∀ s H C pn, PTsp (Cx.gb X s H scope C pn) ifs tt) (he : ∀ s H C pn, PEp (Cx.gb X s H scope C pn) elt te)
    (hs : ∀ x, foldedSetIterable iter X.env x = pure x := by intro _; rfl) :
    PEp X (.ListComp elt [⟨tg, iter, ifs, 0⟩] scope pos) (tLcG Rw Ry gm g tt te (own.map (·.2))) := by
  refine ⟨fun pins s σ H Q I h => ?_⟩
  rw [eval_ListComp]
  have hclo : closureFor scope X.env = pure [] := by
    rw [closure_ok fun y hy e => absurd e (hloc y hy).2, cloFrom_none fun y hy => (hloc y hy).2]
  refine wpAny_comprehension_free (use := none) rfl hs hclo ok.kind (fun y hy e => by rw [ok.uniq y hy, e])
    ((hi.run pins s σ H _ I h).then_ fun u s1 ⟨sc, H1, b, I1, c1, G1, q⟩ ca => ?_)
  obtain ⟨a, oa, gn, pv, gl, rfl, ha, ob, C1, I2, c2, kp⟩ := con_made I1 G1 rr.wr c1
  obtain ⟨nm, qn, hgc, hgd, _⟩ := id ob
  refine iter_genP C1.obj hgc ?_
  refine wpAny_newObj_type (newEnv_comp ?_) (by show 0 ≤ sizeLine; decide)
  rw [cellsFrom_none fun y hy => (hloc y hy).1]
  generalize hD : s1.heap.objs.size = D
  have hDn : H1 D = none := I2.hok.fresh (Nat.le_of_eq hD)
  obtain ⟨W, w0, turn⟩ := q D hDn
  generalize hs3 : ({ s1 with heap := s1.heap.push { cls := .type "list", data := .seq ([] : List Value).toArray } } : Shared) = s3
  have I3 : Inv X pins σ (upd H1 D (.lst [])) s3 := by
    rw [← hs3]
    refine I2.laid (t' := s1.toks) (fun b o e => Heap.get?_push_of_some _ e) (Nat.le_of_eq hD) ⟨Nat.zero_le _, [], 0, .nil, ?_⟩
    rw [← hD]
    exact Heap.get?_push_size _ rfl
  have k3 : ∀ b o, s1.heap.get? b = some o → s3.heap.get? b = some o := fun b o e => by rw [← hs3]; exact Heap.get?_push_of_some _ e
  have g3 : s3.gens = s1.gens := by rw [← hs3]
  have I4 := block_start (fp := []) I3 ok hN (fun b hb => by cases hb)
  rw [cloFrom_none (fun y hy => (hloc y hy).2), cellsFrom_none (fun y hy => (hloc y hy).1)] at I4
  show codeAny _ _ (.compStart (.ListComp elt [⟨tg, iter, ifs, 0⟩] scope pos) 0 (.ref a) (.ref D) (compEnvC scope [] s3.heap.objs.size X.env)) (compPost (plus X.prog X.w) X.A (XP X s) none (fun v s' => EP X pins σ Q v s' ∧ Calm s s') (.ref D) s3.heap.objs.size) { s3 with heap := pushCells (s3.heap.push { cls := .type "dict", data := .dict #[] }) scope.names }
  have k4 : ∀ b o, s3.heap.get? b = some o → (pushCells (s3.heap.push { cls := .type "dict", data := .dict #[] }) scope.names).get? b = some o := fun b o e => pushCells_keeps _ _ _ _ (Heap.get?_push_of_some _ e)
  have I34 : Inv X pins σ (upd H1 D (.lst [])) { s3 with heap := pushCells (s3.heap.push { cls := .type "dict", data := .dict #[] }) scope.names } := I3.kept (t' := s3.toks) k4
  generalize hs4 : ({ s3 with heap := pushCells (s3.heap.push { cls := .type "dict", data := .dict #[] }) scope.names } : Shared) = s4 at I4 I34 ⊢
  have k34 : ∀ b o, s3.heap.get? b = some o → s4.heap.get? b = some o := by rw [← hs4]; exact k4
  have g4 : s4.gens = s1.gens := by rw [← hs4]; exact g3
  generalize hH3 : upd H1 D (.lst []) = H3 at I3 I4 I34 w0
  have hC : sc.heap.objs.size ≤ s3.heap.objs.size := Nat.le_trans ha (Nat.le_of_lt (Heap.lt_size (k3 a oa C1.obj)))
  have hC4 : s3.heap.objs.size < s4.heap.objs.size := I4.lt
  have lo1 := conLo_of I1
  have old : ∀ q ∈ X.pn ++ pins, q.1 < sc.heap.objs.size := fun q hq => Heap.lt_size (I1.pin q hq).1
  have J := rebase (lo := sc.heap.objs.size) (own := s3.heap.objs.size :: D :: a :: pv.map (·.1)) I4 (Nat.le_trans I1.ok.bsz I1.sz) hC lo1.fl (fun x c h1 h2 => Nat.le_trans hC (I4.ok.cab x c h1 h2)) (Nat.le_trans hC (Nat.le_of_lt hC4)) List.mem_cons_self
  have CB : Con (Cx.gb X (cutS s4 sc.heap.objs.size) H3 scope s3.heap.objs.size (pnOf s4 H3 sc.heap.objs.size (s3.heap.objs.size :: D :: a :: pv.map (·.1)))) k sc.heap.objs.size Rw Ry s a oa gn [] (wipe σ (own.map (·.2))) b pv gl H1 H3 s4 := by
    have hx : ∀ (p : Addr × Obj), p ∈ (a, oa) :: (pv ++ pins) → p.1 < s3.heap.objs.size ∧ s4.heap.get? p.1 = some p.2 ∧ H1 p.1 = none ∧ ∀ v, p.2.data ≠ .cell v := fun p hp => by
      obtain ⟨h1, h2, _, _, h5⟩ := C1.inv.pin p (List.mem_append_right _ hp)
      exact ⟨Heap.lt_size (k3 _ _ h1), k34 _ _ (k3 _ _ h1), h2, h5⟩
    refine ⟨J.pins_of fun p hp => ?_, fun p hp => ⟨(C1.ap p hp).1, fun z hz => ?_⟩, fun x hx => ⟨by rw [g4]; exact (C1.gls x hx).1, (C1.gls x hx).2⟩, C1.mem, ⟨fun i x e h1 h2 => by rw [g4]; exact C1.gc.kept i x e h1 h2, fun i x e h1 => C1.gc.left i x (by rw [← g4]; exact e) h1, by rw [g4]; exact C1.gc.size⟩, C1.slp, (turn b H3 H1 w0).1⟩
    · have hp' : p ∈ (a, oa) :: (pv ++ pins) := by
        rcases List.mem_cons.mp hp with z | hp
        · rw [z]; exact List.mem_cons_self
        · rw [List.append_nil] at hp; exact List.mem_cons_of_mem _ (List.mem_append_left _ hp)
      have hlo : sc.heap.objs.size ≤ p.1 := by
        rcases List.mem_cons.mp hp with z | hp
        · rw [z]; exact ha
        · rw [List.append_nil] at hp; exact (C1.ap p hp).1
      obtain ⟨h1, h2, h3, h4⟩ := hx p hp'
      refine ⟨h2, ?_, Nat.ne_of_lt h1, fun z => absurd (Nat.lt_of_lt_of_le (lo1.fl _ z) hlo) (Nat.lt_irrefl _), h4⟩
      rw [← hH3, upd_ne (fun z => ?_)]
      · exact h3
      · have := Heap.lt_size (C1.inv.pin p (List.mem_append_right _ hp')).1
        rw [z, hD] at this
        exact absurd this (Nat.lt_irrefl _)
    · rcases List.mem_append.mp hz with hz | hz
      · obtain ⟨_, _, _, h4, _⟩ := of_pnOf hz
        exact fun e => h4 (List.mem_cons_of_mem _ (List.mem_cons_of_mem _ (List.mem_cons_of_mem _ (List.mem_map.mpr ⟨p, hp, e.symm⟩))))
      · rw [List.mem_singleton.mp hz]
        exact (C1.ap p hp).2 (a, oa) (List.mem_append_right _ List.mem_cons_self)
  generalize hpn : pnOf s4 H3 sc.heap.objs.size (s3.heap.objs.size :: D :: a :: pv.map (·.1)) = pn at CB
  have clB : ConLo (Cx.gb X (cutS s4 sc.heap.objs.size) H3 scope s3.heap.objs.size pn) sc.heap.objs.size := ⟨Nat.le_of_eq (cut_size (Nat.le_trans hC (Nat.le_of_lt hC4))), fun x c e => (by cases e), lo1.fl⟩
  have pg := hg (cutS s4 sc.heap.objs.size) H3 s3.heap.objs.size pn
  have pt := ht (cutS s4 sc.heap.objs.size) H3 s3.heap.objs.size pn
  have pe := he (cutS s4 sc.heap.objs.size) H3 s3.heap.objs.size pn
  have xno : ∀ {α : Prop} {s1 s2 : Shared} {e : Value}, XP (Cx.gb X (cutS s4 sc.heap.objs.size) H3 scope s3.heap.objs.size pn) s1 e s2 → α := fun ⟨_, _, _, z, _⟩ => z.elim
  have loop : codeAny (plus X.prog X.w) X.A (.compLoop (.ListComp elt [⟨tg, iter, ifs, 0⟩] scope pos) 0 (.ref a) (.ref D) (compEnvC scope [] s3.heap.objs.size X.env)) (compPost (plus X.prog X.w) X.A (XP X s) none (fun v s' => EP X pins σ Q v s' ∧ Calm s s') (.ref D) s3.heap.objs.size) s4 := by
    refine compLoopP (fun n s' => ∃ b H' Hy pv gl, Beh.len b = n ∧ Con (Cx.gb X (cutS s4 sc.heap.objs.size) H3 scope s3.heap.objs.size pn) k sc.heap.objs.size Rw Ry s a oa gn [] (wipe σ (own.map (·.2))) b pv gl Hy H' s' ∧ W b H' Hy) ?_ b.len ⟨b, H3, H1, pv, gl, rfl, CB, w0⟩
    rintro n s5 ⟨b5, H5, Hy5, pv5, gl5, rfl, C5, w5⟩
    obtain ⟨_, hst, tdone, tout⟩ := turn b5 H5 Hy5 w5
    refine con_next (X := Cx.gb X (cutS s4 sc.heap.objs.size) H3 scope s3.heap.objs.size pn) clB C5 ob I1.ok.frames hr hst (fun y b6 z u s6 v H6 pv6 gl6 rv hy ry C6 hs6 => ?_) (fun z s6 H6 ry I6 c6 => ?_) rr.wr
    · cases z
      refine go_of C6.obj hgc hgd (by decide) ?_
      have done : ∀ {σ8 : L2.St} {H8 : Hp} {s8 : Shared}, Inv (Cx.gb X (cutS s4 sc.heap.objs.size) H3 scope s3.heap.objs.size pn) ((a, oa) :: (pv6 ++ [])) σ8 H8 s8 → wipe σ8 (own.map (·.2)) = wipe σ (own.map (·.2)) → Calm s6 s8 → W b6 H8 H6 →
          ∃ m, m < Beh.len (.out y b6) ∧ ∃ b H' Hy pv gl, Beh.len b = m ∧ Con (Cx.gb X (cutS s4 sc.heap.objs.size) H3 scope s3.heap.objs.size pn) k sc.heap.objs.size Rw Ry s a oa gn [] (wipe σ (own.map (·.2))) b pv gl Hy H' s8 ∧ W b H' Hy := fun {σ8 H8 s8} I8 hw c8 w8 => by
        have hl : (wipe σ (own.map (·.2))).length = σ8.length := by rw [← hw, wipe_length]
        refine ⟨b6.len, Nat.lt_succ_self _, b6, H8, H6, pv6, gl6, rfl, C6.step hs6 (I8.weak hl fun j v e => ?_) c8 (turn b6 H8 H6 w8).1, w8⟩
        rw [← hw] at e
        exact (wipe_some e).1
      refine wpAny_mono ((PGp.up pg).run _ s6 _ H6 v u _ C6.inv rv (tout y b6 rfl v H6 ry hy)) (fun _ s8 ⟨⟨σ8, H8, I8, hw8, q8⟩, c8⟩ => ?_) fun _ _ z => xno z
      refine wpAny_mono (pt.run _ s8 σ8 H8 _ I8 q8) (fun bb s9 ⟨⟨H9, I9, q9⟩, c9⟩ => ?_) fun _ _ z => xno z
      cases bb with
      | false =>
        rw [if_neg Bool.false_ne_true] at q9 ⊢
        exact done I9 hw8 (c8.trans c9) q9
      | true =>
        rw [if_pos rfl] at q9 ⊢
        refine wpAny_mono (pe.run _ s9 σ8 H9 _ I9 q9) (fun zv s10 ⟨⟨yv, H10, I10, r10, acc, hD10, hz10, nx⟩, c10⟩ => ?_) fun _ _ z => xno z
        refine wpAny_mono (Ssp.up (X := Cx.gb X (cutS s4 sc.heap.objs.size) H3 scope s3.heap.objs.size pn) (R := fun _ s' => Inv (Cx.gb X (cutS s4 sc.heap.objs.size) H3 scope s3.heap.objs.size pn) ((a, oa) :: (pv6 ++ [])) σ8 (upd H10 D (.lst (acc ++ [yv]))) s') (fun _ _ _ z hb => inv_gens z (hb z.bare)) (app_ok (inv_dead I10) hD10 hz10 r10 fun s11 I11 => I11)) (fun _ s11 ⟨I11, c11⟩ => done I11 hw8 (c8.trans (c9.trans (c10.trans c11))) nx) fun _ _ z => xno z
    · have nC : H6 s3.heap.objs.size = none := I6.free
      obtain ⟨m, hn, _⟩ := id I6.loc
      have hn : s6.heap.Ns s3.heap.objs.size m := hn
      have hD1 : sc.heap.objs.size ≤ D := by rw [← hD]; exact Nat.le_trans ha (Nat.le_of_lt (Heap.lt_size C1.obj))
      have I7 : Inv X pins σ H6 s6 := by
        rw [← hpn] at I6
        have I6' : Inv (Cx.reb (X.blk s3 H3 scope (compEnvC scope [] s3.heap.objs.size X.env) []) s4 sc.heap.objs.size H3 (s3.heap.objs.size :: D :: a :: pv.map (·.1))) [(a, oa)] (wipe σ (own.map (·.2))) H6 s6 := I6
        have U := un_reb (fun b hb hn hh => by
          rw [← hH3] at hh
          by_cases hbD : b = D
          · exact absurd (by rw [hbD]; exact List.mem_cons_of_mem _ List.mem_cons_self) hn
          · rw [upd_ne hbD] at hh
            exact absurd (I1.hok.fresh hb) hh) I6' lo1.fl
        refine I34.call' (ch := exOf s4 sc.heap.objs.size (s3.heap.objs.size :: D :: a :: pv.map (·.1))) I6.os U I6.hok I6.bare fun b hb => ?_
        have hlo : sc.heap.objs.size ≤ b := by
          rcases of_exOf hb with hb | ⟨hb, _⟩
          · rcases List.mem_cons.mp hb with z | hb
            · rw [z]; exact hC
            · rcases List.mem_cons.mp hb with z | hb
              · rw [z]; exact hD1
              · rcases List.mem_cons.mp hb with z | hb
                · rw [z]; exact ha
                · obtain ⟨p, hp, rfl⟩ := List.mem_map.mp hb
                  exact (C1.ap p hp).1
          · exact hb
        exact ⟨.inr (Nat.le_trans lo1.s0 hlo), Nat.ne_of_gt (Nat.lt_of_lt_of_le I1.lt hlo), fun x c e z => absurd (Nat.lt_of_lt_of_le (lo1.cl x c e) hlo) (by rw [z]; exact Nat.lt_irrefl _), fun p hp => Nat.ne_of_lt (Nat.lt_of_lt_of_le (old p hp) hlo)⟩
      refine ⟨m, hn, fun h'' sb => ⟨?_, ⟨c6.kept, c6.left, c6.size⟩⟩⟩
      obtain ⟨f0, f1, f2, f3, f4, f5⟩ := I3.fpOk (Nat.le_refl _) nC
      exact ⟨.ref D, H6, I7.turned (t' := s6.toks) (fun b o hb e => (sb.2 b hb).trans e) f0 f1 f3 f4 f5, rfl, tdone z H6 ry⟩
  exact compStartP loop (iter_genP CB.obj hgc loop)
end
end Ssp

/-! Calls on the second machine, by what defs promise. -/
namespace Ssp
open PySem PySem.Spec PyProof.Rows Ssg L2 Ssb
open Sem (wp)
section
variable {X : Cx} {nm x : Str} {k j : Nat} {ps : List Str} {sp : Sp} {f C : Addr} {fd : FuncData} {p pos apos : Pos} {e o : Expr} {es : List Expr} {t : TA} {ta : TE} {pl : Sem Bool} {id : String} {r : List V → Hp → VK → Prop}
/-- a good def on arguments that may be told on the second machine alone -/
theorem pclG (G : Fn X.prog X.w X.K X.mg X.base nm k ps sp f fd) (hr : Room j X.A) (ha : PAp X (e :: es) t) (hj : k ≤ j := by first | decide | omega) (hg : Gl X nm := by rfl) (hdb : (nm == ("__debug__" : Str)) = false := by decide)
    (he : starEach (e :: es) X.env = (false, eval e X.env) :: starEach es X.env := by rfl) (hpl : (backTo pos (starEach es X.env)).any (·.1) = false := by rfl) : PEp X (.Call (.Name nm p) (e :: es) [] pos) (tCall sp [] E0 t) :=
  pe_callP (callG G.ok (hr.mono hj) G.bd .nil pass0) hg G.at_ G.kp ha hdb he hpl
/-- a def told on the second machine -/
structure FnQ (P : Program) (w : World) (K : PySem.W.Frag) (mg : Str → Option Value) (base : Heap) (nm : Str) (k : Nat) (ps : List Str) (sp : Sp) (f : Addr) (fd : FuncData) : Prop where
  ok : FnP P w K mg base CX0 k f fd ps sp
  at_ : mg nm = some (.ref f)
  kp : PySem.W.keepIn K (.ref f) = true
  bd : Binds K fd ps []
structure MtQ (P : Program) (w : World) (K : PySem.W.Frag) (mg : Str → Option Value) (base : Heap) (C : Addr) (nm : Str) (k : Nat) (ps : List Str) (sp : Sp) (f : Addr) (fd : FuncData) : Prop where
  ok : FnP P w K mg base CX0 k f fd ps sp
  mt : Meth K C nm f
  bd : Binds K fd ps []
theorem pclQ (G : FnQ X.prog X.w X.K X.mg X.base nm k ps sp f fd) (hr : Room j X.A) (ha : PAp X (e :: es) t) (hj : k ≤ j := by first | decide | omega) (hg : Gl X nm := by rfl) (hdb : (nm == ("__debug__" : Str)) = false := by decide)
    (he : starEach (e :: es) X.env = (false, eval e X.env) :: starEach es X.env := by rfl) (hpl : (backTo pos (starEach es X.env)).any (·.1) = false := by rfl) : PEp X (.Call (.Name nm p) (e :: es) [] pos) (tCall sp [] E0 t) :=
  pe_callP (callP G.ok (hr.mono hj) G.bd .nil pass0P) hg G.at_ G.kp ha hdb he hpl
theorem pmtQ0 (ho : PEp X o ta) (c : Cls X.K C) (G : MtQ X.prog X.w X.K X.mg X.base C nm k ps sp f fd) (hr : Room j X.A) (hj : k ≤ j := by first | decide | omega)
    (ht : eval (.Call (.Attribute o nm apos) [] [] pos) X.env = (do
      let ov ← eval o X.env
      standAt apos.atName
      let (f, first) ← holding [ov] (getMethod ov nm pl)
      callWith pos f first (backTo pos (starEach [] X.env)) (backToKw pos (keywordEach [] X.env))) := by rfl) : PEp X (.Call (.Attribute o nm apos) [] [] pos) (tMeth C nm sp [] E0 ta tNil) :=
  pe_meth0P ho c G.mt (callP G.ok (hr.mono hj) G.bd .nil pass0P) ht
/-- a built-in function -/
theorem pe_callBP (hc : CallR X (.builtin id) r) (hg : Gl X x) (hm : X.mg x = none) (hv : bootBuiltins x = some (.builtin id)) (ha : PAp X (e :: es) t) (hn : x ≠ "__name__" := by decide) (hdb : (x == ("__debug__" : Str)) = false := by decide)
    (he : starEach (e :: es) X.env = (false, eval e X.env) :: starEach es X.env := by rfl) (hpl : (backTo pos (starEach es X.env)).any (·.1) = false := by rfl) : PEp X (.Call (.Name x p) (e :: es) [] pos) (tCB r t) := ⟨fun pins s σ H Q I h => by
  refine wpAny_Call_Name_kw (ld_bltP I hg hm hv ?_ hn hdb)
  exact PyProof.Rows.callWith_builtin1 ((ha.run pos pins s σ H _ I h).then_ fun us s1 ⟨vs, H1, I1, r1, q1⟩ c => Wp.from_ c (Ssp.up clo_EP (hc pins _ σ H1 vs us Q (inv_dead I1) r1 q1))) he hpl⟩
/-- a generator method, by its promise -/
structure GMt (P : Program) (w : World) (K : PySem.W.Frag) (mg : Str → Option Value) (base : Heap) (C : Addr) (nm : Str) (k : Nat) (ps : List Str) (Rw Ry : Hp → Hp → Prop) (sp : List V → Hp → Beh → Prop) (f : Addr) (fd : FuncData) : Prop where
  ok : GFnP P w K mg base k f fd ps Rw Ry sp
  mt : Meth K C nm f
  bd : Binds K fd ps []
theorem pgm0 {Rw Ry : Hp → Hp → Prop} {sp : List V → Hp → Beh → Prop} (ho : PEp X o ta) (c : Cls X.K C) (G : GMt X.prog X.w X.K X.mg X.base C nm k ps Rw Ry sp f fd) (hr : Room j X.A) (hj : k + 1 ≤ j := by first | decide | omega)
    (ht : eval (.Call (.Attribute o nm apos) [] [] pos) X.env = (do
      let ov ← eval o X.env
      standAt apos.atName
      let (f, first) ← holding [ov] (getMethod ov nm pl)
      callWith pos f first (backTo pos (starEach [] X.env)) (backToKw pos (keywordEach [] X.env))) := by rfl) : PGm X k Rw Ry (.Call (.Attribute o nm apos) [] [] pos) (tMethM C nm sp [] ta tNil) :=
  pgm_meth0 ho c G.mt G.ok (hr.mono hj) G.bd .nil ht
end
/-- values one after another -/
def behL : List V → Beh
  | [] => .done
  | x :: xs => .out (fun v _ => v = x) (behL xs)
theorem behL_app : ∀ (xs ys : List V), behL (xs ++ ys) = (behL xs).app (behL ys)
  | [], _ => rfl
  | x :: xs, ys => congrArg (Beh.out fun v _ => v = x) (behL_app xs ys)
theorem behL_go : ∀ {xs : List V}, behL xs ≠ .stop
  | [], h => by cases h
  | _ :: _, h => by cases h
theorem behL_done {xs : List V} (h : behL xs = .done) : xs = [] := by
  cases xs with
  | nil => rfl
  | cons => cases h
theorem behL_out {xs : List V} {y : V → Hp → Prop} {b : Beh} (h : behL xs = .out y b) : ∃ x zs, xs = x :: zs ∧ y = (fun v _ => v = x) ∧ b = behL zs := by
  cases xs with
  | nil => cases h
  | cons x zs => cases h; exact ⟨x, zs, rfl, rfl, rfl⟩
end Ssp

/-! for over a generator, for over the kit's iterators: in defs told on the second machine. -/
namespace Ssp
open PySem PySem.Spec PyProof.Rows Ssg L2 Ssb
open Sem (wp)
theorem wp_false {M : Model} {Γ : PySem.Ctx} {α : Type} (m : Sem α) : ∀ {p : Pos} {s : Shared}, wp M Γ m (fun _ _ _ => False) (fun _ _ _ => False) p s → False := by
  induction m with
  | pure a => exact fun h => h
  | raise x => exact fun h => h
  | unsupported | finish | register | yield | fork | await => exact fun h => h.elim
  | rule _ k ih | «at» _ k ih | loadIfAlive _ k ih | point _ k ih | ask k ih | handled _ k ih | stack k ih | thread k ih => exact fun h => ih _ h
  | alloc o k ih => exact fun h => ih _ h
  | fresh k ih => exact fun h => ih _ h
  | newGen c k ih => exact fun h => ih _ h
  | os q l k ih => exact fun h => ih _ h
  | load a _ k ih => exact fun ⟨o, ho, h⟩ => ih _ h
  | update a _ f k ih => exact fun ⟨ha, h⟩ => ih _ h
  | choose _ _ k ih => exact fun ⟨ha, h⟩ => ih _ h
  | genState g k ih => exact fun ⟨st, hg, h⟩ => ih _ h
  | call c h g l k ih => exact fun ⟨r, s', hr, hw⟩ => ih r hw
  | resume g r l k ih => exact fun ⟨r', s', hr, hw⟩ => ih r' hw
/-- no exception leaves -/
def NoX (X : Cx) : Prop := ∀ e s', X.xe e s' → ∀ Γ : PySem.Ctx, Γ.In X.A → False
theorem noX_cx0 {P : Program} {w : World} {K : PySem.W.Frag} {mg : Str → Option Value} {base : Heap} {N : List Str} {qual : Str} {scope : Scope} {f : Addr} {cd : Value} {A : Around} {outer : List Env} {s : Shared} {H : Hp} {E : XK} : NoX (cxOf CX0 P w K mg base N qual scope f cd A outer s H E) := fun e s' h Γ hΓ =>
  wp_false _ (h Γ ⟨0, 0, 0, 0⟩ hΓ)
theorem wp_noX {X : Cx} {M : Model} {α : Type} {m : Sem α} {Q : α → Shared → Prop} {E' : Value → Shared → Prop} {s0 s : Shared} (hn : NoX X) (h : wpAny M X.A m Q (XP X s0) s) : wpAny M X.A m Q E' s := fun Γ p hΓ =>
  Sem.wp_mono M Γ m (fun _ _ _ q => q) (fun e _ s' ⟨s2, _, _, hx, _⟩ => (hn e s2 hx Γ hΓ).elim) p s (h Γ p hΓ)
section
variable {P : Program} {w : World} {A : Around} {s : Shared} {R : Result → Shared → Prop}
/-- a for's code -/
theorem code_forP {tg : Expr} {it : Value} {body : List Stmt} {env : Env} (I : Nat → Shared → Prop)
    (turn : ∀ n s, I n s → wpAny (plus P w) A (forNext tg it) (fun r s1 => match r with
      | none => R (.ok .next) s1
      | some v => wpAny (plus P w) A (assign tg env v) (fun _ s2 => wpAny (plus P w) A (execs body env) (fun f s3 => match f with
          | .next | .cont => ∃ m, m < n ∧ I m s3
          | .brk => R (.ok .next) s3
          | .ret v => R (.ok (.ret v)) s3) (notedBy (plus P w) A env fun e s' => R (.error e) s') s2) (notedBy (plus P w) A env fun e s' => R (.error e) s') s1) (notedBy (plus P w) A env fun e s' => R (.error e) s') s)
    (n : Nat) (h : I n s) : codeAny (plus P w) A (.forLoop tg it body [] env) R s := by
  refine codeAny_loop' rfl I (fun n s hI => ?_) n h
  rw [plus_den, mk_id rfl]
  show wpAny _ A ((forTurn tg it body [] env).onRaise (fun x => do noteFrame x env; theTreesLotGoes x)) _ _ s
  refine wpAny_noted ?_
  rw [forTurn_eq]
  refine wpAny_bind (wpAny_standAt (wpAny_bind (wpAny_mono (turn n s hI) (fun r s₁ h₁ => ?_) fun _ _ h' => h')))
  cases r with
  | none =>
    refine wpAny_pure (.inr ⟨rfl, codeP ?_⟩)
    show wpAny _ _ (do return Fin.done (← (execs [] env).onRaise (fun x => do noteFrame x env; theTreesLotGoes x))) _ _ s₁
    exact wpAny_bind (wpAny_onRaise (wpAny_execs_nil (wpAny_pure h₁)))
  | some v =>
    refine wpAny_bind (wpAny_mono h₁ (fun _ s₂ h₂ => wpAny_bind (wpAny_mono h₂ (fun f s₃ h₃ => ?_) fun _ _ h' => h')) fun _ _ h' => h')
    cases f with
    | next => exact wpAny_pure (.inl ⟨rfl, h₃⟩)
    | cont => exact wpAny_pure (.inl ⟨rfl, h₃⟩)
    | brk => exact wpAny_pure h₃
    | ret v => exact wpAny_pure h₃
end
section
variable {X : Cx} {tg iter : Expr} {body : List Stmt} {pos : Pos}
/-- over the kit's iterators -/
theorem ps_forP {wi : TI} {g : TG} {tb : TS} (hn : NoX X) (hc : X.calm = true) (hi : PI X tg iter wi) (hg : PG X tg g) (hb : PSsp X body tb) (hs : ∀ x, foldedSetIterable iter X.env x = pure x := by intro _; rfl) : PSp X (.For tg iter body [] pos) (tFor wi g tb) := ⟨fun pins s σ H D I h => by
  show wpAny _ _ _ _ _ _
  rw [exec_ForI]
  refine wpAny_bind (wpAny_standAt (wpAny_bind ((for_iterP hi hs I h).then_ fun itv s2 ⟨it, fp, tn, J, H2, e, I2, T, st2, f2, W, ⟨m0, w0⟩, turn⟩ c2 => ?_)))
  subst e
  have stat : ∀ {H' : Hp}, (∀ b ∈ fp, H' b = none) → ∀ b ∈ fp, FpOk X pins H' b := fun hn b hb => ⟨hn b hb, (f2 b hb).2⟩
  refine wpAny_runOwn (code_forP (fun n s' => ∃ i σ' H', Inv X pins σ' H' s' ∧ tn i s'.heap ∧ (∀ b ∈ fp, H' b = none) ∧ W i n σ' H' ∧ Calm s s') ?_ m0 ⟨0, σ, H2, I2, st2, fun b hb => (f2 b hb).1, w0, c2⟩)
  rintro n s3 ⟨i, σ3, H3, I3, st3, fr3, w3, c3⟩
  rcases turn i n σ3 H3 w3 with ⟨stop, qn⟩ | ⟨go, N, hN, step⟩
  · refine wp_noX hn ((for_doneP T hc I3 (stat fr3) st3 stop).then_ fun r s4 ⟨hr, I4⟩ c4 => ?_)
    subst hr
    exact ⟨⟨σ3, H3, I4, qn⟩, c3.trans c4⟩
  · refine wp_noX hn ((for_nextP T hc I3 (stat fr3) st3 go).then_ fun r s5 hnx c5 => ?_)
    cases r with
    | none => exact hnx.elim
    | some u =>
      obtain ⟨x, H5, I5, r5, y5, st5, fr5⟩ := hnx
      have I5' := I5.pinned (stat fr5) (T.obj _ _ st5)
      refine wp_noX hn (((PGp.up hg).run _ s5 σ3 H5 x u _ I5' r5 (step x H5 y5)).then_ fun _ s6 ⟨σ6, H6, I6, q6⟩ c6 => ?_)
      refine wp_noX hn ((hb.run _ s6 σ6 H6 _ I6 q6).then_ fun f s7 q7 c7 => ?_)
      have cc := ((c3.trans c5).trans c6).trans c7
      have again : ∀ {σ7 : L2.St} {H7 : Hp}, Inv X (pins ++ pinsAt fp s5.heap) σ7 H7 s7 → N σ7 H7 → ∃ m, m < n ∧ ∃ i σ' H', Inv X pins σ' H' s7 ∧ tn i s7.heap ∧ (∀ b ∈ fp, H' b = none) ∧ W i m σ' H' ∧ Calm s s7 := fun {σ7 H7} I7 n7 => by
        obtain ⟨m', hm, w7⟩ := hN σ7 H7 n7
        refine ⟨m', hm, i + 1, σ7, H7, I7.unpinned, T.keep _ _ _ st5 fun b hb o e => (I7.pin (b, o) (List.mem_append_right _ (List.mem_append_right _ (mem_pinsAt hb e)))).1, fun b hb => ?_, w7, cc⟩
        obtain ⟨o, e, d⟩ := T.obj _ _ st5 b hb
        exact (I7.pin (b, o) (List.mem_append_right _ (List.mem_append_right _ (mem_pinsAt hb e)))).2.1
      cases f with
      | next => obtain ⟨σ7, H7, I7, n7⟩ := q7; exact again I7 n7
      | cont => obtain ⟨σ7, H7, I7, n7⟩ := q7; exact again I7 n7
      | brk => obtain ⟨σ7, H7, I7, q7⟩ := q7; exact ⟨⟨σ7, H7, I7.unpinned, q7⟩, cc⟩
      | ret v => obtain ⟨x7, σ7, H7, I7, r7, q7⟩ := q7; exact ⟨⟨x7, σ7, H7, I7.unpinned, r7, q7⟩, cc⟩⟩
/-- over a generator, to its end -/
def tForM (Rw Ry : Hp → Hp → Prop) (gm : TGm) (gt : TG) (tb : TS) : TS := fun D σ H => gm σ H fun b H1 => ∃ W : Beh → L2.St → Hp → Hp → Prop, W b σ H1 H1 ∧ ∀ b σ H Hy, W b σ H Hy → Rw Hy H ∧ b ≠ .stop ∧ (b = .done → ∀ H', Ry H H' → D.nx σ H') ∧
  ∀ y b', b = .out y b' → ∀ x H', Ry H H' → y x H' → gt x σ H' fun σ2 H2 => tb { nx := fun σ3 H3 => W b' σ3 H3 H', rt := fun _ _ => False, bk := fun _ _ => False, ct := fun σ3 H3 => W b' σ3 H3 H' } σ2 H2
theorem ps_forM {k : Nat} {Rw Ry : Hp → Hp → Prop} {gm : TGm} {gt : TG} {tb : TS} (rr : RwRy Rw Ry) (hn : NoX X) (hr : Room (k + 2) X.A) (hi : PGm X k Rw Ry iter gm) (hg : PG X tg gt) (hb : PSsp X body tb) (hs : ∀ x, foldedSetIterable iter X.env x = pure x := by intro _; rfl) :
    PSp X (.For tg iter body [] pos) (tForM Rw Ry gm gt tb) := ⟨fun pins s σ H D I h => by
  show wpAny _ _ _ _ _ _
  rw [exec_ForI]
  unfold forIter
  refine wpAny_bind (wpAny_standAt (wpAny_bind (wpAny_bind ((hi.run pins s σ H _ I h).then_ fun u s1 ⟨sc, H1, b, I1, c1, G1, W, w0, turn⟩ ca => ?_))))
  obtain ⟨a, oa, gn, pv, gl, rfl, ha, ob, C1, I2, c2, kp⟩ := con_made I1 G1 rr.wr c1
  obtain ⟨nm, qn, hgc, hgd, _⟩ := id ob
  refine wpAny_bind (wpAny_of_eq (hs _) (wpAny_bind (wpAny_standAt (wpAny_holding (iter_genP C1.obj hgc ?_)))))
  have cl := conLo_of I1
  refine wpAny_runOwn (code_forP (fun n s' => ∃ b σ' H' Hy pv gl, Beh.len b = n ∧ Con X k sc.heap.objs.size Rw Ry s a oa gn pins σ' b pv gl Hy H' s' ∧ W b σ' H' Hy) ?_ b.len ⟨b, σ, H1, H1, pv, gl, rfl, C1, w0⟩)
  rintro n s3 ⟨b3, σ3, H3, Hy3, pv3, gl3, rfl, C3, w3⟩
  obtain ⟨_, hst, tdone, tout⟩ := turn b3 σ3 H3 Hy3 w3
  refine wpAny_bind (wpAny_onRaise (con_next cl C3 ob I1.ok.frames hr hst (fun y b6 z u s6 v H6 pv6 gl6 rv hy ry C6 hs6 => ?_) (fun z s6 H6 ry I6 c6 => ?_) rr.wr))
  · cases z
    refine wpAny_bind (go_of C6.obj hgc hgd (by decide) (wpAny_pure ?_))
    refine wp_noX hn (((PGp.up hg).run _ s6 σ3 H6 v u _ C6.inv rv (tout y b6 rfl v H6 ry hy)).then_ fun _ s8 ⟨σ8, H8, I8, q8⟩ c8 => ?_)
    refine wp_noX hn ((hb.run _ s8 σ8 H8 _ I8 q8).then_ fun f s9 q9 c9 => ?_)
    have done : ∀ {σ9 : L2.St} {H9 : Hp}, Inv X ((a, oa) :: (pv6 ++ pins)) σ9 H9 s9 → W b6 σ9 H9 H6 → ∃ m, m < Beh.len (.out y b6) ∧ ∃ b σ' H' Hy pv gl, Beh.len b = m ∧ Con X k sc.heap.objs.size Rw Ry s a oa gn pins σ' b pv gl Hy H' s9 ∧ W b σ' H' Hy := fun {σ9 H9} I9 w9 =>
      ⟨b6.len, Nat.lt_succ_self _, b6, σ9, H9, H6, pv6, gl6, rfl, C6.step hs6 I9 (c8.trans c9) (turn b6 σ9 H9 H6 w9).1, w9⟩
    cases f with
    | next => obtain ⟨σ9, H9, I9, w9⟩ := q9; exact done I9 w9
    | cont => obtain ⟨σ9, H9, I9, w9⟩ := q9; exact done I9 w9
    | brk => obtain ⟨_, _, _, w9⟩ := q9; exact w9.elim
    | ret v => obtain ⟨_, _, _, _, _, w9⟩ := q9; exact w9.elim
  · exact wpAny_pure ⟨⟨σ3, H6, I6.pins_of fun p hp => I6.pin p (List.mem_append_right _ (List.mem_cons_of_mem _ hp)), tdone z H6 ry⟩, c6⟩⟩
end
end Ssp

/-! Lifting within what has been lifted; list comprehensions on the second machine. -/
namespace Ssp
open PySem PySem.Spec PyProof.Rows Ssg L2 Ssb
open Sem (wp)
/-- lifting goes on -/
theorem lift_swap {P : Program} {w : World} {A : Around} {α : Type} {m : Sem α} {Q : α → Shared → Prop} {E : Value → Shared → Prop} {s s1 s2 : Shared} (z : SwapP s s1 s2) (h : wpAny (model P w) A m Q E s2) :
    wpAny (plus P w) A m (fun a t1 => ∃ t2, Q a t2 ∧ SwapP s t1 t2) (fun x t1 => ∃ t2, E x t2 ∧ SwapP s t1 t2) s1 := by
  intro Γ p hΓ
  have l := lift_wp (G0 := s.gens) m (GenW.wp_gsz (model P w) Γ s2.gens.size _ _ _ p s2 (Nat.le_refl _) (h Γ p hΓ)) s1.gens z.sim
  rw [← z.eq] at l
  have key : ∀ {R : Shared → Prop} {t1 : Shared}, BackP s.gens (fun t2 => s2.gens.size ≤ t2.gens.size ∧ R t2) t1 → ∃ t2, R t2 ∧ SwapP s t1 t2 := fun {R t1} ⟨t2, ⟨sz, q⟩, hS, e⟩ =>
    ⟨t2, q, e, hS.calm (Nat.le_trans z.calm.size (by rw [z.sim.sz]; exact sz)), hS.bare, hS⟩
  exact Sem.wp_mono _ _ _ (fun _ _ _ h => key h) (fun _ _ _ h => key h) _ _ l
theorem xp_swap {X : Cx} {s s1 s2 : Shared} {e : Value} (h : X.xe e s2) (z : SwapP s s1 s2) : XP X s e s1 := ⟨s2, s, Calm.refl s, h, z⟩
/-- an exception that passes a loop on the first machine passes it on the second -/
theorem passes_xp {X : Cx} {s0 : Shared} (hp : PassesOwn (model X.prog X.w) X.A X.env X.xe) : PassesOwn (plus X.prog X.w) X.A X.env (XP X s0) := fun e s' ⟨s2, sc, c, hx, z⟩ => by
  have h := hp e s2 hx
  unfold notedBy cameBackBy at h ⊢
  refine wpAny_mono (lift_swap z h) (fun _ t1 ⟨t2, q, z2⟩ => ?_) fun x t1 ⟨t2, q, z2⟩ => ?_
  · exact wpAny_mono (lift_swap z2 q) (fun _ u1 ⟨u2, q, z3⟩ => ⟨u2, sc, c, q, z3⟩) fun x u1 ⟨u2, q, z3⟩ => ⟨u2, sc, c, q, z3⟩
  · exact wpAny_mono (lift_swap z2 q) (fun _ u1 ⟨u2, q, z3⟩ => ⟨u2, sc, c, q, z3⟩) fun x u1 ⟨u2, q, z3⟩ => ⟨u2, sc, c, q, z3⟩
/-- an iterator that comes -/
structure PIp (X : Cx) (tg iter : Expr) (wi : TI) : Prop where
  run : ∀ (pins : List (Addr × Obj)) (s : Shared) (σ : L2.St) (H : Hp) (R : It → Hp → Prop), Inv X pins σ H s → wi σ H R →
    wpAny (plus X.prog X.w) X.A (eval iter X.env) (fun v s1 => wpAny (plus X.prog X.w) X.A (pyIter v) (fun it s2 => PIE X pins σ tg R it s2 ∧ Calm s s2) (XP X s) s1) (XP X s) s
theorem clo_PIE {X : Cx} {pins : List (Addr × Obj)} {σ : L2.St} {tg : Expr} {R : It → Hp → Prop} : Clo (PIE X pins σ tg R) := fun _ _ _ ⟨it, fp, tn, J, H', e, I, T, t, f, r⟩ hg => ⟨it, fp, tn, J, H', e, inv_gens I (hg I.bare), T, t, f, r⟩
section
variable {X : Cx} {tg l iter : Expr} {tl : TE} {wi : TI}
theorem PIp.up (h : PI X tg iter wi) : PIp X tg iter wi := ⟨fun pins s σ H R I q =>
  wpAny_mono (lift_wpAny (h.run pins _ σ H R (inv_dead I) q)) (fun v s1 ⟨s2, r, z⟩ => wpAny_mono (lift_swap z r) (fun it t1 ⟨t2, q, z2⟩ => ⟨by rw [z2.eq]; exact clo_PIE _ _ _ q z2.bare, z2.calm⟩) fun e t1 ⟨t2, q, z2⟩ => xp_swap q z2) fun e t1 ⟨t2, q, z2⟩ => xp_swap q z2⟩
theorem pi_listP (hl : PEp X l tl) : PIp X tg l (iList X.K tl) := ⟨fun pins s σ H R I h => (hl.run pins s σ H _ I h).then_ fun v s1 ⟨x, H1, I1, r1, a, e, ⟨xs, hq⟩, q⟩ c => by
  subst e
  cases r1
  refine Wp.from_ c (Ssp.up clo_PIE ?_)
  have I2 := inv_dead I1
  obtain ⟨its, rv, p, hz⟩ := I2.list hq
  refine wpAny_pyIter_list p.isList ?_
  refine ⟨s1.heap.objs.size, [s1.heap.objs.size], _, _, H1, rfl, I2.kept (t' := s1.toks) fun b o e => Heap.get?_push_of_some _ e, turn_list a _, ⟨_, Heap.get?_push_size _ rfl, rfl, rfl⟩, fun b hb => ?_, q⟩
  have e : b = s1.heap.objs.size := by simpa using hb
  subst e
  exact I1.fpOk (Nat.le_refl _) (I1.hok.fresh (Nat.le_refl _))⟩
theorem pi_tupP (hl : PEp X l tl) : PIp X tg l (iTup X.K tl) := ⟨fun pins s σ H R I h => (hl.run pins s σ H _ I h).then_ fun v s1 ⟨x, H1, I1, r1, a, e, ⟨xs, hq⟩, q⟩ c => by
  subst e
  cases r1
  refine Wp.from_ c (Ssp.up clo_PIE ?_)
  have I2 := inv_dead I1
  obtain ⟨its, rv, p, hz⟩ := I2.tuple hq
  refine wpAny_pyIter_tuple (show ({ s1 with gens := s1.gens.map dead } : Shared).heap.IsTuple a its.toArray from p) ?_
  refine ⟨s1.heap.objs.size, [s1.heap.objs.size], _, _, H1, rfl, I2.kept (t' := s1.toks) fun b o e => Heap.get?_push_of_some _ e, turn_tuple a _, ⟨_, Heap.get?_push_size _ rfl, rfl, rfl⟩, fun b hb => ?_, q⟩
  have e : b = s1.heap.objs.size := by simpa using hb
  subst e
  exact I1.fpOk (Nat.le_refl _) (I1.hok.fresh (Nat.le_refl _))⟩
end
end Ssp

/-! List comprehensions with one or two fors, the second over a generator, on the second machine. -/
namespace Ssp
open PySem PySem.Spec PyProof.Rows Ssg L2 Ssb
open Sem (wp)
/-- a clause's tests -/
abbrev testsIn (ifs : List Expr) (env : Env) : Sem Bool := forIn ifs true fun c r => if r = true then do let ok ← isTrue c env (eval c env); pure (ForInStep.yield ok) else pure (ForInStep.yield r)
section
variable {X : Cx} {tg : Expr} {pins : List (Addr × Obj)} {σ : L2.St} {H : Hp} {s : Shared} {it : Addr} {fp : List Addr} {tn : Nat → Heap → Prop} {J : It} {i : Nat}
/-- an item of the kit's iterators, in two steps -/
theorem comp_nextP (T : Turn X.prog X.w X.K tg J fp it tn) (hc : X.calm = true) (I : Inv X pins σ H s) (hf : ∀ b ∈ fp, FpOk X pins H b) (ht : tn i s.heap) (go : J.go i H) : wpAny (plus X.prog X.w) X.A (pyNext (.ref it)) (fun r s1 => ∃ u, r = some u ∧
    wpAny (plus X.prog X.w) X.A (letOwnedTupleGo tg (.ref it) u) (fun _ s2 => (∃ x H', Inv X pins σ H' s2 ∧ RelV x u ∧ J.yld i H x H' ∧ tn (i + 1) s2.heap ∧ ∀ b ∈ fp, H' b = none) ∧ Calm s s2) (XP X s) s1) (XP X s) s :=
  wpAny_mono (lift_wpAny (T.item X rfl rfl rfl hc i pins _ σ H X.xe (inv_dead I) hf ht go)) (fun r s1 ⟨s2, ⟨u, hr, q⟩, z⟩ => ⟨u, hr, wpAny_mono (lift_swap z q) (fun _ t1 ⟨t2, ⟨x, H', I', a, b, c, d⟩, z2⟩ => ⟨⟨x, H', by rw [z2.eq]; exact inv_gens I' (z2.bare I'.bare), a, b, by rw [z2.eq]; exact c, d⟩, z2.calm⟩) fun e t1 ⟨t2, q, z2⟩ => xp_swap q z2⟩) fun e t1 ⟨t2, q, z2⟩ => xp_swap q z2
theorem comp_doneP (T : Turn X.prog X.w X.K tg J fp it tn) (hc : X.calm = true) (I : Inv X pins σ H s) (hf : ∀ b ∈ fp, FpOk X pins H b) (ht : tn i s.heap) (stop : J.stop i H) : Wp X s (pyNext (.ref it)) (fun r s' => r = none ∧ Inv X pins σ H s') s :=
  Ssp.up (fun r s' G z hg => ⟨z.1, inv_gens z.2 (hg z.2.bare)⟩) (T.done X rfl rfl rfl hc i pins _ σ H X.xe (inv_dead I) hf ht stop)
end
section
variable {P : Program} {w : World} {A : Around} {s : Shared} {R : Result → Shared → Prop} {elt t0 i0 t1 i1 : Expr} {ifs0 ifs1 : List Expr} {scope : Scope} {pos : Pos} {it acc : Value} {env : Env}
/-- what a turn of the innermost clause does behind its item -/
def innerTurn (P : Program) (w : World) (A : Around) (tg elt : Expr) (ifs : List Expr) (acc it : Value) (env : Env) (R : Result → Shared → Prop) (N : Shared → Prop) (v : Value) (s1 : Shared) : Prop :=
  wpAny (plus P w) A (letOwnedTupleGo tg it v) (fun _ s1' => wpAny (plus P w) A (assign tg env v) (fun _ s2 => wpAny (plus P w) A (testsIn ifs env) (fun ok s3 => if ok = true then wpAny (plus P w) A (eval elt env) (fun x s4 => wpAny (plus P w) A (call (.builtin "list.append") [acc, x]) (fun _ s5 => N s5)
    (notedBy (plus P w) A env fun e s' => R (.error e) s') s4) (notedBy (plus P w) A env fun e s' => R (.error e) s') s3 else N s3) (notedBy (plus P w) A env fun e s' => R (.error e) s') s2) (notedBy (plus P w) A env fun e s' => R (.error e) s') s1') (notedBy (plus P w) A env fun e s' => R (.error e) s') s1
theorem loop1Q (I : Nat → Shared → Prop) (turn : ∀ n s, I n s → wpAny (plus P w) A (pyNext it) (fun r s1 => match r with
      | none => R (.ok .next) s1
      | some v => innerTurn P w A t0 elt ifs0 acc it env R (fun s' => ∃ m, m < n ∧ I m s') v s1) (notedBy (plus P w) A env fun e s' => R (.error e) s') s) (n : Nat) (h : I n s) :
    codeAny (plus P w) A (.compLoop (.ListComp elt [⟨t0, i0, ifs0, 0⟩] scope pos) 0 it acc env) R s := by
  refine codeAny_loop' rfl I (fun n s hI => ?_) n h
  rw [plus_den, mk_id rfl]
  show wpAny _ A ((compTurn (.ListComp elt [⟨t0, i0, ifs0, 0⟩] scope pos) 0 it acc env).onRaise (fun x => do noteFrame x env; theTreesLotGoes x)) _ _ s
  refine wpAny_noted ?_
  rw [compTurn_list]
  refine wpAny_bind (wpAny_standAt (wpAny_bind (wpAny_mono (turn n s hI) (fun r s₁ h₁ => ?_) fun _ _ h' => h')))
  cases r with
  | none => exact wpAny_pure h₁
  | some v =>
    refine wpAny_bind (wpAny_mono h₁ (fun _ s₁' h₁' => wpAny_bind (wpAny_mono h₁' (fun _ s₂ h₂ => wpAny_bind (wpAny_mono h₂ (fun ok s₃ h₃ => ?_) fun _ _ z => z)) fun _ _ z => z)) fun _ _ z => z)
    cases ok with
    | false => exact wpAny_pure (.inl ⟨rfl, h₃⟩)
    | true => exact wpAny_bind (wpAny_bind (wpAny_mono h₃ (fun x s₄ h₄ => wpAny_bind (wpAny_mono h₄ (fun _ s₅ h₅ => wpAny_pure (wpAny_pure (.inl ⟨rfl, h₅⟩))) fun _ _ z => z)) fun _ _ z => z))
theorem loop2Q (I : Nat → Shared → Prop) (turn : ∀ n s, I n s → wpAny (plus P w) A (pyNext it) (fun r s1 => match r with
      | none => R (.ok .next) s1
      | some v => innerTurn P w A t1 elt ifs1 acc it env R (fun s' => ∃ m, m < n ∧ I m s') v s1) (notedBy (plus P w) A env fun e s' => R (.error e) s') s) (n : Nat) (h : I n s) :
    codeAny (plus P w) A (.compLoop (.ListComp elt [⟨t0, i0, ifs0, 0⟩, ⟨t1, i1, ifs1, 0⟩] scope pos) 1 it acc env) R s := by
  refine codeAny_loop' rfl I (fun n s hI => ?_) n h
  rw [plus_den, mk_id rfl]
  show wpAny _ A ((compTurn (.ListComp elt [⟨t0, i0, ifs0, 0⟩, ⟨t1, i1, ifs1, 0⟩] scope pos) 1 it acc env).onRaise (fun x => do noteFrame x env; theTreesLotGoes x)) _ _ s
  refine wpAny_noted ?_
  rw [compTurn2_in]
  refine wpAny_bind (wpAny_standAt (wpAny_bind (wpAny_mono (turn n s hI) (fun r s₁ h₁ => ?_) fun _ _ h' => h')))
  cases r with
  | none => exact wpAny_pure h₁
  | some v =>
    refine wpAny_bind (wpAny_mono h₁ (fun _ s₁' h₁' => wpAny_bind (wpAny_mono h₁' (fun _ s₂ h₂ => wpAny_bind (wpAny_mono h₂ (fun ok s₃ h₃ => ?_) fun _ _ z => z)) fun _ _ z => z)) fun _ _ z => z)
    cases ok with
    | false => exact wpAny_pure (.inl ⟨rfl, h₃⟩)
    | true => exact wpAny_bind (wpAny_bind (wpAny_mono h₃ (fun x s₄ h₄ => wpAny_bind (wpAny_mono h₄ (fun _ s₅ h₅ => wpAny_pure (wpAny_pure (.inl ⟨rfl, h₅⟩))) fun _ _ z => z)) fun _ _ z => z))
/-- the first of two clauses -/
theorem outerQ (hs : ∀ x, foldedSetIterable i1 env x = pure x) (I : Nat → Shared → Prop) (turn : ∀ n s, I n s → wpAny (plus P w) A (pyNext it) (fun r s1 => match r with
      | none => R (.ok .next) s1
      | some v => wpAny (plus P w) A (letOwnedTupleGo t0 it v) (fun _ s1' => wpAny (plus P w) A (assign t0 env v) (fun _ s2 => wpAny (plus P w) A (testsIn ifs0 env) (fun ok s3 => if ok = true then wpAny (plus P w) A (eval i1 env) (fun x s4 => wpAny (plus P w) A (pyIter x) (fun it1 s5 =>
            codeAny (plus P w) A (.compStart (.ListComp elt [⟨t0, i0, ifs0, 0⟩, ⟨t1, i1, ifs1, 0⟩] scope pos) 1 it1 acc env) (fun r s' => match r with
              | .ok _ => ∃ m, m < n ∧ I m s'
              | .error _ => False) s5) (notedBy (plus P w) A env fun e s' => R (.error e) s') s4) (notedBy (plus P w) A env fun e s' => R (.error e) s') s3 else ∃ m, m < n ∧ I m s3) (notedBy (plus P w) A env fun e s' => R (.error e) s') s2) (notedBy (plus P w) A env fun e s' => R (.error e) s') s1') (notedBy (plus P w) A env fun e s' => R (.error e) s') s1)
      (notedBy (plus P w) A env fun e s' => R (.error e) s') s) (n : Nat) (h : I n s) : codeAny (plus P w) A (.compLoop (.ListComp elt [⟨t0, i0, ifs0, 0⟩, ⟨t1, i1, ifs1, 0⟩] scope pos) 0 it acc env) R s := by
  refine codeAny_loop' rfl I (fun n s hI => ?_) n h
  rw [plus_den, mk_id rfl]
  show wpAny _ A ((compTurn (.ListComp elt [⟨t0, i0, ifs0, 0⟩, ⟨t1, i1, ifs1, 0⟩] scope pos) 0 it acc env).onRaise (fun x => do noteFrame x env; theTreesLotGoes x)) _ _ s
  refine wpAny_noted ?_
  rw [compTurn2_out]
  refine wpAny_bind (wpAny_standAt (wpAny_bind (wpAny_mono (turn n s hI) (fun r s₁ h₁ => ?_) fun _ _ h' => h')))
  cases r with
  | none => exact wpAny_pure h₁
  | some v =>
    refine wpAny_bind (wpAny_mono h₁ (fun _ s₁' h₁' => wpAny_bind (wpAny_mono h₁' (fun _ s₂ h₂ => wpAny_bind (wpAny_mono h₂ (fun ok s₃ h₃ => ?_) fun _ _ z => z)) fun _ _ z => z)) fun _ _ z => z)
    cases ok with
    | false => exact wpAny_pure (.inl ⟨rfl, h₃⟩)
    | true =>
      refine wpAny_bind (wpAny_mono h₃ (fun x s₄ h₄ => wpAny_bind (wpAny_standAt (wpAny_bind (wpAny_of_eq (hs x) (wpAny_bind (wpAny_holding (wpAny_mono h₄ (fun it1 s₅ h₅ => ?_) fun _ _ z => z))))))) fun _ _ z => z)
      refine wpAny_bind (wpAny_runOwn ?_)
      rw [Around.mark_none]
      refine codeAny_mono h₅ fun r s' hr => ?_
      cases r with
      | ok f =>
        first
          | exact wpAny_pure (.inl ⟨rfl, hr⟩)
          | exact wpAny_bind (wpAny_pure (wpAny_pure (.inl ⟨rfl, hr⟩)))
      | error e => exact hr.elim
theorem start2Q (h0 : codeAny (plus P w) A (.compLoop (.ListComp elt [⟨t0, i0, ifs0, 0⟩, ⟨t1, i1, ifs1, 0⟩] scope pos) 1 it acc env) R s)
    (h : wpAny (plus P w) A (pyIter it) (fun it' s' => codeAny (plus P w) A (.compLoop (.ListComp elt [⟨t0, i0, ifs0, 0⟩, ⟨t1, i1, ifs1, 0⟩] scope pos) 1 it' acc env) R s') (notedBy (plus P w) A env fun x s' => R (.error x) s') s) :
    codeAny (plus P w) A (.compStart (.ListComp elt [⟨t0, i0, ifs0, 0⟩, ⟨t1, i1, ifs1, 0⟩] scope pos) 1 it acc env) R s := by
  refine codeP ?_
  show wpAny _ _ ((compStart (.ListComp elt [⟨t0, i0, ifs0, 0⟩, ⟨t1, i1, ifs1, 0⟩] scope pos) 1 it acc env).onRaise (fun x => do noteFrame x env; standAt theWindowsPlace)) _ _ s
  refine wpAny_notedAt ?_
  unfold compStart
  show wpAny _ _ (ask >>= _) _ _ s
  refine wpAny_bind (wpAny_askSetting (wpAny_ite ?_))
  split
  · first
      | exact wpAny_bind (wpAny_pure (wpAny_pure (And.intro rfl h0)))
      | exact wpAny_pure (And.intro rfl h0)
  · first
      | exact wpAny_bind (wpAny_rule (wpAny_bind (wpAny_standAt (wpAny_bind (wpAny_mono h (fun it' s' h' => wpAny_pure (And.intro rfl h')) fun _ _ x => x)))))
      | (refine wpAny_bind (wpAny_rule ?_); show wpAny _ _ (standAt i1.pos >>= _) _ _ s; exact wpAny_bind (wpAny_standAt (wpAny_bind (wpAny_mono h (fun it' s' h' => wpAny_pure (And.intro rfl h')) fun _ _ x => x))))
end
end Ssp

/-! List comprehensions on the second machine: the rules. -/
namespace Ssp
open PySem PySem.Spec PyProof.Rows Ssg L2 Ssb
open Sem (wp)
section
variable {X : Cx} {pins : List (Addr × Obj)} {σ : L2.St} {H2 : Hp} {s2 : Shared} {scope : Scope} {own : List (Str × Nat)} {tg : Expr} {J : It} {fp : List Addr} {it : Addr} {tn : Nat → Heap → Prop}
/-- the cells that a block sees -/
abbrev blkCl (X : Cx) (s3 : Shared) (scope : Scope) : List (Str × Addr) := cellsFrom (s3.heap.objs.size + 1) scope.names (cloFrom X.env.cells scope.names [])
abbrev blkS (s3 : Shared) (scope : Scope) : Shared := { s3 with heap := pushCells (s3.heap.push { cls := .type "dict", data := .dict #[] }) scope.names }
/-- the block's beginning: a new list, the block's frame -/
theorem blk_open (T : Turn X.prog X.w X.K tg J fp it tn) (I2 : Inv X pins σ H2 s2) (st2 : tn 0 s2.heap) (f2 : ∀ b ∈ fp, FpOk X pins H2 b) (ok : BlkOk X.N X.env.scope scope own) (hN : X.N.Nodup) {s3 : Shared} (e3 : s3 = { s2 with heap := s2.heap.push { cls := .type "list", data := .seq ([] : List Value).toArray } }) :
    Inv X pins σ (upd H2 s2.heap.objs.size (.lst [])) s3 ∧ Inv (X.blk s3 (upd H2 s2.heap.objs.size (.lst [])) scope (compEnvC scope (blkCl X s3 scope) s3.heap.objs.size X.env) fp) [] (wipe σ (own.map (·.2))) (upd H2 s2.heap.objs.size (.lst [])) (blkS s3 scope) ∧
      tn 0 (blkS s3 scope).heap ∧ (∀ b ∈ fp, FpOk X pins (upd H2 s2.heap.objs.size (.lst [])) b) ∧ Calm s2 (blkS s3 scope) := by
  have hn : H2 s2.heap.objs.size = none := I2.hok.fresh (Nat.le_refl _)
  have I3 : Inv X pins σ (upd H2 s2.heap.objs.size (.lst [])) s3 := by
    rw [e3]
    exact I2.laid (t' := s2.toks) (fun b o e => Heap.get?_push_of_some _ e) (Nat.le_refl _) ⟨Nat.zero_le _, [], 0, .nil, Heap.get?_push_size _ rfl⟩
  have kp : ∀ b o, s2.heap.get? b = some o → s3.heap.get? b = some o := fun b o e => by rw [e3]; exact Heap.get?_push_of_some _ e
  have f3 : ∀ b ∈ fp, FpOk X pins (upd H2 s2.heap.objs.size (.lst [])) b ∧ b < s3.heap.objs.size := fun b hb => by
    obtain ⟨o, e, _⟩ := T.obj _ _ st2 b hb
    refine ⟨⟨?_, (f2 b hb).2⟩, Heap.lt_size (kp _ _ e)⟩
    rw [upd_ne (Nat.ne_of_lt (Heap.lt_size e))]
    exact (f2 b hb).1
  exact ⟨I3, block_start I3 ok hN f3, T.keep _ _ _ st2 fun b _ o e => pushCells_keeps _ _ _ _ (Heap.get?_push_of_some _ (kp b o e)), fun b hb => (f3 b hb).1, Calm.of (by rw [e3])⟩
/-- its end: back in the def -/
theorem blk_close {H3 H5 : Hp} {s3 s6 : Shared} {cl : List (Str × Addr)} {bp : List (Addr × Obj)} {σ' : L2.St} (I3 : Inv X pins σ H3 s3) (f3 : ∀ b ∈ fp, FpOk X pins H3 b) (I6 : Inv (X.blk s3 H3 scope (compEnvC scope cl s3.heap.objs.size X.env) fp) bp σ' H5 s6) {Q : VK} {s0 : Shared} {D : Addr} (q : Q (.ref D) H5) (c : Calm s0 s6) :
    compPost (plus X.prog X.w) X.A (XP X s0) none (fun v s' => EP X pins σ Q v s' ∧ Calm s0 s') (.ref D) s3.heap.objs.size (.ok .next) s6 := by
  have I7 : Inv X pins σ H5 s6 := I3.call' (ch := fp) I6.os I6.base I6.hok I6.bare fun b hb => ⟨(f3 b hb).2.2.2.1, (f3 b hb).2.1, (f3 b hb).2.2.2.2.1, (f3 b hb).2.2.2.2.2⟩
  have nC : H5 s3.heap.objs.size = none := I6.free
  obtain ⟨m, hn, _⟩ := I6.loc
  obtain ⟨f0, f1, f2, f3', f4, f5⟩ := I3.fpOk (Nat.le_refl _) nC
  exact ⟨m, hn, fun h'' sb => ⟨⟨.ref D, H5, I7.turned (t' := s6.toks) (fun b o hb e => (sb.2 b hb).trans e) f0 f1 f3' f4 f5, rfl, q⟩, ⟨c.kept, c.left, c.size⟩⟩⟩
theorem blk_fp {H3 H' : Hp} {s3 s' : Shared} {ce : Env} {bp : List (Addr × Obj)} {σ' : L2.St} (I' : Inv (X.blk s3 H3 scope ce fp) bp σ' H' s') (hn : ∀ b ∈ fp, H' b = none) (hp : ∀ b ∈ fp, ∀ p ∈ bp, p.1 ≠ b) : ∀ b ∈ fp, FpOk (X.blk s3 H3 scope ce fp) bp H' b := fun b hb =>
  ⟨hn b hb, (I'.ok.exf b hb).1, I'.ok.exfs b hb, .inl hb, fun x c e => (I'.ok.exf b hb).2 x c e, fun p hp' => hp b hb p hp'⟩
end
section
variable {X : Cx}
/-- for each context of a block -/
def AllB (X : Cx) (scope : Scope) (Pr : Cx → Prop) : Prop := ∀ s H C cl fp, Pr (X.blk s H scope (compEnvC scope cl C X.env) fp)
theorem pe_lcP {elt tg iter : Expr} {ifs : List Expr} {scope : Scope} {own : List (Str × Nat)} {pos : Pos} {wi : TI} {g : TG} {tt : TT} {te : TE} (hc : X.calm = true) (hN : X.N.Nodup) (hi : PIp X tg iter wi) (ok : BlkOk X.N X.env.scope scope own)
    (hg : AllB X scope fun Y => PG Y tg g) (ht : AllB X scope fun Y => PTsp Y ifs tt) (he : AllB X scope fun Y => PEp Y elt te) (hs : ∀ x, foldedSetIterable iter X.env x = pure x := by intro _; rfl) :
    PEp X (.ListComp elt [⟨tg, iter, ifs, 0⟩] scope pos) (tLc wi g tt te (own.map (·.2))) := by
  refine ⟨fun pins s σ H Q I h => ?_⟩
  rw [eval_ListComp]
  have hfree : ∀ y ∈ scope.names, y.2 = .free → ∃ c, X.env.cells.lookup y.1 = some c := fun y hy e => by
    rcases ok.free y hy e with k | k
    · exact I.ok.has _ (.inl k)
    · exact I.ok.has _ (.inr k)
  refine wpAny_comprehension_free (use := none) rfl hs (closure_ok hfree) ok.kind (fun y hy e => by rw [ok.uniq y hy, e])
    (wpAny_mono (hi.run pins s σ H _ I h) (fun xv s1 hx => wpAny_mono hx (fun itv s2 ⟨⟨it, fp, tn, J, H2, e, I2, T, st2, f2, q⟩, c2⟩ => ?_) fun _ _ z => z) fun _ _ z => z)
  subst e
  refine wpAny_newObj_type (newEnv_comp ?_) (by show 0 ≤ sizeLine; decide)
  obtain ⟨W, ⟨m0, w0⟩, turn⟩ := q s2.heap.objs.size (I2.hok.fresh (Nat.le_refl _))
  generalize hs3 : ({ s2 with heap := s2.heap.push { cls := .type "list", data := .seq ([] : List Value).toArray } } : Shared) = s3
  obtain ⟨I3, I4, st4, f3, c24⟩ := blk_open T I2 st2 f2 ok hN hs3.symm
  generalize hH3 : upd H2 s2.heap.objs.size (.lst []) = H3 at I3 I4 f3 w0
  show codeAny _ _ (.compStart (.ListComp elt [⟨tg, iter, ifs, 0⟩] scope pos) 0 (.ref it) (.ref s2.heap.objs.size) (compEnvC scope (blkCl X s3 scope) s3.heap.objs.size X.env)) (compPost (plus X.prog X.w) X.A (XP X s) none (fun v s' => EP X pins σ Q v s' ∧ Calm s s') (.ref s2.heap.objs.size) s3.heap.objs.size) (blkS s3 scope)
  have pg := hg s3 H3 s3.heap.objs.size (blkCl X s3 scope) fp
  have pt := ht s3 H3 s3.heap.objs.size (blkCl X s3 scope) fp
  have pe := he s3 H3 s3.heap.objs.size (blkCl X s3 scope) fp
  generalize hY : X.blk s3 H3 scope (compEnvC scope (blkCl X s3 scope) s3.heap.objs.size X.env) fp = Y at I4 pg pt pe
  have xno : ∀ {α : Prop} {u1 u2 : Shared} {e : Value}, XP Y u1 e u2 → α := fun ⟨_, _, _, z, _⟩ => by rw [← hY] at z; exact z.elim
  have c4 := c2.trans c24
  have loop : codeAny (plus X.prog X.w) X.A (.compLoop (.ListComp elt [⟨tg, iter, ifs, 0⟩] scope pos) 0 (.ref it) (.ref s2.heap.objs.size) (compEnvC scope (blkCl X s3 scope) s3.heap.objs.size X.env)) (compPost (plus X.prog X.w) X.A (XP X s) none (fun v s' => EP X pins σ Q v s' ∧ Calm s s') (.ref s2.heap.objs.size) s3.heap.objs.size) (blkS s3 scope) := by
    subst hY
    refine loop1Q (fun n s' => ∃ i H', Inv (X.blk s3 H3 scope (compEnvC scope (blkCl X s3 scope) s3.heap.objs.size X.env) fp) [] (wipe σ (own.map (·.2))) H' s' ∧ tn i s'.heap ∧ (∀ b ∈ fp, H' b = none) ∧ W i n H' ∧ Calm s s') ?_ m0 ⟨0, H3, I4, st4, fun b hb => (f3 b hb).1, w0, c4⟩
    rintro n s5 ⟨i, H5, I5, st5, n5, w5, c5⟩
    have F5 := blk_fp I5 n5 fun b hb p hp => by cases hp
    rcases turn i n H5 w5 with ⟨stop, qq⟩ | ⟨go, Nx, hNx, step⟩
    · refine wpAny_mono (comp_doneP (X := X.blk s3 H3 scope (compEnvC scope (blkCl X s3 scope) s3.heap.objs.size X.env) fp) T hc I5 F5 st5 stop) (fun r s6 ⟨⟨hr, I6⟩, c6⟩ => ?_) fun _ _ z => xno z
      subst hr
      exact blk_close I3 f3 I6 qq (c5.trans c6)
    · refine wpAny_mono (comp_nextP (X := X.blk s3 H3 scope (compEnvC scope (blkCl X s3 scope) s3.heap.objs.size X.env) fp) T hc I5 F5 st5 go) (fun r s6 ⟨u, hr, h6⟩ => ?_) fun _ _ z => xno z
      subst hr
      refine wpAny_mono h6 (fun _ s7 ⟨⟨x, H7, I7, r7, y7, st7, n7⟩, c7⟩ => ?_) fun _ _ z => xno z
      have I7' := I7.pinned (blk_fp I7 n7 fun b hb p hp => by cases hp) (T.obj _ _ st7)
      refine wpAny_mono ((PGp.up pg).run _ s7 _ H7 x u _ I7' r7 (step x H7 y7)) (fun _ s8 ⟨⟨σ8, H8, I8, hw8, q8⟩, c8⟩ => ?_) fun _ _ z => xno z
      refine wpAny_mono (pt.run _ s8 σ8 H8 _ I8 q8) (fun b s9 ⟨⟨H9, I9, q9⟩, c9⟩ => ?_) fun _ _ z => xno z
      have cc := ((c5.trans c7).trans c8).trans c9
      have fin : ∀ {s' : Shared} {H' : Hp}, Inv (X.blk s3 H3 scope (compEnvC scope (blkCl X s3 scope) s3.heap.objs.size X.env) fp) ([] ++ pinsAt fp s7.heap) σ8 H' s' → Nx H' → Calm s9 s' → ∃ m, m < n ∧ ∃ i H', Inv (X.blk s3 H3 scope (compEnvC scope (blkCl X s3 scope) s3.heap.objs.size X.env) fp) [] (wipe σ (own.map (·.2))) H' s' ∧ tn i s'.heap ∧ (∀ b ∈ fp, H' b = none) ∧ W i m H' ∧ Calm s s' := fun {s' H'} I' nx cz => by
        obtain ⟨m', hm, w'⟩ := hNx H' nx
        have pin' : ∀ b ∈ fp, ∀ o, s7.heap.get? b = some o → s'.heap.get? b = some o ∧ H' b = none := fun b hb o e =>
          let z := I'.pin (b, o) (List.mem_append_right _ (List.mem_append_right _ (mem_pinsAt hb e)))
          ⟨z.1, z.2.1⟩
        have hl : (wipe σ (own.map (·.2))).length = σ8.length := by rw [← hw8, wipe_length]
        refine ⟨m', hm, i + 1, H', (I'.unpinned (pins := [])).weak hl (fun j v e => ?_), T.keep _ _ _ st7 fun b hb o e => (pin' b hb o e).1, fun b hb => ?_, w', cc.trans cz⟩
        · rw [← hw8] at e
          exact (wipe_some e).1
        · obtain ⟨o, e, _⟩ := T.obj _ _ st7 b hb
          exact (pin' b hb o e).2
      cases b with
      | false =>
        rw [if_neg Bool.false_ne_true] at q9 ⊢
        exact fin I9 q9 (Calm.refl _)
      | true =>
        rw [if_pos rfl] at q9 ⊢
        refine wpAny_mono (pe.run _ s9 σ8 H9 _ I9 q9) (fun z s10 ⟨⟨yv, H10, I10, r10, acc, hD10, hz10, nx⟩, c10⟩ => ?_) fun _ _ z => xno z
        refine wpAny_mono (Ssp.up (X := X.blk s3 H3 scope (compEnvC scope (blkCl X s3 scope) s3.heap.objs.size X.env) fp) (R := fun _ s' => Inv (X.blk s3 H3 scope (compEnvC scope (blkCl X s3 scope) s3.heap.objs.size X.env) fp) ([] ++ pinsAt fp s7.heap) σ8 (upd H10 s2.heap.objs.size (.lst (acc ++ [yv]))) s') (fun _ _ _ z hb => inv_gens z (hb z.bare)) (app_ok (inv_dead I10) hD10 hz10 r10 fun s11 I11 => I11)) (fun _ s11 ⟨I11, c11⟩ => fin I11 nx (c10.trans c11)) fun _ _ z => xno z
  exact compStartP loop (wpAny_mono (lift_wpAny (T.self X.A 0 { blkS s3 scope with gens := (blkS s3 scope).gens.map dead } (fun v s' => v = .ref it ∧ s' = { blkS s3 scope with gens := (blkS s3 scope).gens.map dead }) (fun _ _ => False) st4 ⟨rfl, rfl⟩)) (fun v s1 ⟨s2', ⟨e1, e2⟩, z⟩ => by
    subst e1
    have es : s1 = blkS s3 scope := by
      have h1 := z.eq
      have h2 := gens_same (G0 := (blkS s3 scope).gens) (G1 := s1.gens) (by rw [e2] at z; exact z.sim)
      rw [h1, e2, h2]
    rw [es]; exact loop) fun e s1 ⟨_, z, _⟩ => z.elim)
end
end Ssp

/-! A list comprehension whose second for goes over a generator, on the second machine. -/
namespace Ssp
open PySem PySem.Spec PyProof.Rows Ssg L2 Ssb
open Sem (wp)
theorem Con.weak {X : Cx} {k lo : Nat} {Rw Ry : Hp → Hp → Prop} {s0 : Shared} {a : Addr} {oa : Obj} {g : Nat} {pins : List (Addr × Obj)} {σ σ' : L2.St} {b : Beh} {pv : List (Addr × Obj)} {gl : List (Nat × GenState)} {Hy H : Hp} {s : Shared} (C : Con X k lo Rw Ry s0 a oa g pins σ b pv gl Hy H s)
    (hl : σ'.length = σ.length) (w : ∀ (i : Nat) v, σ'[i]? = some (some v) → σ[i]? = some (some v)) : Con X k lo Rw Ry s0 a oa g pins σ' b pv gl Hy H s := ⟨C.inv.weak hl w, C.ap, C.gls, C.mem, C.gc, C.slp, C.rw⟩
section
variable {X : Cx} {k : Nat} {Rw Ry : Hp → Hp → Prop}
def tLc2G (Rw Ry : Hp → Hp → Prop) (wi : TI) (g : TG) (tt : TT) (gm : TGm) (g1 : TG) (tt1 : TT) (te : TE) (vs vs1 : List Nat) : TE := fun σ H Q => wi σ H fun J H1 => ∀ D, H1 D = none → ∃ W : Nat → Nat → Hp → Prop, (∃ m, W 0 m (upd H1 D (.lst []))) ∧ ∀ i m H, W i m H →
  (J.stop i H ∧ Q (.ref D) H) ∨ (J.go i H ∧ ∃ Nx : Hp → Prop, (∀ H', Nx H' → ∃ m', m' < m ∧ W (i + 1) m' H') ∧ ∀ x H', J.yld i H x H' → g x (wipe σ vs) H' fun σ2 H2 => wipe σ2 vs = wipe σ vs ∧ tt σ2 H2 fun b H3 =>
    if b = true then gm σ2 H3 fun b1 H4 => ∃ W1 : Beh → Hp → Hp → Prop, W1 b1 H4 H4 ∧ ∀ b H Hy, W1 b H Hy → Rw Hy H ∧ b ≠ .stop ∧ (b = .done → ∀ H', Ry H H' → Nx H') ∧
      ∀ y b', b = .out y b' → ∀ x H', Ry H H' → y x H' → g1 x (wipe σ2 vs1) H' fun σ3 H5 => wipe σ3 vs1 = wipe σ2 vs1 ∧ tt1 σ3 H5 fun b H6 =>
        if b = true then te σ3 H6 fun y H7 => ∃ acc, H7 D = some (.lst acc) ∧ acc.length < sizeLine ∧ W1 b' (upd H7 D (.lst (acc ++ [y]))) H' else W1 b' H6 H'
    else Nx H3)
theorem pe_lc2G {elt tg iter tg1 iter1 : Expr} {ifs ifs1 : List Expr} {scope : Scope} {own : List (Str × Nat)} {vs1 : List Nat} {pos : Pos} {wi : TI} {g g1 : TG} {tt tt1 : TT} {gm : TGm} {te : TE} (rr : RwRy Rw Ry) (hc : X.calm = true) (hN : X.N.Nodup) (hr : Room (k + 2) X.A) (hi : PIp X tg iter wi) (ok : BlkOk X.N X.env.scope scope own) (hv : ∀ i ∈ vs1, i ∈ own.map (·.2))
    (hg : AllB X scope fun Y => PG Y tg g) (ht : AllB X scope fun Y => PTsp Y ifs tt) (hi1 : AllB X scope fun Y => PGm Y k Rw Ry iter1 gm) (hg1 : AllB X scope fun Y => PG Y tg1 g1) (ht1 : AllB X scope fun Y => PTsp Y ifs1 tt1) (he : AllB X scope fun Y => PEp Y elt te)
    (hs : ∀ x, foldedSetIterable iter X.env x = pure x := by intro _; rfl) (hs1 : ∀ env x, foldedSetIterable iter1 env x = pure x := by intro _ _; rfl) :
    PEp X (.ListComp elt [⟨tg, iter, ifs, 0⟩, ⟨tg1, iter1, ifs1, 0⟩] scope pos) (tLc2G Rw Ry wi g tt gm g1 tt1 te (own.map (·.2)) vs1) := by
  refine ⟨fun pins s σ H Q I h => ?_⟩
  rw [eval_ListComp]
  have hfree : ∀ y ∈ scope.names, y.2 = .free → ∃ c, X.env.cells.lookup y.1 = some c := fun y hy e => by
    rcases ok.free y hy e with k | k
    · exact I.ok.has _ (.inl k)
    · exact I.ok.has _ (.inr k)
  refine wpAny_comprehension_free (use := none) rfl hs (closure_ok hfree) ok.kind (fun y hy e => by rw [ok.uniq y hy, e])
    (wpAny_mono (hi.run pins s σ H _ I h) (fun xv s1 hx => wpAny_mono hx (fun itv s2 ⟨⟨it, fp, tn, J, H2, e, I2, T, st2, f2, q⟩, c2⟩ => ?_) fun _ _ z => z) fun _ _ z => z)
  subst e
  refine wpAny_newObj_type (newEnv_comp ?_) (by show 0 ≤ sizeLine; decide)
  obtain ⟨W, ⟨m0, w0⟩, turn⟩ := q s2.heap.objs.size (I2.hok.fresh (Nat.le_refl _))
  generalize hs3 : ({ s2 with heap := s2.heap.push { cls := .type "list", data := .seq ([] : List Value).toArray } } : Shared) = s3
  obtain ⟨I3, I4, st4, f3, c24⟩ := blk_open T I2 st2 f2 ok hN hs3.symm
  generalize hH3 : upd H2 s2.heap.objs.size (.lst []) = H3 at I3 I4 f3 w0
  show codeAny _ _ (.compStart (.ListComp elt [⟨tg, iter, ifs, 0⟩, ⟨tg1, iter1, ifs1, 0⟩] scope pos) 0 (.ref it) (.ref s2.heap.objs.size) (compEnvC scope (blkCl X s3 scope) s3.heap.objs.size X.env)) (compPost (plus X.prog X.w) X.A (XP X s) none (fun v s' => EP X pins σ Q v s' ∧ Calm s s') (.ref s2.heap.objs.size) s3.heap.objs.size) (blkS s3 scope)
  have pg := hg s3 H3 s3.heap.objs.size (blkCl X s3 scope) fp
  have pt := ht s3 H3 s3.heap.objs.size (blkCl X s3 scope) fp
  have pe := he s3 H3 s3.heap.objs.size (blkCl X s3 scope) fp
  have pi1 := hi1 s3 H3 s3.heap.objs.size (blkCl X s3 scope) fp
  have pg1 := hg1 s3 H3 s3.heap.objs.size (blkCl X s3 scope) fp
  have pt1 := ht1 s3 H3 s3.heap.objs.size (blkCl X s3 scope) fp
  have xno : ∀ {α : Prop} {u1 u2 : Shared} {e : Value}, XP (X.blk s3 H3 scope (compEnvC scope (blkCl X s3 scope) s3.heap.objs.size X.env) fp) u1 e u2 → α := fun ⟨_, _, _, z, _⟩ => z.elim
  have c4 := c2.trans c24
  have loop : codeAny (plus X.prog X.w) X.A (.compLoop (.ListComp elt [⟨tg, iter, ifs, 0⟩, ⟨tg1, iter1, ifs1, 0⟩] scope pos) 0 (.ref it) (.ref s2.heap.objs.size) (compEnvC scope (blkCl X s3 scope) s3.heap.objs.size X.env)) (compPost (plus X.prog X.w) X.A (XP X s) none (fun v s' => EP X pins σ Q v s' ∧ Calm s s') (.ref s2.heap.objs.size) s3.heap.objs.size) (blkS s3 scope) := by
    refine outerQ (hs1 _) (fun n s' => ∃ i H', Inv (X.blk s3 H3 scope (compEnvC scope (blkCl X s3 scope) s3.heap.objs.size X.env) fp) [] (wipe σ (own.map (·.2))) H' s' ∧ tn i s'.heap ∧ (∀ b ∈ fp, H' b = none) ∧ W i n H' ∧ Calm s s') ?_ m0 ⟨0, H3, I4, st4, fun b hb => (f3 b hb).1, w0, c4⟩
    rintro n s5 ⟨i, H5, I5, st5, n5, w5, c5⟩
    have F5 := blk_fp I5 n5 fun b hb p hp => by cases hp
    rcases turn i n H5 w5 with ⟨stop, qq⟩ | ⟨go, Nx, hNx, step⟩
    · refine wpAny_mono (comp_doneP (X := X.blk s3 H3 scope (compEnvC scope (blkCl X s3 scope) s3.heap.objs.size X.env) fp) T hc I5 F5 st5 stop) (fun r s6 ⟨⟨hr, I6⟩, c6⟩ => ?_) fun _ _ z => xno z
      subst hr
      exact blk_close I3 f3 I6 qq (c5.trans c6)
    · refine wpAny_mono (comp_nextP (X := X.blk s3 H3 scope (compEnvC scope (blkCl X s3 scope) s3.heap.objs.size X.env) fp) T hc I5 F5 st5 go) (fun r s6 ⟨u, hr, h6⟩ => ?_) fun _ _ z => xno z
      subst hr
      refine wpAny_mono h6 (fun _ s7 ⟨⟨x, H7, I7, r7, y7, st7, n7⟩, c7⟩ => ?_) fun _ _ z => xno z
      have I7' := I7.pinned (blk_fp I7 n7 fun b hb p hp => by cases hp) (T.obj _ _ st7)
      refine wpAny_mono ((PGp.up pg).run _ s7 _ H7 x u _ I7' r7 (step x H7 y7)) (fun _ s8 ⟨⟨σ8, H8, I8, hw8, q8⟩, c8⟩ => ?_) fun _ _ z => xno z
      refine wpAny_mono (pt.run _ s8 σ8 H8 _ I8 q8) (fun b s9 ⟨⟨H9, I9, q9⟩, c9⟩ => ?_) fun _ _ z => xno z
      have cc := ((c5.trans c7).trans c8).trans c9
      have fin : ∀ {σ9 : L2.St} {s' : Shared} {H' : Hp}, Inv (X.blk s3 H3 scope (compEnvC scope (blkCl X s3 scope) s3.heap.objs.size X.env) fp) ([] ++ pinsAt fp s7.heap) σ9 H' s' → (wipe σ (own.map (·.2))).length = σ9.length → (∀ (j : Nat) v, (wipe σ (own.map (·.2)))[j]? = some (some v) → σ9[j]? = some (some v)) → Nx H' → Calm s s' →
          ∃ m, m < n ∧ ∃ i H', Inv (X.blk s3 H3 scope (compEnvC scope (blkCl X s3 scope) s3.heap.objs.size X.env) fp) [] (wipe σ (own.map (·.2))) H' s' ∧ tn i s'.heap ∧ (∀ b ∈ fp, H' b = none) ∧ W i m H' ∧ Calm s s' := fun {σ9 s' H'} I' hl hk nx cz => by
        obtain ⟨m', hm, w'⟩ := hNx H' nx
        have pin' : ∀ b ∈ fp, ∀ o, s7.heap.get? b = some o → s'.heap.get? b = some o ∧ H' b = none := fun b hb o e =>
          let z := I'.pin (b, o) (List.mem_append_right _ (List.mem_append_right _ (mem_pinsAt hb e)))
          ⟨z.1, z.2.1⟩
        refine ⟨m', hm, i + 1, H', (I'.unpinned (pins := [])).weak hl hk, T.keep _ _ _ st7 fun b hb o e => (pin' b hb o e).1, fun b hb => ?_, w', cz⟩
        obtain ⟨o, e, _⟩ := T.obj _ _ st7 b hb
        exact (pin' b hb o e).2
      have hl8 : (wipe σ (own.map (·.2))).length = σ8.length := by rw [← hw8, wipe_length]
      have hk8 : ∀ (j : Nat) v, (wipe σ (own.map (·.2)))[j]? = some (some v) → σ8[j]? = some (some v) := fun j v e => by
        rw [← hw8] at e
        exact (wipe_some e).1
      have hk9 : ∀ (j : Nat) v, (wipe σ (own.map (·.2)))[j]? = some (some v) → (wipe σ8 vs1)[j]? = some (some v) := fun j v e => by
        rw [← hw8] at e
        obtain ⟨e1, e2⟩ := wipe_some e
        rw [wipe_out fun z => e2 (hv j z)]
        exact e1
      cases b with
      | false =>
        rw [if_neg Bool.false_ne_true] at q9 ⊢
        exact fin I9 hl8 hk8 q9 cc
      | true =>
        rw [if_pos rfl] at q9 ⊢
        refine wpAny_mono (pi1.run _ s9 σ8 H9 _ I9 q9) (fun gv s10 ⟨⟨sc, Hc, b1, Ic, cc1, G1, W1, w1, turn1⟩, c10⟩ => ?_) fun _ _ z => xno z
        obtain ⟨a, oa, gn, pv, gl, rfl, ha, ob, C1, I10, _, kp⟩ := con_made Ic G1 rr.wr (cc.trans cc1)
        obtain ⟨nm, qn, hgc, hgd, _⟩ := id ob
        refine iter_genP C1.obj hgc ?_
        have lo1 := conLo_of Ic
        have loop1 : codeAny (plus X.prog X.w) X.A (.compLoop (.ListComp elt [⟨tg, iter, ifs, 0⟩, ⟨tg1, iter1, ifs1, 0⟩] scope pos) 1 (.ref a) (.ref s2.heap.objs.size) (compEnvC scope (blkCl X s3 scope) s3.heap.objs.size X.env)) (fun r s' => match r with
            | .ok _ => ∃ m, m < n ∧ ∃ i H', Inv (X.blk s3 H3 scope (compEnvC scope (blkCl X s3 scope) s3.heap.objs.size X.env) fp) [] (wipe σ (own.map (·.2))) H' s' ∧ tn i s'.heap ∧ (∀ b ∈ fp, H' b = none) ∧ W i m H' ∧ Calm s s'
            | .error _ => False) s10 := by
          refine loop2Q (fun n s' => ∃ b H' Hy pv gl, Beh.len b = n ∧ Con (X.blk s3 H3 scope (compEnvC scope (blkCl X s3 scope) s3.heap.objs.size X.env) fp) k sc.heap.objs.size Rw Ry s a oa gn ([] ++ pinsAt fp s7.heap) (wipe σ8 vs1) b pv gl Hy H' s' ∧ W1 b H' Hy) ?_ b1.len ⟨b1, Hc, Hc, pv, gl, rfl, C1.weak (wipe_length _ _) (fun j v e => (wipe_some e).1), w1⟩
          rintro n1 s11 ⟨b11, H11, Hy11, pv11, gl11, rfl, C11, w11⟩
          obtain ⟨_, hst, tdone, tout⟩ := turn1 b11 H11 Hy11 w11
          refine con_next (X := X.blk s3 H3 scope (compEnvC scope (blkCl X s3 scope) s3.heap.objs.size X.env) fp) lo1 C11 ob Ic.ok.frames hr hst (fun y b12 z u1 s12 v H12 pv12 gl12 rv hy ry C12 hs12 => ?_) (fun z s12 H12 ry I12 c12 => ?_) rr.wr
          · cases z
            refine go_of C12.obj hgc hgd (by decide) ?_
            refine wpAny_mono ((PGp.up pg1).run _ s12 _ H12 v u1 _ C12.inv rv (tout y b12 rfl v H12 ry hy)) (fun _ s13 ⟨⟨σ13, H13, I13, hw13, q13⟩, c13⟩ => ?_) fun _ _ z => xno z
            refine wpAny_mono (pt1.run _ s13 σ13 H13 _ I13 q13) (fun bb s14 ⟨⟨H14, I14, q14⟩, c14⟩ => ?_) fun _ _ z => xno z
            have done : ∀ {s' : Shared} {H' : Hp}, Inv (X.blk s3 H3 scope (compEnvC scope (blkCl X s3 scope) s3.heap.objs.size X.env) fp) ((a, oa) :: (pv12 ++ ([] ++ pinsAt fp s7.heap))) σ13 H' s' → Calm s12 s' → W1 b12 H' H12 →
                ∃ m, m < Beh.len (.out y b12) ∧ ∃ b H' Hy pv gl, Beh.len b = m ∧ Con (X.blk s3 H3 scope (compEnvC scope (blkCl X s3 scope) s3.heap.objs.size X.env) fp) k sc.heap.objs.size Rw Ry s a oa gn ([] ++ pinsAt fp s7.heap) (wipe σ8 vs1) b pv gl Hy H' s' ∧ W1 b H' Hy := fun {s' H'} I' c' w' => by
              have hl : (wipe σ8 vs1).length = σ13.length := by rw [← hw13, wipe_length]
              refine ⟨b12.len, Nat.lt_succ_self _, b12, H', H12, pv12, gl12, rfl, C12.step hs12 (I'.weak hl fun j v e => ?_) c' (turn1 b12 H' H12 w').1, w'⟩
              rw [← hw13] at e
              exact (wipe_some e).1
            cases bb with
            | false =>
              rw [if_neg Bool.false_ne_true] at q14 ⊢
              exact done I14 (c13.trans c14) q14
            | true =>
              rw [if_pos rfl] at q14 ⊢
              refine wpAny_mono (pe.run _ s14 σ13 H14 _ I14 q14) (fun zv s15 ⟨⟨yv, H15, I15, r15, acc, hD15, hz15, nx⟩, c15⟩ => ?_) fun _ _ z => xno z
              refine wpAny_mono (Ssp.up (X := X.blk s3 H3 scope (compEnvC scope (blkCl X s3 scope) s3.heap.objs.size X.env) fp) (R := fun _ s' => Inv (X.blk s3 H3 scope (compEnvC scope (blkCl X s3 scope) s3.heap.objs.size X.env) fp) ((a, oa) :: (pv12 ++ ([] ++ pinsAt fp s7.heap))) σ13 (upd H15 s2.heap.objs.size (.lst (acc ++ [yv]))) s') (fun _ _ _ z hb => inv_gens z (hb z.bare)) (app_ok (inv_dead I15) hD15 hz15 r15 fun s16 I16 => I16)) (fun _ s16 ⟨I16, c16⟩ => done I16 (c13.trans (c14.trans (c15.trans c16))) nx) fun _ _ z => xno z
          · exact fin (I12.pins_of fun p hp => I12.pin p (List.mem_append_right _ (List.mem_cons_of_mem _ hp))) (hl8.trans (wipe_length σ8 vs1).symm) hk9 (tdone z H12 ry) c12
        exact start2Q loop1 (iter_genP C1.obj hgc loop1)
  exact compStartP loop (wpAny_mono (lift_wpAny (T.self X.A 0 { blkS s3 scope with gens := (blkS s3 scope).gens.map dead } (fun v s' => v = .ref it ∧ s' = { blkS s3 scope with gens := (blkS s3 scope).gens.map dead }) (fun _ _ => False) st4 ⟨rfl, rfl⟩)) (fun v s1 ⟨s2', ⟨e1, e2⟩, z⟩ => by
    subst e1
    have es : s1 = blkS s3 scope := by
      have h1 := z.eq
      have h2 := gens_same (G0 := (blkS s3 scope).gens) (G1 := s1.gens) (by rw [e2] at z; exact z.sim)
      rw [h1, e2, h2]
    rw [es]; exact loop) fun e s1 ⟨_, z, _⟩ => z.elim)
end
end Ssp

/-! {k: v for ..} with keys that are None or tuples, on the second machine. -/
namespace Ssp
open PySem PySem.Spec PyProof.Rows Ssg L2 Ssb
open Sem (wp)
section
variable {P : Program} {w : World} {A : Around} {s : Shared} {R : Result → Shared → Prop} {kx vx t0 i0 : Expr} {ifs0 : List Expr} {scope : Scope} {pos : Pos} {it : Value} {D : Addr} {env : Env}
theorem loopDQ (I : Nat → Shared → Prop) (turn : ∀ n s, I n s → wpAny (plus P w) A (pyNext it) (fun r s1 => match r with
      | none => R (.ok .next) s1
      | some v => wpAny (plus P w) A (letOwnedTupleGo t0 it v) (fun _ s1' => wpAny (plus P w) A (assign t0 env v) (fun _ s2 => wpAny (plus P w) A (testsIn ifs0 env) (fun ok s3 => if ok = true then wpAny (plus P w) A (eval kx env) (fun kv s4 => wpAny (plus P w) A (eval vx env) (fun vv s5 =>
          wpAny (plus P w) A (dictSet D kv vv) (fun _ s6 => ∃ m, m < n ∧ I m s6) (notedBy (plus P w) A env fun e s' => R (.error e) s') s5) (notedBy (plus P w) A env fun e s' => R (.error e) s') s4) (notedBy (plus P w) A env fun e s' => R (.error e) s') s3 else ∃ m, m < n ∧ I m s3)
          (notedBy (plus P w) A env fun e s' => R (.error e) s') s2) (notedBy (plus P w) A env fun e s' => R (.error e) s') s1') (notedBy (plus P w) A env fun e s' => R (.error e) s') s1) (notedBy (plus P w) A env fun e s' => R (.error e) s') s) (n : Nat) (h : I n s) :
    codeAny (plus P w) A (.compLoop (.DictComp kx vx [⟨t0, i0, ifs0, 0⟩] scope pos) 0 it (.ref D) env) R s := by
  refine codeAny_loop' rfl I (fun n s hI => ?_) n h
  rw [plus_den, mk_id rfl]
  show wpAny _ A ((compTurn (.DictComp kx vx [⟨t0, i0, ifs0, 0⟩] scope pos) 0 it (.ref D) env).onRaise (fun x => do noteFrame x env; theTreesLotGoes x)) _ _ s
  refine wpAny_noted ?_
  rw [compTurn_dict]
  refine wpAny_bind (wpAny_standAt (wpAny_bind (wpAny_mono (turn n s hI) (fun r s₁ h₁ => ?_) fun _ _ h' => h')))
  cases r with
  | none => exact wpAny_pure h₁
  | some v =>
    refine wpAny_bind (wpAny_mono h₁ (fun _ s₁' h₁' => wpAny_bind (wpAny_mono h₁' (fun _ s₂ h₂ => wpAny_bind (wpAny_mono h₂ (fun ok s₃ h₃ => ?_) fun _ _ z => z)) fun _ _ z => z)) fun _ _ z => z)
    cases ok with
    | false => exact wpAny_pure (.inl ⟨rfl, h₃⟩)
    | true => exact wpAny_bind (wpAny_bind (wpAny_mono h₃ (fun kv s₄ h₄ => wpAny_bind (wpAny_holding (wpAny_mono h₄ (fun vv s₅ h₅ => wpAny_bind (wpAny_standAt (wpAny_holding (wpAny_mono h₅ (fun _ s₆ h₆ => wpAny_pure (.inl ⟨rfl, h₆⟩)) fun _ _ z => z)))) fun _ _ z => z))) fun _ _ z => z))
theorem startDP {rest : List Comprehension} {acc : Value} (h0 : codeAny (plus P w) A (.compLoop (.DictComp kx vx (⟨t0, i0, ifs0, 0⟩ :: rest) scope pos) 0 it acc env) R s)
    (h : wpAny (plus P w) A (pyIter it) (fun it' s' => codeAny (plus P w) A (.compLoop (.DictComp kx vx (⟨t0, i0, ifs0, 0⟩ :: rest) scope pos) 0 it' acc env) R s')
      (notedBy (plus P w) A env fun x s' => R (.error x) s') s) :
    codeAny (plus P w) A (.compStart (.DictComp kx vx (⟨t0, i0, ifs0, 0⟩ :: rest) scope pos) 0 it acc env) R s := by
  refine codeP ?_
  show wpAny _ _ ((compStart (.DictComp kx vx (⟨t0, i0, ifs0, 0⟩ :: rest) scope pos) 0 it acc env).onRaise (fun x => do noteFrame x env; standAt theWindowsPlace)) _ _ s
  refine wpAny_notedAt ?_
  unfold compStart
  show wpAny _ _ (ask >>= _) _ _ s
  refine wpAny_bind (wpAny_askSetting (wpAny_ite ?_))
  split
  · first
      | exact wpAny_bind (wpAny_pure (wpAny_pure (And.intro rfl h0)))
      | exact wpAny_pure (And.intro rfl h0)
  · first
      | exact wpAny_bind (wpAny_rule (wpAny_bind (wpAny_standAt (wpAny_bind (wpAny_mono h (fun it' s' h' => wpAny_pure (And.intro rfl h')) fun _ _ x => x)))))
      | (refine wpAny_bind (wpAny_rule ?_); show wpAny _ _ (standAt i0.pos >>= _) _ _ s; exact wpAny_bind (wpAny_standAt (wpAny_bind (wpAny_mono h (fun it' s' h' => wpAny_pure (And.intro rfl h')) fun _ _ x => x))))
end
section
variable {X : Cx} {pins : List (Addr × Obj)} {σ : L2.St} {H2 : Hp} {s2 : Shared} {scope : Scope} {own : List (Str × Nat)} {tg : Expr} {J : It} {fp : List Addr} {it : Addr} {tn : Nat → Heap → Prop}
/-- the block's beginning: a new dict, the block's frame -/
theorem blk_openD (T : Turn X.prog X.w X.K tg J fp it tn) (I2 : Inv X pins σ H2 s2) (st2 : tn 0 s2.heap) (f2 : ∀ b ∈ fp, FpOk X pins H2 b) (ok : BlkOk X.N X.env.scope scope own) (hN : X.N.Nodup) {s3 : Shared} (e3 : s3 = { s2 with heap := s2.heap.push { cls := .type "dict", data := .dict #[] } }) :
    Inv X pins σ (upd H2 s2.heap.objs.size (DkO X.w s2.heap.objs.size [])) s3 ∧ Inv (X.blk s3 (upd H2 s2.heap.objs.size (DkO X.w s2.heap.objs.size [])) scope (compEnvC scope (blkCl X s3 scope) s3.heap.objs.size X.env) fp) [] (wipe σ (own.map (·.2))) (upd H2 s2.heap.objs.size (DkO X.w s2.heap.objs.size [])) (blkS s3 scope) ∧
      tn 0 (blkS s3 scope).heap ∧ (∀ b ∈ fp, FpOk X pins (upd H2 s2.heap.objs.size (DkO X.w s2.heap.objs.size [])) b) ∧ Calm s2 (blkS s3 scope) := by
  have hn : H2 s2.heap.objs.size = none := I2.hok.fresh (Nat.le_refl _)
  have I3 : Inv X pins σ (upd H2 s2.heap.objs.size (DkO X.w s2.heap.objs.size [])) s3 := by
    rw [e3]
    exact I2.laid (t' := s2.toks) (fun b o e => Heap.get?_push_of_some _ e) (Nat.le_refl _) (dn_new (Nat.zero_le _) (beq_eq_false_iff_ne.mpr (Ne.symm (Nat.ne_of_lt I2.big))) (ys := []) ⟨_, #[], 0, Heap.get?_push_size _ rfl, ⟨rfl, rfl, rfl⟩, rfl, rfl⟩ .nil List.nodup_nil)
  have kp : ∀ b o, s2.heap.get? b = some o → s3.heap.get? b = some o := fun b o e => by rw [e3]; exact Heap.get?_push_of_some _ e
  have f3 : ∀ b ∈ fp, FpOk X pins (upd H2 s2.heap.objs.size (DkO X.w s2.heap.objs.size [])) b ∧ b < s3.heap.objs.size := fun b hb => by
    obtain ⟨o, e, _⟩ := T.obj _ _ st2 b hb
    refine ⟨⟨?_, (f2 b hb).2⟩, Heap.lt_size (kp _ _ e)⟩
    rw [upd_ne (Nat.ne_of_lt (Heap.lt_size e))]
    exact (f2 b hb).1
  exact ⟨I3, block_start I3 ok hN f3, T.keep _ _ _ st2 fun b _ o e => pushCells_keeps _ _ _ _ (Heap.get?_push_of_some _ (kp b o e)), fun b hb => (f3 b hb).1, Calm.of (by rw [e3])⟩
end
section
variable {X : Cx}
/-- the block of a dict comprehension: any use of the dict -/
theorem dcP_core {kx vx tg iter : Expr} {ifs : List Expr} {scope : Scope} {own : List (Str × Nat)} {pos pos' : Pos} {wi : TI} {g : TG} {tt : TT} {tk tv : TE} {Q : VK} {pins : List (Addr × Obj)} {s : Shared} {σ : L2.St} {H : Hp} {use : Option (Value → Sem Unit)} {Qf : Value → Shared → Prop} (hu : X.A.units + 20 < cLine) (hc : X.calm = true) (hN : X.N.Nodup) (I : Inv X pins σ H s) (hi : PIp X tg iter wi) (ok : BlkOk X.N X.env.scope scope own)
    (hg : AllB X scope fun Y => PG Y tg g) (ht : AllB X scope fun Y => PTsp Y ifs tt) (hk : AllB X scope fun Y => PEp Y kx tk) (he : AllB X scope fun Y => PEp Y vx tv) (hs : ∀ x, foldedSetIterable iter X.env x = pure x) (h : tDn X.w wi g tt tk tv (own.map (·.2)) σ H Q)
    (out : ∀ {D : Addr} {C : Nat} {s' : Shared} {H3 H5 : Hp} {cl : List (Str × Addr)} {s3 : Shared} {fp : List Addr} {bp : List (Addr × Obj)} {σ' : L2.St}, C = s3.heap.objs.size → Inv X pins σ H3 s3 → (∀ b ∈ fp, FpOk X pins H3 b) → Inv (X.blk s3 H3 scope (compEnvC scope cl s3.heap.objs.size X.env) fp) bp σ' H5 s' → Q (.ref D) H5 → Calm s s' → compPost (plus X.prog X.w) X.A (XP X s) use Qf (.ref D) C (.ok .next) s') :
    wpAny (plus X.prog X.w) X.A (comprehension (.DictComp kx vx [⟨tg, iter, ifs, 0⟩] scope pos) scope X.env pos' newDict false (eval iter X.env) use) Qf (XP X s) s := by
  have hfree : ∀ y ∈ scope.names, y.2 = .free → ∃ c, X.env.cells.lookup y.1 = some c := fun y hy e => by
    rcases ok.free y hy e with k | k
    · exact I.ok.has _ (.inl k)
    · exact I.ok.has _ (.inr k)
  refine wpAny_comprehension_free (use := use) rfl hs (closure_ok hfree) ok.kind (fun y hy e => by rw [ok.uniq y hy, e])
    (wpAny_mono (hi.run pins s σ H _ I h) (fun xv s1 hx => wpAny_mono hx (fun itv s2 ⟨⟨it, fp, tn, J, H2, e, I2, T, st2, f2, q⟩, c2⟩ => ?_) fun _ _ z => z) fun _ _ z => z)
  subst e
  refine wpAny_newObj_type (newEnv_comp ?_)
  obtain ⟨W, ⟨m0, w0⟩, turn⟩ := q s2.heap.objs.size (I2.hok.fresh (Nat.le_refl _))
  generalize hs3 : ({ s2 with heap := s2.heap.push { cls := .type "dict", data := .dict #[] } } : Shared) = s3
  obtain ⟨I3, I4, st4, f3, c24⟩ := blk_openD T I2 st2 f2 ok hN hs3.symm
  generalize hH3 : upd H2 s2.heap.objs.size (DkO X.w s2.heap.objs.size []) = H3 at I3 I4 f3 w0
  show codeAny _ _ (.compStart (.DictComp kx vx [⟨tg, iter, ifs, 0⟩] scope pos) 0 (.ref it) (.ref s2.heap.objs.size) (compEnvC scope (blkCl X s3 scope) s3.heap.objs.size X.env)) (compPost (plus X.prog X.w) X.A (XP X s) use Qf (.ref s2.heap.objs.size) s3.heap.objs.size) (blkS s3 scope)
  have pg := hg s3 H3 s3.heap.objs.size (blkCl X s3 scope) fp
  have pt := ht s3 H3 s3.heap.objs.size (blkCl X s3 scope) fp
  have pk := hk s3 H3 s3.heap.objs.size (blkCl X s3 scope) fp
  have pe := he s3 H3 s3.heap.objs.size (blkCl X s3 scope) fp
  have xno : ∀ {α : Prop} {u1 u2 : Shared} {e : Value}, XP (X.blk s3 H3 scope (compEnvC scope (blkCl X s3 scope) s3.heap.objs.size X.env) fp) u1 e u2 → α := fun ⟨_, _, _, z, _⟩ => z.elim
  have c4 := c2.trans c24
  have loop : codeAny (plus X.prog X.w) X.A (.compLoop (.DictComp kx vx [⟨tg, iter, ifs, 0⟩] scope pos) 0 (.ref it) (.ref s2.heap.objs.size) (compEnvC scope (blkCl X s3 scope) s3.heap.objs.size X.env)) (compPost (plus X.prog X.w) X.A (XP X s) use Qf (.ref s2.heap.objs.size) s3.heap.objs.size) (blkS s3 scope) := by
    refine loopDQ (fun n s' => ∃ i H', Inv (X.blk s3 H3 scope (compEnvC scope (blkCl X s3 scope) s3.heap.objs.size X.env) fp) [] (wipe σ (own.map (·.2))) H' s' ∧ tn i s'.heap ∧ (∀ b ∈ fp, H' b = none) ∧ W i n H' ∧ Calm s s') ?_ m0 ⟨0, H3, I4, st4, fun b hb => (f3 b hb).1, w0, c4⟩
    rintro n s5 ⟨i, H5, I5, st5, n5, w5, c5⟩
    have F5 := blk_fp I5 n5 fun b hb p hp => by cases hp
    rcases turn i n H5 w5 with ⟨stop, qq⟩ | ⟨go, Nx, hNx, step⟩
    · refine wpAny_mono (comp_doneP (X := X.blk s3 H3 scope (compEnvC scope (blkCl X s3 scope) s3.heap.objs.size X.env) fp) T hc I5 F5 st5 stop) (fun r s6 ⟨⟨hr, I6⟩, c6⟩ => ?_) fun _ _ z => xno z
      subst hr
      exact out rfl I3 f3 I6 qq (c5.trans c6)
    · refine wpAny_mono (comp_nextP (X := X.blk s3 H3 scope (compEnvC scope (blkCl X s3 scope) s3.heap.objs.size X.env) fp) T hc I5 F5 st5 go) (fun r s6 ⟨u, hr, h6⟩ => ?_) fun _ _ z => xno z
      subst hr
      refine wpAny_mono h6 (fun _ s7 ⟨⟨x, H7, I7, r7, y7, st7, n7⟩, c7⟩ => ?_) fun _ _ z => xno z
      have I7' := I7.pinned (blk_fp I7 n7 fun b hb p hp => by cases hp) (T.obj _ _ st7)
      refine wpAny_mono ((PGp.up pg).run _ s7 _ H7 x u _ I7' r7 (step x H7 y7)) (fun _ s8 ⟨⟨σ8, H8, I8, hw8, q8⟩, c8⟩ => ?_) fun _ _ z => xno z
      refine wpAny_mono (pt.run _ s8 σ8 H8 _ I8 q8) (fun b s9 ⟨⟨H9, I9, q9⟩, c9⟩ => ?_) fun _ _ z => xno z
      have cc := ((c5.trans c7).trans c8).trans c9
      have fin : ∀ {s' : Shared} {H' : Hp}, Inv (X.blk s3 H3 scope (compEnvC scope (blkCl X s3 scope) s3.heap.objs.size X.env) fp) ([] ++ pinsAt fp s7.heap) σ8 H' s' → Nx H' → Calm s9 s' → ∃ m, m < n ∧ ∃ i H', Inv (X.blk s3 H3 scope (compEnvC scope (blkCl X s3 scope) s3.heap.objs.size X.env) fp) [] (wipe σ (own.map (·.2))) H' s' ∧ tn i s'.heap ∧ (∀ b ∈ fp, H' b = none) ∧ W i m H' ∧ Calm s s' := fun {s' H'} I' nx cz => by
        obtain ⟨m', hm, w'⟩ := hNx H' nx
        have pin' : ∀ b ∈ fp, ∀ o, s7.heap.get? b = some o → s'.heap.get? b = some o ∧ H' b = none := fun b hb o e =>
          let z := I'.pin (b, o) (List.mem_append_right _ (List.mem_append_right _ (mem_pinsAt hb e)))
          ⟨z.1, z.2.1⟩
        have hl : (wipe σ (own.map (·.2))).length = σ8.length := by rw [← hw8, wipe_length]
        refine ⟨m', hm, i + 1, H', (I'.unpinned (pins := [])).weak hl (fun j v e => ?_), T.keep _ _ _ st7 fun b hb o e => (pin' b hb o e).1, fun b hb => ?_, w', cc.trans cz⟩
        · rw [← hw8] at e
          exact (wipe_some e).1
        · obtain ⟨o, e, _⟩ := T.obj _ _ st7 b hb
          exact (pin' b hb o e).2
      cases b with
      | false =>
        rw [if_neg Bool.false_ne_true] at q9 ⊢
        exact fin I9 q9 (Calm.refl _)
      | true =>
        rw [if_pos rfl] at q9 ⊢
        refine wpAny_mono (pk.run _ s9 σ8 H9 _ I9 q9) (fun z s10 ⟨⟨yk, H10, I10, r10, q10⟩, c10⟩ => ?_) fun _ _ z => xno z
        refine wpAny_mono (pe.run _ s10 σ8 H10 _ I10 q10) (fun z s11 ⟨⟨yv, H11, I11, r11, xs, d, hD11, hks, hky, hz, nx⟩, c11⟩ => ?_) fun _ _ z => xno z
        refine wpAny_mono (Ssp.up (X := X.blk s3 H3 scope (compEnvC scope (blkCl X s3 scope) s3.heap.objs.size X.env) fp) (R := fun _ s' => Inv (X.blk s3 H3 scope (compEnvC scope (blkCl X s3 scope) s3.heap.objs.size X.env) fp) ([] ++ pinsAt fp s7.heap) σ8 (upd H11 s2.heap.objs.size (DkO X.w s2.heap.objs.size (putX xs d yk yv))) s') (fun _ _ _ z hb => inv_gens z (hb z.bare))
          (n_compSet (X := X.blk s3 H3 scope (compEnvC scope (blkCl X s3 scope) s3.heap.objs.size X.env) fp) (by show X.A.units + 10 < cLine; omega) (inv_dead I11) hD11 hks hky hz r10 r11 fun s12 I12 => I12)) (fun _ s12 ⟨I12, c12⟩ => fin I12 nx (c10.trans (c11.trans c12))) fun _ _ z => xno z
  exact startDP loop (wpAny_mono (lift_wpAny (T.self X.A 0 { blkS s3 scope with gens := (blkS s3 scope).gens.map dead } (fun v s' => v = .ref it ∧ s' = { blkS s3 scope with gens := (blkS s3 scope).gens.map dead }) (fun _ _ => False) st4 ⟨rfl, rfl⟩)) (fun v s1 ⟨s2', ⟨e1, e2⟩, z⟩ => by
    subst e1
    have es : s1 = blkS s3 scope := by
      have h1 := z.eq
      have h2 := gens_same (G0 := (blkS s3 scope).gens) (G1 := s1.gens) (by rw [e2] at z; exact z.sim)
      rw [h1, e2, h2]
    rw [es]; exact loop) fun e s1 ⟨_, z, _⟩ => z.elim)
end
end Ssp

namespace Pk
open PySem PySem.Spec PyProof.Rows L2 Ssb
/-- the i-th statement of the text -/
def topS (i : Nat) : Stmt := PySem.Challenge.pw_statestay_k24_faults_found.main.body.getD i (.Pass ⟨0, 0, 0, 0⟩)
abbrev s_Node_init : Stmt := inClass (topS 7) 0
theorem sc_Node_init : FnScope ["self", "kind", "key", "owner", "nodes"] ["self", "kind", "key", "owner", "nodes"] (defScope s_Node_init) := ⟨rfl, rfl, rfl, by decide +kernel, rfl, by decide +kernel, by decide +kernel⟩
abbrev s_Node_below : Stmt := inClass (topS 7) 1
theorem sc_Node_below : FnScope ["self"] ["self"] (defScope s_Node_below) := ⟨rfl, rfl, rfl, by decide +kernel, rfl, by decide +kernel, by decide +kernel⟩
abbrev s_Node_walk : Stmt := inClass (topS 7) 2
theorem sc_Node_walk : GScope ["self", "node"] ["self"] (defScope s_Node_walk) := ⟨rfl, rfl, rfl, by decide +kernel, rfl, by decide +kernel, by decide +kernel⟩
theorem nc_Node_walk : ∀ y ∈ (defScope s_Node_walk).names, y.2 ≠ .cell ∧ y.2 ≠ .free := by decide +kernel
abbrev s_part_owners : Stmt := topS 8
theorem sc_part_owners : FnScope ["nodes", "top", "node"] ["nodes"] (defScope s_part_owners) := ⟨rfl, rfl, rfl, by decide +kernel, rfl, by decide +kernel, by decide +kernel⟩
abbrev s_Rule_init : Stmt := inClass (topS 10) 2
theorem sc_Rule_init : FnScope ["self", "place"] ["self", "place"] (defScope s_Rule_init) := ⟨rfl, rfl, rfl, by decide +kernel, rfl, by decide +kernel, by decide +kernel⟩
abbrev s_Rule___call__ : Stmt := inClass (topS 10) 4
theorem sc_Rule___call__ : FnScope ["self", "nodes", "slots", "counts", "index", "node", "alike", "earlier"] ["self", "nodes"] (defScope s_Rule___call__) := ⟨rfl, rfl, rfl, by decide +kernel, rfl, by decide +kernel, by decide +kernel⟩
abbrev s_matched : Stmt := topS 11
theorem sc_matched : FnScope ["rule", "old", "new", "pairs", "table", "slot", "after", "before", "node"] ["rule", "old", "new"] (defScope s_matched) := ⟨rfl, rfl, rfl, by decide +kernel, rfl, by decide +kernel, by decide +kernel⟩
abbrev s_faults : Stmt := topS 12
theorem sc_faults : FnScope ["rule", "old", "new", "pairs", "partners", "staying", "lost", "before", "after", "owner"] ["rule", "old", "new"] (defScope s_faults) := ⟨rfl, rfl, rfl, by decide +kernel, rfl, by decide +kernel, by decide +kernel⟩
abbrev s__law_stream : Stmt := topS 14
theorem sc__law_stream : FnScope ["_law_script", "_law_cells", "_law_cell"] ["_law_script"] (defScope s__law_stream) := ⟨rfl, rfl, rfl, by decide +kernel, rfl, by decide +kernel, by decide +kernel⟩
abbrev s__law_draw : Stmt := topS 15
theorem sc__law_draw : FnScope ["_law_stream_here", "_law_many", "_law_cells", "_law_step", "_law_at", "_law_cell", "_law_number"] ["_law_stream_here", "_law_many"] (defScope s__law_draw) := ⟨rfl, rfl, rfl, by decide +kernel, rfl, by decide +kernel, by decide +kernel⟩
abbrev s__law_same : Stmt := topS 16
theorem sc__law_same : FnScope ["_law_actual", "_law_expected", "_law_key", "_law_k"] ["_law_actual", "_law_expected"] (defScope s__law_same) := ⟨rfl, rfl, rfl, by decide +kernel, rfl, by decide +kernel, by decide +kernel⟩
abbrev s__law_tree_key : Stmt := topS 17
theorem sc__law_tree_key : FnScope ["_law_stream_here", "_law_way"] ["_law_stream_here"] (defScope s__law_tree_key) := ⟨rfl, rfl, rfl, by decide +kernel, rfl, by decide +kernel, by decide +kernel⟩
abbrev s__law_tree : Stmt := topS 18
theorem sc__law_tree : FnScope ["_law_stream_here", "_law_most", "_law_deep", "_law_place", "_law_nodes", "_law_k", "_law_kind", "_law_key", "_law_below"] ["_law_stream_here", "_law_most", "_law_deep", "_law_place"] (defScope s__law_tree) := ⟨rfl, rfl, rfl, by decide +kernel, rfl, by decide +kernel, by decide +kernel⟩
abbrev s__law_edited : Stmt := topS 19
theorem sc__law_edited : FnScope ["_law_stream_here", "_law_nodes", "_law_fresh", "_law_result", "_law_kind", "_law_key", "_law_owner", "_law_below", "_law_way", "_law_at"] ["_law_stream_here", "_law_nodes", "_law_fresh"] (defScope s__law_edited) := ⟨rfl, rfl, rfl, by decide +kernel, rfl, by decide +kernel, by decide +kernel⟩
abbrev s__law_built : Stmt := topS 20
theorem sc__law_built : FnScope ["_law_nodes", "_law_made", "_law_kind", "_law_key", "_law_owner", "_law_below"] ["_law_nodes"] (defScope s__law_built) := ⟨rfl, rfl, rfl, by decide +kernel, rfl, by decide +kernel, by decide +kernel⟩
abbrev s__law_partner : Stmt := topS 21
theorem sc__law_partner : FnScope ["_law_old", "_law_taken", "_law_new", "_law_k", "_law_place", "_law_kind", "_law_key", "_law_counted", "_law_number", "_law_found", "_law_free", "_law_j", "_law_node"] ["_law_old", "_law_taken", "_law_new", "_law_k", "_law_place"] (defScope s__law_partner) := ⟨rfl, rfl, rfl, by decide +kernel, rfl, by decide +kernel, by decide +kernel⟩
abbrev s__law_pairs : Stmt := topS 22
theorem sc__law_pairs : FnScope ["_law_old", "_law_new", "_law_place", "_law_pairs_here", "_law_taken", "_law_k", "_law_found"] ["_law_old", "_law_new", "_law_place"] (defScope s__law_pairs) := ⟨rfl, rfl, rfl, by decide +kernel, rfl, by decide +kernel, by decide +kernel⟩
abbrev s__law_walked : Stmt := topS 23
theorem sc__law_walked : FnScope ["_law_nodes", "_law_rows", "_law_node"] ["_law_nodes"] (defScope s__law_walked) := ⟨rfl, rfl, rfl, by decide +kernel, rfl, by decide +kernel, by decide +kernel⟩
abbrev s__law_faulty : Stmt := topS 24
theorem sc__law_faulty : FnScope ["_law_pairs_here", "_law_old", "_law_new", "_law_partners", "_law_present", "_law_owners", "_law_found", "_law_one", "_law_two", "_law_node", "_law_owner"] ["_law_pairs_here", "_law_old", "_law_new"] (defScope s__law_faulty) := ⟨rfl, rfl, rfl, by decide +kernel, rfl, by decide +kernel, by decide +kernel⟩
abbrev s__law_tree_same : Stmt := topS 25
theorem sc__law_tree_same : FnScope ["_law_actual", "_law_expected", "_law_k", "_law_node"] ["_law_actual", "_law_expected"] (defScope s__law_tree_same) := ⟨rfl, rfl, rfl, by decide +kernel, rfl, by decide +kernel, by decide +kernel⟩
abbrev s_law : Stmt := topS 26
theorem sc_law : FnScope ["_law_script", "_law_stream_here", "_law_old", "_law_new", "_law_one", "_law_two", "_law_place", "_law_due"] ["_law_script"] (defScope s_law) := ⟨rfl, rfl, rfl, by decide +kernel, rfl, by decide +kernel, by decide +kernel⟩
/-- what the module says of built-ins, constants and classes -/
structure Txt (K : PySem.W.Frag) (mg : Str → Option Value) (C_Node : Addr) (C_Rule : Addr) (C_InvalidRule : Addr) : Prop where
  enumerate : mg "enumerate" = none
  int : mg "int" = none
  str : mg "str" = none
  bool : mg "bool" = none
  isinstance : mg "isinstance" = none
  len : mg "len" = none
  list : mg "list" = none
  range : mg "range" = none
  zip : mg "zip" = none
  tuple : mg "tuple" = none
  dict : mg "dict" = none
  cl_Node : Cls K C_Node
  mk_Node : PySem.W.makesIn K C_Node = true
  kp_Node : PySem.W.keepIn K (.ref C_Node) = true
  at_Node : mg "Node" = some (.ref C_Node)
  no_Node_kind : NoAttr K C_Node "kind"
  no_Node_key : NoAttr K C_Node "key"
  no_Node_owner : NoAttr K C_Node "owner"
  no_Node_inside : NoAttr K C_Node "inside"
  cl_Rule : Cls K C_Rule
  mk_Rule : PySem.W.makesIn K C_Rule = true
  kp_Rule : PySem.W.keepIn K (.ref C_Rule) = true
  at_Rule : mg "Rule" = some (.ref C_Rule)
  cr_Rule : PySem.W.readsIn K C_Rule (.type "type") = true
  cg_Rule : PySem.W.specialIn K (.ref C_Rule) "__getattribute__" = some (some (.builtin "type.__getattribute__"))
  all_Rule : ∃ t, PySem.W.findCls K (.ref C_Rule) (.type "type") "ALL" = some (.val (.str "all" t))
  pl_Rule : ∃ t, PySem.W.findCls K (.ref C_Rule) (.type "type") "PLAIN" = some (.val (.str "plain" t))
  kl_Node : PySem.W.findIn K (.ref C_Node) "__class__" = some (some (.builtin "object.__class__"))
  km_Node : PySem.W.mroIn K C_Node (.type "object") = some true
  se_Node : PySem.W.kitOne K (.ref C_Node) (.ref C_Node) = some true
  gt_cls : PySem.W.specialIn K (.builtin "object.__class__") "__get__" = some (some (.builtin "getset_descriptor.__get__"))
  tk_cls : PySem.W.takesIn K (.builtin "object.__class__") = some true
  no_Rule_place : NoAttr K C_Rule "place"
  ox_InvalidRule : OexE K C_InvalidRule
  at_InvalidRule : mg "InvalidRule" = some (.ref C_InvalidRule)
  xk_InvalidRule : ExK K C_InvalidRule
  own_InvalidRule : PySem.W.exmOne K (.ref C_InvalidRule) (.ref C_InvalidRule) = some true
  no_InvalidRule_place : PySem.W.findIn K (.ref C_InvalidRule) "place" = some none
  se_InvalidRule : PySem.W.kitOne K (.ref C_InvalidRule) (.ref C_InvalidRule) = some true
/-- a def as it stands -/
def Here (K : PySem.W.Frag) (mg : Str → Option Value) (nm : Str) (st : Stmt) : Prop := ∃ f fd, mg nm = some (.ref f) ∧ Fun K nm nm st f fd ∧ PySem.W.keepIn K (.ref f) = true
def HereM (K : PySem.W.Frag) (C : Addr) (nm qual : Str) (st : Stmt) : Prop := ∃ f fd, Fun K nm qual st f fd ∧ PySem.W.findIn K (.ref C) nm = some (some (.ref f)) ∧ PySem.W.isFn K (.ref f) = true ∧ PySem.W.keepIn K (.ref f) = true
/-- a method with defaults -/
def HereMD (K : PySem.W.Frag) (C : Addr) (nm qual : Str) (st : Stmt) (dvs : List V) : Prop := ∃ f fd, FunD K nm qual (defArgs st) (defBody st) (defScope st) dvs [] f fd ∧ PySem.W.findIn K (.ref C) nm = some (some (.ref f)) ∧ PySem.W.isFn K (.ref f) = true ∧ PySem.W.keepIn K (.ref f) = true
structure Prg (K : PySem.W.Frag) (mg : Str → Option Value) (C_Node : Addr) (C_Rule : Addr) (C_InvalidRule : Addr) : Prop where
  Node_init : ∃ t0 : Addr, (∃ o n, K.lookup t0 = some o ∧ o.cls = .type "tuple" ∧ o.data = .seq #[] n) ∧ HereMD K C_Node "__init__" "Node.__init__" s_Node_init [.ref t0]
  Node_below : HereM K C_Node "below" "Node.below" s_Node_below
  Node_walk : HereM K C_Node "walk" "Node.walk" s_Node_walk
  part_owners : Here K mg "part_owners" s_part_owners
  Rule_init : HereMD K C_Rule "__init__" "Rule.__init__" s_Rule_init [.str "all"]
  Rule___call__ : HereM K C_Rule "__call__" "Rule.__call__" s_Rule___call__
  matched : Here K mg "matched" s_matched
  faults : Here K mg "faults" s_faults
  _law_stream : Here K mg "_law_stream" s__law_stream
  _law_draw : Here K mg "_law_draw" s__law_draw
  _law_same : Here K mg "_law_same" s__law_same
  _law_tree_key : Here K mg "_law_tree_key" s__law_tree_key
  _law_tree : Here K mg "_law_tree" s__law_tree
  _law_edited : Here K mg "_law_edited" s__law_edited
  _law_built : Here K mg "_law_built" s__law_built
  _law_partner : Here K mg "_law_partner" s__law_partner
  _law_pairs : Here K mg "_law_pairs" s__law_pairs
  _law_walked : Here K mg "_law_walked" s__law_walked
  _law_faulty : Here K mg "_law_faulty" s__law_faulty
  _law_tree_same : Here K mg "_law_tree_same" s__law_tree_same
  law : Here K mg "law" s_law
theorem here_mk {K : PySem.W.Frag} {h : Heap} {mg : Str → Option Value} (X : K.In h) (G : h.Ns mainGlobals mg) {nm : Str} {st : Stmt} {f : Addr} {oc : Value} {od an : Option Addr} {sl : Array (Option Value)} {kV dc pm cd ct : Value}
    (a : PySem.W.nsIn K mainGlobals nm = some (some (.ref f))) (l : K.lookup f = some ⟨oc, od, .func (PySem.W.fnOf nm nm (defArgs st) (defBody st) (defScope st) .none kV dc pm an cd ct), sl⟩) (c : PySem.W.codeIn K cd nm = true) (k : PySem.W.keepIn K (.ref f) = true) : Here K mg nm st :=
  ⟨f, _, PySem.W.mg_of X G a, fun_mk (st := st) l c k, k⟩
theorem hereM_mk {K : PySem.W.Frag} {C : Addr} {nm qual : Str} {st : Stmt} {f : Addr} {oc : Value} {od an : Option Addr} {sl : Array (Option Value)} {kV dc pm cd ct : Value}
    (a : PySem.W.findIn K (.ref C) nm = some (some (.ref f))) (i : PySem.W.isFn K (.ref f) = true) (l : K.lookup f = some ⟨oc, od, .func (PySem.W.fnOf nm qual (defArgs st) (defBody st) (defScope st) .none kV dc pm an cd ct), sl⟩) (c : PySem.W.codeIn K cd qual = true) (k : PySem.W.keepIn K (.ref f) = true) : HereM K C nm qual st :=
  ⟨f, _, fun_mk (st := st) l c k, a, i, k⟩
theorem hereMD_mk {K : PySem.W.Frag} {C T : Addr} {nm qual : Str} {st : Stmt} {dv : V} {u : Value} {f : Addr} {oc : Value} {od an : Option Addr} {sl : Array (Option Value)} {kV dc pm cd ct : Value} {o : Obj} {n : Nat}
    (a : PySem.W.findIn K (.ref C) nm = some (some (.ref f))) (i : PySem.W.isFn K (.ref f) = true) (l : K.lookup f = some ⟨oc, od, .func (PySem.W.fnOf nm qual (defArgs st) (defBody st) (defScope st) (.ref T) kV dc pm an cd ct), sl⟩) (c : PySem.W.codeIn K cd qual = true) (k : PySem.W.keepIn K (.ref f) = true)
    (lT : K.lookup T = some o) (oT : o.data = .seq ([u] : List Value).toArray n) (r : RelV dv u) : HereMD K C nm qual st [dv] :=
  ⟨f, _, ⟨⟨_, _, _, _, _, _, _, _, _, _, rfl, l, c, .inr ⟨(fun e => nomatch e), T, o, [u], n, rfl, lT, oT, .cons r .nil⟩, .inl rfl⟩, k⟩, a, i, k⟩
theorem nodeD_mk {K : PySem.W.Frag} {C t0 : Addr} {st : Stmt} {o : Obj} {n : Nat} (z : HereMD K C "__init__" "Node.__init__" st [.ref t0]) (q1 : K.lookup t0 = some o) (q2 : o.cls = .type "tuple") (q3 : o.data = .seq #[] n) :
    ∃ t0 : Addr, (∃ o n, K.lookup t0 = some o ∧ o.cls = .type "tuple" ∧ o.data = .seq #[] n) ∧ HereMD K C "__init__" "Node.__init__" st [.ref t0] := ⟨t0, ⟨o, n, q1, q2, q3⟩, z⟩
def spLaw (K : PySem.W.Frag) : Sp := fun vs H Q _ => ∃ (a : Addr) (ns : List Int), vs = [.ref a] ∧ SqL K H a (ns.map V.int) ∧ ns.length ≤ 63 ∧ ∀ H', Q (.bl true) H'

end Pk

namespace Pk
open PySem PySem.Spec PyProof.Rows L2 Ssb
open Evl (Ex Ev EvT EvL EvA EvU)
theorem gname_go {i : Nat} {v : V} {σ : L2.St} {H : Hp} {k : L2.St → Hp → Prop} (h : k (σ.set i (some v)) H) : gName i v σ H k := h
/-- places, as ints -/
def nI (l : List Nat) : List V := l.map fun (k : Nat) => V.int (k : Int)
theorem nI_len {l : List Nat} : (nI l).length = l.length := List.length_map ..
theorem nI_at {l : List Nat} {i k : Nat} (h : l[i]? = some k) : (nI l)[i]? = some (.int (k : Int)) := by unfold nI; rw [List.getElem?_map, h]; rfl
theorem ints_at {l : List Int} {i : Nat} {k : Int} (h : l[i]? = some k) : (l.map V.int)[i]? = some (.int k) := by rw [List.getElem?_map, h]; rfl
section
variable {K : PySem.W.Frag} {σ : L2.St} {H : Hp} {ta tb te tl : TE} {D : Ends} {tz tu : TS}
theorem ev_ixN {a : Addr} {l : List Nat} {i k : Nat} (h : Ev ta σ H (.ref a)) (hi : Ev tb σ H (.int (i : Int))) (ha : H a = some (.lst (nI l))) (hk : l[i]? = some k) : Ev (tOp (rIxL K) ta tb) σ H (.int (k : Int)) :=
  Evl.ev_op h hi (Evl.rv_ixL (Evl.sq_of ha) (atI_nat (nI_at hk)))
theorem ev_ixI {a : Addr} {l : List Int} {i : Nat} {k : Int} (h : Ev ta σ H (.ref a)) (hi : Ev tb σ H (.int (i : Int))) (ha : H a = some (.lst (l.map V.int))) (hk : l[i]? = some k) : Ev (tOp (rIxL K) ta tb) σ H (.int k) :=
  Evl.ev_op h hi (Evl.rv_ixL (Evl.sq_of ha) (atI_nat (ints_at hk)))
/-- for i, x in enumerate(xs) -/
theorem q_enumL {j1 j2 : Nat} {a : Addr} {xs : List V} (h : Ev te σ H (.ref a)) (ha : H a = some (.lst xs)) (Pv : Nat → L2.St → Hp → Prop) (h0 : ∀ H1, Ex H H1 → Pv 0 σ H1) (hG : ∀ i σ' H', Pv i σ' H' → H' a = some (.lst xs))
    (hs : ∀ (i : Nat) σ' H' (x : V), xs[i]? = some x → Pv i σ' H' → ∀ H2, Ex H' H2 → tu { D with nx := Pv (i + 1), ct := Pv (i + 1), bk := tz D } ((σ'.set j1 (some (.int (i : Int)))).set j2 (some x)) H2)
    (hd : ∀ σ' H', Pv xs.length σ' H' → tz D σ' H') :
    tSeq (tFor (iEnum K (tCons te tNil)) (gTup K 2 (gCons (gName j1) (gCons (gName j2) gNil))) tu) tz D σ H :=
  h H (Ex.refl _) _ fun H1 e1 => ⟨a, xs, rfl, Evl.sq_of (e1 _ _ ha), for_it walk_enum Pv (h0 _ e1) (fun i σ' H' _ p => Evl.sq_of (hG i σ' H' p)) (fun i x σ' H0 H' hi pv y => by
    obtain ⟨Tq, x1, y1, rfl, nT, rfl, hx1, hy1⟩ := y
    have hx1 : V.int (i : Int) = x1 := Option.some.inj hx1
    subst hx1
    exact ⟨Tq, _, rfl, Evl.st_of upd_same, rfl, _, _, rfl, _, _, rfl, rfl, hs i σ' H0 y1 hy1 pv _ (Ex.new nT)⟩) hd⟩
end
/-- within a lock of d -/
theorem rep_in {H1 H2 : Hp} {n : Nat} {S : Addr → Prop} {x : D} {v : V} {d : Addr} {es : List (Key × V)} {u : HO} (hd : H1 d = some (.dK es)) (e2 : Ex (upd H1 d u) H2) (h : Rep H1 n (fun b => S b ∧ b ≠ d) x v) : Rep H2 n (fun b => S b ∧ b ≠ d) x v :=
  rep_ex e2 (rep_lock hd (fun _ z => z.2) h)
theorem valV_at : ∀ {es : List (Key × V)} {i : Nat} {k : Key} {v : V}, (es.map (·.1)).Nodup → es[i]? = some (k, v) → valV es k = some v
  | [], i, k, v, _, h => by simp at h
  | e :: es, 0, k, v, _, h => by
    simp at h; subst h
    rw [vV_cons, if_pos rfl]
  | e :: es, i + 1, k, v, nd, h => by
    have h2 : es[i]? = some (k, v) := by simpa using h
    rw [List.map_cons, List.nodup_cons] at nd
    rw [vV_cons, if_neg, valV_at nd.2 h2]
    intro z
    refine nd.1 ?_
    rw [z]
    exact List.mem_map.mpr ⟨(k, v), List.mem_of_getElem? h2, rfl⟩
theorem take_snoc {α : Type} {l : List α} {i : Nat} {x : α} (h : l[i]? = some x) : l.take (i + 1) = l.take i ++ [x] := by rw [List.take_add_one, h]; rfl
theorem not_take {α : Type} {l : List α} {i : Nat} {x : α} (nd : l.Nodup) (h : l[i]? = some x) : x ∉ l.take i := fun hm =>
  (List.nodup_append.mp (by rw [← take_snoc h]; exact List.Sublist.nodup (List.take_sublist _ _) nd : (l.take i ++ [x]).Nodup)).2.2 x hm x (List.mem_singleton.mpr rfl) rfl
theorem vV_no : ∀ {es : List (Key × V)} {k : Key}, k ∉ es.map (·.1) → valV es k = none
  | [], _, _ => rfl
  | e :: es, k, h => by
    rw [vV_cons, if_neg (fun z => h (by rw [← z]; exact List.mem_cons_self))]
    exact vV_no fun z => h (List.mem_cons_of_mem _ z)
theorem inr_not {ks : List Str} {k : Str} (h : k ∉ ks) : (Sum.inr k : Key) ∉ ks.map Sum.inr := fun hm => by
  obtain ⟨x, hx, e⟩ := List.mem_map.mp hm
  exact h (by rw [← Sum.inr.inj e]; exact hx)
theorem pair_keys {α : Type} {F : Str × α → Key × V → Prop} {l : List (Str × α)} {es : List (Key × V)} (h : Paired (fun p e => e.1 = Sum.inr p.1 ∧ F p e) l es) : es.map (·.1) = (l.map (·.1)).map Sum.inr := by
  induction h with
  | nil => rfl
  | cons h t ih => rw [List.map_cons, List.map_cons, List.map_cons, ih, h.1]
theorem inr_nd {ks : List Str} (h : ks.Nodup) : (ks.map (Sum.inr : Str → Key)).Nodup := List.Pairwise.map _ (fun a b h z => h (Sum.inr.inj z)) h
def dT : D → String
  | .non => "NoneType" | .bl _ => "bool" | .int _ => "int" | .str _ => "str" | .lst _ => "list" | .tup _ => "tuple" | .dic _ => "dict"
theorem rep_ty {K : PySem.W.Frag} {H : Hp} {n : Nat} {S : Addr → Prop} {d : D} {v : V} (h : Rep H (n + 1) S d v) : TyOf K H v (.type (dT d)) := by
  cases d with
  | non => have e : v = .non := h; subst e; exact .non
  | bl b => have e : v = .bl b := h; subst e; exact .bl b
  | int i => have e : v = .int i := h; subst e; exact .int i
  | str s => have e : v = .str s := h; subst e; exact .str s
  | lst l => obtain ⟨a, xs, rfl, _, ha, _⟩ := h; exact .lst ha
  | tup l => obtain ⟨a, xs, rfl, ha, _⟩ := h; exact .tup ha
  | dic l => obtain ⟨a, es, rfl, _, ha, _⟩ := h; exact .dK ha
theorem ev_kind {K : PySem.W.Frag} {σ : L2.St} {H : Hp} {te : TE} {n : Nat} {S : Addr → Prop} {d : D} {v : V} {T : String} (b : Bool) (h : Ev te σ H v) (hr : Rep H (n + 1) S d v) (hk : kitB (dT d) T = some b) : Ev (tCB (rIsi K) (tCons te (tCons (tC (.ty T)) tNil))) σ H (.bl b) :=
  ev_isi h (fun H1 e1 => .base (rep_ty (rep_ex e1 hr))) (kit_ty hk)
/-- no dict and no bool, all the way down -/
def kn : Nat → D → Prop
  | n + 1, .lst l => ∀ x ∈ l, kn n x
  | n + 1, .tup l => ∀ x ∈ l, kn n x
  | _, .dic _ => False
  | _, .bl _ => False
  | _, _ => True
/-- an entry of a dict of data -/
theorem rep_entry {H : Hp} {n : Nat} {S : Addr → Prop} {l : List (Str × D)} {k : Str} {d : D} {a : Addr} {es : List (Key × V)} (pr : Paired (fun (q : Str × D) (e : Key × V) => e.1 = Sum.inr q.1 ∧ Rep H n (fun b => S b ∧ b ≠ a) q.2 e.2) l es) (hk : l.lookup k = some d) :
    ∃ v, valV es (Sum.inr k : Key) = some v ∧ Rep H n (fun b => S b ∧ b ≠ a) d v := pair_lk (F := fun d v => Rep H n (fun b => S b ∧ b ≠ a) d v) pr hk
theorem rep_upd {H : Hp} {n : Nat} {S : Addr → Prop} {d : D} {v : V} {a : Addr} {o u : HO} (ha : H a = some o) (no : ∀ xs, o ≠ .tup xs) (hS : ∀ b, S b → b ≠ a) (h : Rep H n S d v) : Rep (upd H a u) n S d v :=
  rep_to (fun b o' hb z => by
    have ne : b ≠ a := by
      rcases z with z | ⟨xs, rfl⟩
      · exact hS b z
      · intro e; rw [e, ha] at hb; exact no xs (Option.some.inj hb)
    rw [upd_ne ne]; exact hb) h
end Pk

namespace Pk
open PySem PySem.Spec PyProof.Rows L2 Ssb
open Evl (Ex Ev EvT EvL EvA EvU)
theorem kit_list : ∀ t ∈ ["NoneType", "bool", "int", "str", "tuple", "dict"], kitB t "list" = some false := by decide +kernel
theorem kit_tuple : ∀ t ∈ ["NoneType", "bool", "int", "str", "list", "dict"], kitB t "tuple" = some false := by decide +kernel
theorem kit_dict : ∀ t ∈ ["NoneType", "bool", "int", "str", "list", "tuple"], kitB t "dict" = some false := by decide +kernel
end Pk

namespace Pk
open PySem PySem.Spec PyProof.Rows L2 Ssb
open Evl (Ex Ev EvT EvL EvA EvU)
section
variable {P : Program} {w : World} {K : PySem.W.Frag} {mg : Str → Option Value} {base : Heap} {C_Node C_Rule C_InvalidRule : Addr}
def spSame (n : Nat) : Sp := fun vs H Q _ => ∃ (v u : V) (S1 S2 : Addr → Prop) (d : D), vs = [v, u] ∧ Rep H n S1 d v ∧ Rep H n S2 d u ∧ (∀ b, S1 b → ¬ S2 b) ∧ kn n d ∧ ∀ H', Ex H H' → Q (.bl true) H'
theorem ok__law_same (T : Txt K mg C_Node C_Rule C_InvalidRule) (R : Prg K mg C_Node C_Rule C_InvalidRule) : ∀ n, ∃ f fd, Fn P w K mg base "_law_same" (n + 1) ["_law_actual", "_law_expected"] (spSame n) f fd
  | 0 => by
    obtain ⟨f, fd, at_, F, kp⟩ := R._law_same
    refine ⟨f, fd, F.ok sc__law_same (fun vs H Q E h => ?_) (fun cdv A outer s H vs Q E hr h => ?_), at_, kp, F.binds (fun _ _ _ _ _ _ us hl => match us, hl with | [_, _], _ => rfl)⟩
    · obtain ⟨v, u, S1, S2, d, rfl, _⟩ := h; rfl
    · obtain ⟨v, u, S1, S2, d, rfl, h, _⟩ := h; exact h.elim
  | n + 1 => by
    obtain ⟨_, _, G__law_same⟩ := ok__law_same T R n
    obtain ⟨f, fd, at_, F, kp⟩ := R._law_same
    refine ⟨f, fd, F.ok sc__law_same (fun vs H Q E h => ?_) (fun cdv A outer s H vs Q E hr h => ?_), at_, kp, F.binds (fun _ _ _ _ _ _ us hl => match us, hl with | [_, _], _ => rfl)⟩
    · obtain ⟨v, u, S1, S2, d, rfl, _⟩ := h; rfl
    · obtain ⟨v, u, S1, S2, d, rfl, hv, hu, dis, hd, k⟩ := h
      refine ⟨_, (pss_cons (ps_if (pt_cmpR op_isN (pv 1) pe_non (nomark _)) (pss_one (ps_ret (pe_cmpR op_isN (pv 0) pe_non (nomark _)))) pss_nil)
  (pss_cons (ps_if (pt_val (pe_callB (r := rIsi K) call_isi (by rfl) T.isinstance (by decide +kernel) (pa_cons (pv 1) (pa_cons (pe_bltn (v := .ty "bool") (by rfl) T.bool boot_bool rfl) pa_nil)))) pss_never pss_nil)
  (pss_cons (ps_if (pt_val (pe_callB (r := rIsi K) call_isi (by rfl) T.isinstance (by decide +kernel) (pa_cons (pv 1) (pa_cons (pe_bltn (v := .ty "int") (by rfl) T.int boot_int rfl) pa_nil)))) (pss_one (ps_ret (pe_and (pe_callB (r := rIsi K) call_isi (by rfl) T.isinstance (by decide +kernel) (pa_cons (pv 0) (pa_cons (pe_bltn (v := .ty "int") (by rfl) T.int boot_int rfl) pa_nil))) (pe_and (pe_not (pe_callB (r := rIsi K) call_isi (by rfl) T.isinstance (by decide +kernel) (pa_cons (pv 0) (pa_cons (pe_bltn (v := .ty "bool") (by rfl) T.bool boot_bool rfl) pa_nil)))) (pe_one (pe_cmpR op_eq (pv 0) (pv 1) (nomark _))))))) pss_nil)
  (pss_cons (ps_if (pt_val (pe_callB (r := rIsi K) call_isi (by rfl) T.isinstance (by decide +kernel) (pa_cons (pv 1) (pa_cons (pe_bltn (v := .ty "str") (by rfl) T.str boot_str rfl) pa_nil)))) (pss_one (ps_ret (pe_and (pe_callB (r := rIsi K) call_isi (by rfl) T.isinstance (by decide +kernel) (pa_cons (pv 0) (pa_cons (pe_bltn (v := .ty "str") (by rfl) T.str boot_str rfl) pa_nil))) (pe_one (pe_cmpR op_eq (pv 0) (pv 1) (nomark _)))))) pss_nil)
  (pss_cons (ps_if (pt_val (pe_callB (r := rIsi K) call_isi (by rfl) T.isinstance (by decide +kernel) (pa_cons (pv 1) (pa_cons (pe_bltn (v := .ty "dict") (by rfl) T.dict boot_dict rfl) pa_nil)))) pss_never pss_nil)
  (pss_cons (ps_if (PW.pt (pw_and (pt_val (pe_callB (r := rIsi K) call_isi (by rfl) T.isinstance (by decide +kernel) (pa_cons (pv 1) (pa_cons (pe_bltn (v := .ty "tuple") (by rfl) T.tuple boot_tuple rfl) pa_nil)))) (pw_and1 (pt_not (pt_val (pe_callB (r := rIsi K) call_isi (by rfl) T.isinstance (by decide +kernel) (pa_cons (pv 0) (pa_cons (pe_bltn (v := .ty "tuple") (by rfl) T.tuple boot_tuple rfl) pa_nil)))))))) pss_never pss_nil)
  (pss_cons (ps_if (PW.pt (pw_and (pt_val (pe_callB (r := rIsi K) call_isi (by rfl) T.isinstance (by decide +kernel) (pa_cons (pv 1) (pa_cons (pe_bltn (v := .ty "list") (by rfl) T.list boot_list rfl) pa_nil)))) (pw_and1 (pt_not (pt_val (pe_callB (r := rIsi K) call_isi (by rfl) T.isinstance (by decide +kernel) (pa_cons (pv 0) (pa_cons (pe_bltn (v := .ty "list") (by rfl) T.list boot_list rfl) pa_nil)))))))) pss_never pss_nil)
  (pss_cons (ps_if (pt_cmpR op_ne (pe_callB (r := rLenA K) call_len (by rfl) T.len (by decide +kernel) (pa_cons (pv 0) pa_nil)) (pe_callB (r := rLenA K) call_len (by rfl) T.len (by decide +kernel) (pa_cons (pv 1) pa_nil)) (nomark _)) pss_never pss_nil)
  (pss_cons (ps_for PassesOwn.never rfl (pi_range1 (by rfl) T.range (pa_cons (pe_callB (r := rLenA K) call_len (by rfl) T.len (by decide +kernel) (pa_cons (pv 1) pa_nil)) pa_nil)) (pg_name (i := 3) sc__law_same.nd rfl (Or.inl rfl))
    (pss_one (ps_if (pt_not (pt_val (pcl G__law_same hr (pa_cons (pe_ix (r := rIx K) ix_seq (pv 0) (pv 3) (fun _ _ => rfl)) (pa_cons (pe_ix (r := rIx K) ix_seq (pv 1) (pv 3) (fun _ _ => rfl)) pa_nil))))) pss_never pss_nil)))
  (pss_one (ps_ret pe_bl))))))))))), ?_⟩
      have seq : ∀ {l : List D} {xs ys : List V} {a b : Addr} {H1 : Hp}, Ex H H1 → Paired (fun d x => Rep H n S1 d x) l xs → Paired (fun d x => Rep H n S2 d x) l ys → (SqL K H1 a xs ∨ SqT K H1 a xs) → (SqL K H1 b ys ∨ SqT K H1 b ys) → l.length ≤ 100000 → (∀ x ∈ l, kn n x) → ∀ {Q : VK}, (∀ H', Ex H1 H' → Q (.bl true) H') →
          tSeq (tFor (iRng1 (tCons (tCB (rLenA K) (tCons (tVar 1) tNil)) tNil)) (gName 3) (tIfS (tNot (tB (tCall (spSame n) [] E0 (tCons (tOp (rIx K) (tVar 0) (tVar 3)) (tCons (tOp (rIx K) (tVar 1) (tVar 3)) tNil))))) tNever tNext)) (tRet (tC (.bl true)))
            { nx := fun x H' => Q V.non H', rt := Q } [some (.ref a), some (.ref b), none, none] H1 := by
        intro l xs ys a b H1 e1 pa pb ha hb l5 hs Q q
        have la := pair_len pa
        have lb := pair_len pb
        refine Evl.q_forR1 (n := (l.length : Int)) (Evl.ea_cons (Evl.ev_is (ev_lenL (Evl.ev_var rfl) hb) (by rw [lb])) Evl.ea_nil) ⟨by omega, by omega⟩ (fun i σ' H' => ∃ o3 : Option V, σ' = [some (.ref a), some (.ref b), none, o3] ∧ Ex H1 H') (fun H2 e2 => ⟨_, rfl, e2⟩) (fun i σ' H' hi pv => ?_) fun σ' H' pv => ?_
        · obtain ⟨o3, rfl, e2⟩ := pv
          have il : i < l.length := by omega
          have hdi := List.getElem?_eq_getElem il
          obtain ⟨x, hx, rx⟩ := pair_at pa hdi
          obtain ⟨y, hy, ry⟩ := pair_at pb hdi
          have ix : ∀ {j : Nat} {c : Addr} {zs : List V} {z : V} {H3 : Hp}, Ex H1 H3 → (SqL K H1 c zs ∨ SqT K H1 c zs) → zs[i]? = some z → Evl.RV (rIx K) (.ref c) (.int (i : Int)) H3 z := fun {j c zs z H3} e3 hc hz => by
            rcases hc with hc | hc
            · exact fun H4 e4 Q q => .inl (Evl.rv_ixL (Evl.ex_l e3 hc) (atI_nat hz) H4 e4 Q q)
            · exact fun H4 e4 Q q => .inr (.inl (Evl.rv_ixT (Evl.ex_t e3 hc) (atI_nat hz) H4 e4 Q q))
          refine Evl.s_when (b := !true) (Evl.et_not (Evl.et_B (ev_fn (Evl.ea_cons (Evl.ev_op (Evl.ev_var rfl) (Evl.ev_var rfl) (ix (j := 0) e2 ha hx)) (Evl.ea_cons (Evl.ev_op (Evl.ev_var rfl) (Evl.ev_var rfl) (ix (j := 0) e2 hb hy)) Evl.ea_nil)) fun H3 e3 Q3 q3 => ⟨x, y, S1, S2, _, rfl, rep_ex ((e1.trans e2).trans e3) rx, rep_ex ((e1.trans e2).trans e3) ry, dis, hs _ (List.mem_of_getElem? hdi), q3⟩))) (fun h => nomatch h) fun _ H3 e3 => ⟨_, rfl, e2.trans e3⟩
        · obtain ⟨o3, rfl, e2⟩ := pv
          exact Evl.s_ret Evl.ev_c fun H3 e3 => q H3 (e2.trans e3)
      cases d with
      | int i =>
        have ev : v = .int i := hv
        have eu : u = .int i := hu
        subst ev eu
        refine Evl.q_when (b := false) (Evl.et_is (Evl.et_test (Evl.ev_op (Evl.ev_var rfl) Evl.ev_c rv_isN)) (by simp)) (fun h => nomatch h) (fun _ H1 e1 => ?_)
        refine Evl.q_when (b := false) (Evl.et_B (ev_kind false (Evl.ev_var rfl) (rep_ex e1 hu) (by show kitB "int" "bool" = _; decide +kernel))) (fun h => nomatch h) (fun _ H2 e2 => ?_)
        have e02 := e1.trans e2
        refine Evl.q_when (b := true) (Evl.et_B (ev_kind true (Evl.ev_var rfl) (rep_ex e02 hu) (by show kitB "int" "int" = _; decide +kernel))) (fun _ H3 e3 => ?_) (fun h => nomatch h)
        have hv3 := rep_ex (e02.trans e3) hv
        refine Evl.s_ret (v := .bl true) (Evl.ev_is (Evl.ev_andV (a := true) (b := true) (ev_kind true (Evl.ev_var rfl) hv3 (by show kitB "int" "int" = _; decide +kernel)) fun _ => Evl.ev_is (Evl.ev_andV (a := !false) (b := true) (Evl.ev_notV (ev_kind false (Evl.ev_var rfl) hv3 (by show kitB "int" "bool" = _; decide +kernel))) fun _ => Evl.ev_is (Evl.ev_op (Evl.ev_var rfl) (Evl.ev_var rfl) (Evl.rv_eq rfl)) (by simp)) rfl) rfl) fun H4 e4 => k H4 (e02.trans (e3.trans e4))
      | str z =>
        have ev : v = .str z := hv
        have eu : u = .str z := hu
        subst ev eu
        refine Evl.q_when (b := false) (Evl.et_is (Evl.et_test (Evl.ev_op (Evl.ev_var rfl) Evl.ev_c rv_isN)) (by simp)) (fun h => nomatch h) (fun _ H1 e1 => ?_)
        refine Evl.q_when (b := false) (Evl.et_B (ev_kind false (Evl.ev_var rfl) (rep_ex e1 hu) (by show kitB "str" "bool" = _; decide +kernel))) (fun h => nomatch h) (fun _ H2 e2 => ?_)
        have e02 := e1.trans e2
        refine Evl.q_when (b := false) (Evl.et_B (ev_kind false (Evl.ev_var rfl) (rep_ex e02 hu) (by show kitB "str" "int" = _; decide +kernel))) (fun h => nomatch h) (fun _ H3 e3 => ?_)
        have e03 := e02.trans e3
        refine Evl.q_when (b := true) (Evl.et_B (ev_kind true (Evl.ev_var rfl) (rep_ex e03 hu) (by show kitB "str" "str" = _; decide +kernel))) (fun _ H4 e4 => ?_) (fun h => nomatch h)
        have hv3 := rep_ex (e03.trans e4) hv
        refine Evl.s_ret (v := .bl true) (Evl.ev_is (Evl.ev_andV (a := true) (b := true) (ev_kind true (Evl.ev_var rfl) hv3 (by show kitB "str" "str" = _; decide +kernel)) fun _ => Evl.ev_is (Evl.ev_op (Evl.ev_var rfl) (Evl.ev_var rfl) (Evl.rv_eq rfl)) (by simp)) rfl) fun H5 e5 => k H5 (e03.trans (e4.trans e5))
      | tup l =>
        obtain ⟨a, xs, rfl, ha, l5, pa⟩ := id hv
        obtain ⟨b, ys, rfl, hb, _, pb⟩ := id hu
        refine Evl.q_when (b := false) (Evl.et_is (Evl.et_test (Evl.ev_op (Evl.ev_var rfl) Evl.ev_c rv_isN)) (by simp)) (fun h => nomatch h) (fun _ H1 e1 => ?_)
        refine Evl.q_when (b := false) (Evl.et_B (ev_kind false (Evl.ev_var rfl) (rep_ex e1 hu) (by show kitB "tuple" "bool" = _; decide +kernel))) (fun h => nomatch h) (fun _ H2 e2 => ?_)
        have e02 := e1.trans e2
        refine Evl.q_when (b := false) (Evl.et_B (ev_kind false (Evl.ev_var rfl) (rep_ex e02 hu) (by show kitB "tuple" "int" = _; decide +kernel))) (fun h => nomatch h) (fun _ H3 e3 => ?_)
        have e03 := e02.trans e3
        refine Evl.q_when (b := false) (Evl.et_B (ev_kind false (Evl.ev_var rfl) (rep_ex e03 hu) (by show kitB "tuple" "str" = _; decide +kernel))) (fun h => nomatch h) (fun _ H4 e4 => ?_)
        have e04 := e03.trans e4
        refine Evl.q_when (b := false) (Evl.et_B (ev_kind false (Evl.ev_var rfl) (rep_ex e04 hu) (by show kitB "tuple" "dict" = _; decide +kernel))) (fun h => nomatch h) (fun _ H5 e5 => ?_)
        have e05 := e04.trans e5
        refine Evl.q_when (b := true && !true) (Evl.et_and (Evl.et_B (ev_kind true (Evl.ev_var rfl) (rep_ex e05 hu) (by show kitB "tuple" "tuple" = _; decide +kernel))) fun _ => Evl.et_not (Evl.et_B (ev_kind true (Evl.ev_var rfl) (rep_ex e05 hv) (by show kitB "tuple" "tuple" = _; decide +kernel)))) (fun h => nomatch h) (fun _ H6 e6 => ?_)
        have e06 := e05.trans e6
        refine Evl.q_when (b := false && !true) (Evl.et_and (a := false) (b := !true) (Evl.et_B (ev_kind false (Evl.ev_var rfl) (rep_ex e06 hu) (by show kitB "tuple" "list" = _; decide +kernel))) fun h => nomatch h) (fun h => nomatch h) (fun _ H7 e7 => ?_)
        have e07 := e06.trans e7
        have la := pair_len pa
        have lb := pair_len pb
        refine Evl.q_when (b := false) (Evl.et_is (Evl.et_test (Evl.ev_op (ev_lenL (Evl.ev_var rfl) (.inr (Evl.st_of (e07 _ _ ha)))) (ev_lenL (Evl.ev_var rfl) (.inr (Evl.st_of (e07 _ _ hb)))) (Evl.rv_ne rfl))) (by rw [← la, ← lb]; simp)) (fun h => nomatch h) (fun _ H8 e8 => ?_)
        have e08 := e07.trans e8
        exact seq e08 pa pb (.inr (Evl.st_of (e08 _ _ ha))) (.inr (Evl.st_of (e08 _ _ hb))) l5 hd fun H9 e9 => k H9 (e08.trans e9)
      | lst l =>
        obtain ⟨a, xs, rfl, _, ha, l5, pa⟩ := id hv
        obtain ⟨b, ys, rfl, _, hb, _, pb⟩ := id hu
        refine Evl.q_when (b := false) (Evl.et_is (Evl.et_test (Evl.ev_op (Evl.ev_var rfl) Evl.ev_c rv_isN)) (by simp)) (fun h => nomatch h) (fun _ H1 e1 => ?_)
        refine Evl.q_when (b := false) (Evl.et_B (ev_kind false (Evl.ev_var rfl) (rep_ex e1 hu) (by show kitB "list" "bool" = _; decide +kernel))) (fun h => nomatch h) (fun _ H2 e2 => ?_)
        have e02 := e1.trans e2
        refine Evl.q_when (b := false) (Evl.et_B (ev_kind false (Evl.ev_var rfl) (rep_ex e02 hu) (by show kitB "list" "int" = _; decide +kernel))) (fun h => nomatch h) (fun _ H3 e3 => ?_)
        have e03 := e02.trans e3
        refine Evl.q_when (b := false) (Evl.et_B (ev_kind false (Evl.ev_var rfl) (rep_ex e03 hu) (by show kitB "list" "str" = _; decide +kernel))) (fun h => nomatch h) (fun _ H4 e4 => ?_)
        have e04 := e03.trans e4
        refine Evl.q_when (b := false) (Evl.et_B (ev_kind false (Evl.ev_var rfl) (rep_ex e04 hu) (by show kitB "list" "dict" = _; decide +kernel))) (fun h => nomatch h) (fun _ H5 e5 => ?_)
        have e05 := e04.trans e5
        refine Evl.q_when (b := false && !true) (Evl.et_and (a := false) (b := !true) (Evl.et_B (ev_kind false (Evl.ev_var rfl) (rep_ex e05 hu) (by show kitB "list" "tuple" = _; decide +kernel))) fun h => nomatch h) (fun h => nomatch h) (fun _ H6 e6 => ?_)
        have e06 := e05.trans e6
        refine Evl.q_when (b := true && !true) (Evl.et_and (Evl.et_B (ev_kind true (Evl.ev_var rfl) (rep_ex e06 hu) (by show kitB "list" "list" = _; decide +kernel))) fun _ => Evl.et_not (Evl.et_B (ev_kind true (Evl.ev_var rfl) (rep_ex e06 hv) (by show kitB "list" "list" = _; decide +kernel)))) (fun h => nomatch h) (fun _ H7 e7 => ?_)
        have e07 := e06.trans e7
        have la := pair_len pa
        have lb := pair_len pb
        refine Evl.q_when (b := false) (Evl.et_is (Evl.et_test (Evl.ev_op (ev_lenL (Evl.ev_var rfl) (.inl (Evl.sq_of (e07 _ _ ha)))) (ev_lenL (Evl.ev_var rfl) (.inl (Evl.sq_of (e07 _ _ hb)))) (Evl.rv_ne rfl))) (by rw [← la, ← lb]; simp)) (fun h => nomatch h) (fun _ H8 e8 => ?_)
        have e08 := e07.trans e8
        exact seq e08 pa pb (.inl (Evl.sq_of (e08 _ _ ha))) (.inl (Evl.sq_of (e08 _ _ hb))) l5 hd fun H9 e9 => k H9 (e08.trans e9)
      | non =>
        have ev : v = .non := hv
        have eu : u = .non := hu
        subst ev eu
        refine Evl.q_when (b := true) (Evl.et_is (Evl.et_test (Evl.ev_op (Evl.ev_var rfl) Evl.ev_c rv_isN)) (by simp)) (fun _ H1 e1 => ?_) (fun h => nomatch h)
        exact Evl.s_ret (v := .bl true) (Evl.ev_is (Evl.ev_op (Evl.ev_var rfl) Evl.ev_c rv_isN) (by simp)) fun H2 e2 => k H2 (e1.trans e2)
      | bl b => exact hd.elim
      | dic l => exact hd.elim
end
end Pk

namespace Pk
open PySem PySem.Spec PyProof.Rows L2 Ssb
open Evl (Ex Ev EvT EvL EvA EvU)
theorem map_range {α β : Type} {f : Nat → β} {g : α → β} : ∀ {l : List α} {n : Nat}, l.length = n → (∀ (i : Nat) (a : α), l[i]? = some a → f i = g a) → (List.range n).map f = l.map g := fun {l n} hn h => by
  refine List.ext_getElem? fun i => ?_
  rw [List.getElem?_map, List.getElem?_map]
  by_cases hi : i < n
  · have e : l[i]? = some (l[i]'(by omega)) := List.getElem?_eq_getElem (by omega)
    rw [e, List.getElem?_range hi]
    exact congrArg some (h i _ e)
  · have e : l[i]? = none := List.getElem?_eq_none_iff.mpr (by omega)
    rw [e, List.getElem?_eq_none_iff.mpr (by rw [List.length_range]; omega)]
    rfl
/-! ### the stream -/
def StAt (H : Hp) (S c : Addr) : Prop := S ≠ c ∧ ∃ (k : Int) (cs : List Int), H S = some (.lst [.ref c, .int k]) ∧ H c = some (.lst (cs.map V.int)) ∧ 0 < cs.length ∧ cs.length ≤ 63
/-- from H to H': the stream moved, all else stands -/
structure Mv (S c : Addr) (H H' : Hp) : Prop where
  a : StAt H S c
  z : StAt H' S c
  fr : ∀ b o, b ≠ S → b ≠ c → H b = some o → H' b = some o
theorem StAt.ex {S c : Addr} {H H' : Hp} (e : Ex H H') (h : StAt H S c) : StAt H' S c := by
  obtain ⟨n, k, cs, h1, h2, h3⟩ := h; exact ⟨n, k, cs, e _ _ h1, e _ _ h2, h3⟩
theorem Mv.ex {S c : Addr} {H H' : Hp} (a : StAt H S c) (e : Ex H H') : Mv S c H H' := ⟨a, a.ex e, fun b o _ _ h => e b o h⟩
theorem Mv.trans {S c : Addr} {H H' H2 : Hp} (m : Mv S c H H') (m2 : Mv S c H' H2) : Mv S c H H2 := ⟨m.a, m2.z, fun b o n1 n2 h => m2.fr b o n1 n2 (m.fr b o n1 n2 h)⟩
theorem Mv.tx {S c : Addr} {H H' H2 : Hp} (m : Mv S c H H') (e : Ex H' H2) : Mv S c H H2 := m.trans (.ex m.z e)
theorem StAt.someS {S c : Addr} {H : Hp} (a : StAt H S c) {b : Addr} (h : H b = none) : b ≠ S ∧ b ≠ c := by
  obtain ⟨n, k, cs, h1, h2, h3⟩ := a
  exact ⟨fun e => (by rw [e, h1] at h; cases h), fun e => (by rw [e, h2] at h; cases h)⟩
theorem Mv.back {S c : Addr} {H H' : Hp} (m : Mv S c H H') {b : Addr} (h : H' b = none) : H b = none := by
  obtain ⟨n1, n2⟩ := m.z.someS h
  cases e : H b with
  | none => rfl
  | some o => rw [m.fr b o n1 n2 e] at h; cases h
/-- an object that H does not know may change -/
theorem Mv.mut {S c : Addr} {H H' : Hp} {p : Addr} {o : HO} (m : Mv S c H H') (h : H p = none) : Mv S c H (upd H' p o) := by
  obtain ⟨n1, n2⟩ := m.a.someS h
  obtain ⟨n, k, cs, h1, h2, h3⟩ := m.z
  refine ⟨m.a, ⟨n, k, cs, by rw [upd_ne (Ne.symm n1)]; exact h1, by rw [upd_ne (Ne.symm n2)]; exact h2, h3⟩, fun b o' b1 b2 hb => ?_⟩
  have : b ≠ p := fun e => by rw [e, h] at hb; cases hb
  rw [upd_ne this]
  exact m.fr b o' b1 b2 hb
theorem Mv.new {S c : Addr} {H : Hp} {p : Addr} {o : HO} (a : StAt H S c) (h : H p = none) : Mv S c H (upd H p o) := .ex a (Ex.new h)
theorem rep_mv {S c : Addr} {H H' : Hp} (m : Mv S c H H') {n : Nat} {P : Addr → Prop} {d : D} {v : V} (n1 : ¬ P S) (n2 : ¬ P c) (h : Rep H n P d v) : Rep H' n P d v := by
  obtain ⟨_, k, cs, h1, h2, _⟩ := m.a
  refine rep_to (fun b o hb hp => m.fr b o (fun e => ?_) (fun e => ?_) hb) h
  · rw [e] at hp hb
    rcases hp with hp | ⟨xs, rfl⟩
    · exact n1 hp
    · rw [h1] at hb; cases hb
  · rw [e] at hp hb
    rcases hp with hp | ⟨xs, rfl⟩
    · exact n2 hp
    · rw [h2] at hb; cases hb
theorem Mv.tup {S c : Addr} {H H' : Hp} (m : Mv S c H H') {t : Addr} {xs : List V} (h : H t = some (.tup xs)) : H' t = some (.tup xs) := by
  obtain ⟨_, k, cs, h1, h2, _⟩ := m.a
  exact m.fr t _ (fun e => by rw [e, h1] at h; cases h) (fun e => by rw [e, h2] at h; cases h) h
theorem ev_int1 {te : TE} {σ : L2.St} {H : Hp} {i : Int} (h : Ev te σ H (.int i)) : Ev (tCB (fun xs H Q => (∃ i, xs = [V.int i] ∧ Q (.int i) H) ∨ ∃ k, xs = [V.bl k] ∧ Q (.int (if k then 1 else 0)) H) (tCons te tNil)) σ H (.int i) := fun H1 e Q q => h H1 e _ fun H2 e2 => .inl ⟨i, rfl, q H2 e2⟩
theorem at_get {α : Type} {xs : List α} {i : Int} (h0 : 0 ≤ i) (h1 : i < (xs.length : Int)) : ∃ v, xs[i.toNat]? = some v ∧ atI xs i = some v := by
  have h2 : i.toNat < xs.length := by omega
  refine ⟨xs[i.toNat], List.getElem?_eq_getElem h2, ?_⟩
  have := atI_nat (List.getElem?_eq_getElem h2)
  rw [show ((i.toNat : Nat) : Int) = i by omega] at this
  exact this
theorem shaped_ints (ns : List Int) : SeqAt.shaped (.list (ns.map PyData.int)) = true := by
  have h : PyData.canLayAll0 (ns.map PyData.int) = true ∧ PyData.depthAll (ns.map PyData.int) ≤ 1 := by
    induction ns with
    | nil => exact ⟨by simp [PyData.canLayAll0], by simp [PyData.depthAll]⟩
    | cons n ns ih => exact ⟨by simp [PyData.canLayAll0, PyData.canLay0, ih.1], by have := ih.2; simp [PyData.depthAll, PyData.depth]; omega⟩
  unfold SeqAt.shaped
  have h2 := h.2
  simp only [PyData.canLay0, PyData.depth, h.1, Bool.true_and]
  exact decide_eq_true (by omega)
theorem dp_ints {K : PySem.W.Frag} {H : Hp} {a : Addr} {ns : List Int} (h : SqL K H a (ns.map V.int)) : Dp K H (.ref a) (.list (ns.map PyData.int)) := by
  refine .lst h ?_
  clear h
  induction ns with
  | nil => exact .nil
  | cons n ns ih => exact .cons (.int n) ih
theorem el_lcN {K : PySem.W.Frag} {σ : L2.St} {H : Hp} {te tl : TE} {vs : List Nat} {j : Nat} {f : Nat → V} {xs : List V} (h : EvL tl σ H xs) (hz : xs.length ≤ 100000) (hw : ∀ x, wipe ((wipe σ vs).set j (some x)) vs = wipe σ vs)
    (he : ∀ (i : Nat) (x : V), xs[i]? = some x → ∀ H2, Ex H H2 → Ev te ((wipe σ vs).set j (some x)) H2 (f i)) : EvL (tLc (iList K tl) (gName j) tYes te vs) σ H ((List.range xs.length).map f) := fun H1 e Q q =>
  h H1 e _ fun a H2 ha e2 hx => ⟨a, rfl, ⟨xs, Evl.sq_of hx⟩, fun Dl hD =>
    el_walk (f := f) walk_list hz (fun H3 e3 => Evl.ex_l e3 (Evl.sq_of hx)) hw (fun i x h3 H3 e3 => he i x h3 H3 ((e.trans e2).trans e3)) (fun p H3 hp e3 hl => q p H3 (Evl.fresh_back e2 hp) (e2.trans e3) hl) Dl hD⟩
section
variable {P : Program} {w : World} {K : PySem.W.Frag} {mg : Str → Option Value} {base : Heap} {C_Node C_Rule C_InvalidRule : Addr}
def spStream (K : PySem.W.Frag) : Sp := fun vs H Q _ => ∃ (a : Addr) (ns : List Int), vs = [.ref a] ∧ SqL K H a (ns.map V.int) ∧ ∀ H' S c, StAt H' S c → Q (.ref S) H'
theorem ok__law_stream (T : Txt K mg C_Node C_Rule C_InvalidRule) (R : Prg K mg C_Node C_Rule C_InvalidRule) : ∃ f fd, Fn P w K mg base "_law_stream" 1 ["_law_script"] (spStream K) f fd := by
  obtain ⟨f, fd, at_, F, kp⟩ := R._law_stream
  refine ⟨f, fd, F.ok sc__law_stream (fun vs H Q E h => ?_) (fun cdv A outer s H vs Q E hr h => ?_), at_, kp, F.binds (fun _ _ _ _ _ _ us hl => match us, hl with | [_], _ => rfl)⟩
  · obtain ⟨a, ns, rfl, _⟩ := h; rfl
  · obtain ⟨a, ns, rfl, ha, k⟩ := h
    refine ⟨_, (pss_cons (ps_setLc (i := 1) (own := [("_law_cell", 2)]) rfl sc__law_stream.nd rfl rfl (sw_true rfl rfl rfl (by decide +kernel)) (show PI _ _ _ (iList K _) from pi_list (pe_slice (r := rSlL K) sl_list (pv 0) po_none (po_some pe_int))) (blkOk_by (own := [("_law_cell", 2)]) (N := ["_law_script", "_law_cells", "_law_cell"]) (sc := defScope s__law_stream) (by decide +kernel)) (fun _ _ _ _ _ => (pg_name (i := 2) sc__law_stream.nd rfl (Or.inl rfl))) (fun _ _ _ _ _ => pts_nil) (fun _ _ _ _ _ => (pe_callTy call_int1 (by rfl) T.int (by decide +kernel) (pa_cons (pv 2) pa_nil))))
  (Evl.pss_cut (ps_if (pt_cmpR (r := rEqD K) (op_eqD hr.units) (pv 1) (pe_lst pa_nil) (nomark _)) (pss_one (ps_set (i := 1) sc__law_stream.nd rfl (Or.inl rfl) (pe_lst (pa_cons pe_int pa_nil)))) pss_nil)
  (pss_one (ps_ret (pe_lst (pa_cons (pv 1) (pa_cons pe_int pa_nil))))))), ?_⟩
    obtain ⟨cs, hcs, c63⟩ : ∃ cs : List Int, cutV (ns.map V.int) none (some 63) = cs.map V.int ∧ cs.length ≤ 63 := by
      refine ⟨ns.take 63, ?_, by rw [List.length_take]; omega⟩
      unfold cutV
      rw [HT.sIx_none, show (some (63 : Int)) = some ((63 : Nat) : Int) from rfl, HT.sIx_nat, List.drop_zero, Nat.sub_zero, List.map_take]
      refine List.take_eq_take_iff.mpr ?_
      omega
    refine Evl.q_asgL (xs := cs.map V.int) ?_ fun p H1 hp e1 hp1 => ?_
    · have := el_lcN (K := K) (j := 2) (vs := [2]) (f := fun i => ((cs.map V.int)[i]?).getD .non) (te := tCB (fun xs H Q => (∃ i, xs = [V.int i] ∧ Q (.int i) H) ∨ ∃ k, xs = [V.bl k] ∧ Q (.int (if k then 1 else 0)) H) (tCons (tVar 2) tNil)) (hcs ▸ Evl.el_sl (σ := [some (.ref a), none, none]) (Evl.ev_var (i := 0) rfl) Evl.eo_none (Evl.eo_some Evl.ev_c) ha) (by rw [List.length_map]; omega) (fun _ => rfl) fun i x hx H2 e2 => ?_
      · rw [map_range (g := _root_.id) rfl (fun i a ha => by rw [ha]; rfl), List.map_id] at this
        exact this
      · rw [List.getElem?_map] at hx
        cases hy : cs[i]? with
        | none => rw [hy] at hx; cases hx
        | some y =>
        rw [hy] at hx
        cases hx
        refine Evl.ev_is (ev_int1 (i := y) (Evl.ev_var rfl)) ?_
        rw [List.getElem?_map, hy]; rfl
    · refine Evl.q_cut (M := fun σ' H' => ∃ (c : Addr) (cs : List Int) (o2 : Option V), σ' = [some (.ref a), some (.ref c), o2] ∧ H' c = some (.lst (cs.map V.int)) ∧ 0 < cs.length ∧ cs.length ≤ 63) ?_ ?_
      · refine ⟨_, rfl, (by show 0 ≤ sizeLine; decide), fun q hq => ?_⟩
        have e2 : Ex H1 (upd H1 q (.lst [])) := Ex.new hq
        refine ⟨_, _, dp_ints (ns := cs) (Evl.sq_of (e2 _ _ hp1)), dp_ints (ns := []) (Evl.sq_of upd_same), shaped_ints _, shaped_ints _, _, rfl, ?_⟩
        cases cs with
        | nil =>
          refine iteT ?_
          exact Evl.s_asgL (xs := [V.int 0]) (Evl.el_lst (Evl.ea_cons Evl.ev_c Evl.ea_nil) (by show 1 ≤ 100000; decide)) fun p2 H2 _ e3 hp2 => ⟨p2, [0], _, rfl, hp2, by decide, by decide⟩
        | cons x cs =>
          refine iteF ?_
          exact ⟨p, x :: cs, _, rfl, e2 _ _ hp1, by simp, c63⟩
      · rintro σ' H' ⟨c, cs, o2, rfl, hc, c0, c1⟩
        exact Evl.s_retL (xs := [.ref c, .int 0]) (Evl.el_lst (Evl.ea_cons (Evl.ev_var rfl) (Evl.ea_cons Evl.ev_c Evl.ea_nil)) (by show 2 ≤ 100000; decide)) fun q H2 hq e2 hq2 => k H2 q c ⟨fun e => (by rw [e, hc] at hq; cases hq), 0, cs, hq2, e2 _ _ hc, c0, c1⟩
def spDraw : Sp := fun vs H Q _ => ∃ (S c : Addr) (m : Int), vs = [.ref S, .int m] ∧ StAt H S c ∧ 1 ≤ m ∧ m < 1073741824 * 1073741824 * 1073741824 * 1073741824 ∧ ∀ H' r, Mv S c H H' → 0 ≤ r → r < m → Q (.int r) H'
theorem ok__law_draw (T : Txt K mg C_Node C_Rule C_InvalidRule) (R : Prg K mg C_Node C_Rule C_InvalidRule) : ∃ f fd, Fn P w K mg base "_law_draw" 1 ["_law_stream_here", "_law_many"] spDraw f fd := by
  obtain ⟨f, fd, at_, F, kp⟩ := R._law_draw
  refine ⟨f, fd, F.ok sc__law_draw (fun vs H Q E h => ?_) (fun cdv A outer s H vs Q E hr h => ?_), at_, kp, F.binds (fun _ _ _ _ _ _ us hl => match us, hl with | [_, _], _ => rfl)⟩
  · obtain ⟨S, c, m, rfl, _⟩ := h; rfl
  · obtain ⟨S, c, m, rfl, st, m1, m2, k⟩ := h
    obtain ⟨ne, k0, cs, hS, hc, c0, c63⟩ := id st
    refine ⟨_, (pss_cons (ps_set (i := 2) sc__law_draw.nd rfl (Or.inl rfl) (pe_ix (r := rIxL K) ix_list (pv 0) pe_int (fun _ _ => rfl)))
  (pss_cons (ps_set (i := 3) sc__law_draw.nd rfl (Or.inl rfl) (pe_ix (r := rIxL K) ix_list (pv 0) pe_int (fun _ _ => rfl)))
  (pss_cons (ps_asg (pe_op op_add (pv 3) pe_int) (pg_sub (pv 0) pe_int set_list))
  (pss_cons (ps_set (i := 4) sc__law_draw.nd rfl (Or.inl rfl) (pe_op op_mod (pe_callTy call_int1 (by rfl) T.int (by decide +kernel) (pa_cons (pv 3) pa_nil)) (pe_callB (r := rLenA K) call_len (by rfl) T.len (by decide +kernel) (pa_cons (pv 2) pa_nil))))
  (pss_cons (ps_set (i := 5) sc__law_draw.nd rfl (Or.inl rfl) (pe_ix (r := rIxL K) ix_list (pv 2) (pv 4) (fun _ _ => rfl)))
  (pss_cons (ps_if (pt_cmpR op_ge (pv 5) (pe_op op_pow pe_int pe_int) (nomark _)) (pss_cons (ps_asg (pe_op op_fdivW (pv 5) (pv 1)) (pg_sub (pv 2) (pv 4) set_list))
  (pss_one (ps_ret (pe_op op_mod (pe_callTy call_int1 (by rfl) T.int (by decide +kernel) (pa_cons (pv 5) pa_nil)) (pv 1))))) pss_nil)
  (pss_cons (ps_set (i := 6) sc__law_draw.nd rfl (Or.inl rfl) (pe_op op_mod (pe_op op_mul (pe_callTy call_int1 (by rfl) T.int (by decide +kernel) (pa_cons (pe_op op_add (pe_op op_add (pv 5) (pe_op op_mul pe_int (pv 3))) pe_int) pa_nil)) pe_int) pe_int))
  (pss_cons (ps_set (i := 6) sc__law_draw.nd rfl (Or.inl rfl) (pe_op op_mod (pe_callTy call_int1 (by rfl) T.int (by decide +kernel) (pa_cons (pe_op op_mul (pv 6) (pe_op op_add (pe_op op_fdiv (pv 6) pe_int) pe_int)) pa_nil)) pe_int))
  (pss_cons (ps_set (i := 6) sc__law_draw.nd rfl (Or.inl rfl) (pe_op op_mod (pe_callTy call_int1 (by rfl) T.int (by decide +kernel) (pa_cons (pe_op op_mul (pv 6) (pe_op op_add (pe_op op_fdiv (pv 6) pe_int) pe_int)) pa_nil)) pe_int))
  (pss_one (ps_ret (pe_op op_mod (pe_callTy call_int1 (by rfl) T.int (by decide +kernel) (pa_cons (pv 6) pa_nil)) (pv 1))))))))))))), ?_⟩
    refine Evl.q_asg (Evl.ev_op (Evl.ev_var rfl) Evl.ev_c (Evl.rv_ixL (Evl.sq_of hS) rfl)) fun H1 e1 => ?_
    refine Evl.q_asg (Evl.ev_op (Evl.ev_var rfl) Evl.ev_c (Evl.rv_ixL (Evl.sq_of (e1 _ _ hS)) rfl)) fun H2 e2 => ?_
    have e02 := e1.trans e2
    refine Evl.q_setL (l := S) (j := 1) (v := .int (k0 + 1)) (e02 _ _ hS) (Evl.ev_op (Evl.ev_var rfl) Evl.ev_c Evl.rv_I0) (Evl.ev_var rfl) Evl.ev_c (by show 1 < 2; decide) fun H3 e3 => ?_
    have m3 : Mv S c H (upd H3 S (.lst ([V.ref c, .int k0].set 1 (.int (k0 + 1))))) := by
      have e03 := e02.trans e3
      refine ⟨st, ⟨ne, k0 + 1, cs, upd_same, by rw [upd_ne (Ne.symm ne)]; exact e03 _ _ hc, c0, c63⟩, fun b o b1 b2 hb => ?_⟩
      rw [upd_ne b1]
      exact e03 _ _ hb
    have hc3 : (upd H3 S (.lst ([V.ref c, .int k0].set 1 (.int (k0 + 1))))) c = some (.lst (cs.map V.int)) := by rw [upd_ne (Ne.symm ne)]; exact (e02.trans e3) _ _ hc
    generalize (upd H3 S (.lst ([V.ref c, .int k0].set 1 (.int (k0 + 1))))) = H4 at m3 hc3 ⊢
    have l0 : (0 : Int) < ((cs.map V.int).length : Int) := by rw [List.length_map]; omega
    refine Evl.q_asg (Evl.ev_op (ev_int1 (Evl.ev_var rfl)) (ev_lenL (Evl.ev_var rfl) (.inl (Evl.sq_of hc3))) (Evl.rv_I l0)) fun H5 e5 => ?_
    have a0 : 0 ≤ k0 % ((cs.map V.int).length : Int) := Int.emod_nonneg _ (by omega)
    have a1 : k0 % ((cs.map V.int).length : Int) < ((cs.map V.int).length : Int) := Int.emod_lt_of_pos _ l0
    generalize k0 % ((cs.map V.int).length : Int) = at_ at a0 a1 ⊢
    obtain ⟨v, hv, hat⟩ := at_get a0 a1
    obtain ⟨x, rfl⟩ : ∃ x, v = V.int x := by
      rw [List.getElem?_map] at hv
      cases hy : cs[at_.toNat]? with
      | none => rw [hy] at hv; cases hv
      | some y => rw [hy] at hv; exact ⟨y, (Option.some.inj hv).symm⟩
    refine Evl.q_asg (Evl.ev_op (Evl.ev_var rfl) (Evl.ev_var rfl) (Evl.rv_ixL (Evl.sq_of (e5 _ _ hc3)) hat)) fun H6 e6 => ?_
    have m6 := m3.tx (e5.trans e6)
    have hc6 := (e5.trans e6) _ _ hc3
    clear hc3 m3 e5 e6 e3 e02 e2 e1
    refine Evl.q_when (Evl.et_test (Evl.ev_op (Evl.ev_var rfl) (Evl.ev_op Evl.ev_c Evl.ev_c (Evl.rv_I ⟨by decide, by decide, by decide⟩)) Evl.rv_I0)) (fun _ H7 e7 => ?_) (fun _ H7 e7 => ?_)
    · have ej : ((at_.toNat : Nat) : Int) = at_ := by omega
      refine Evl.q_setL (l := c) (j := at_.toNat) (v := .int (x / m)) (e7 _ _ hc6) (Evl.ev_op (Evl.ev_var rfl) (Evl.ev_var rfl) (Evl.rv_I ⟨by omega, ?_⟩)) (Evl.ev_var rfl) (Evl.ev_var (by rw [ej]; rfl)) (by omega) fun H8 e8 => ?_
      · have : m.natAbs < 2 ^ 120 := by omega
        have h2 : m.natAbs.log2 < 120 := (Nat.log2_lt (by omega)).mpr this
        omega
      · have m8 : Mv S c H (upd H8 c (.lst ((cs.map V.int).set at_.toNat (.int (x / m))))) := by
          have m7 := m6.tx (e7.trans e8)
          obtain ⟨_, k1, cs1, h1, h2, h3⟩ := m7.z
          refine ⟨st, ⟨ne, k1, cs.set at_.toNat (x / m), by rw [upd_ne ne]; exact h1, by rw [upd_same, List.map_set], by rw [List.length_set]; exact c0, by rw [List.length_set]; exact c63⟩, fun b o b1 b2 hb => ?_⟩
          rw [upd_ne b2]
          exact m7.fr b o b1 b2 hb
        refine Evl.s_ret (Evl.ev_op (ev_int1 (Evl.ev_var rfl)) (Evl.ev_var rfl) (Evl.rv_I (by omega))) fun H9 e9 => k H9 _ (m8.tx e9) (Int.emod_nonneg _ (by omega)) (Int.emod_lt_of_pos _ (by omega))
    · have m7 := m6.tx e7
      refine Evl.q_asg (Evl.ev_op (Evl.ev_op (ev_int1 (Evl.ev_op (Evl.ev_op (Evl.ev_var rfl) (Evl.ev_op Evl.ev_c (Evl.ev_var rfl) (Evl.rv_I (.inl ⟨by decide, by decide⟩))) Evl.rv_I0) Evl.ev_c Evl.rv_I0)) Evl.ev_c (Evl.rv_I (.inr ⟨by decide, by decide⟩))) Evl.ev_c (Evl.rv_I (by decide))) fun H8 e8 => ?_
      have b0 : 0 ≤ (x + 7919 * k0 + 1) * 48271 % 2147483647 := Int.emod_nonneg _ (by decide)
      have b1 : (x + 7919 * k0 + 1) * 48271 % 2147483647 < 2147483647 := Int.emod_lt_of_pos _ (by decide)
      generalize (x + 7919 * k0 + 1) * 48271 % 2147483647 = y at b0 b1 ⊢
      refine Evl.q_asg (Evl.ev_op (ev_int1 (Evl.ev_op (Evl.ev_var rfl) (Evl.ev_op (Evl.ev_op (Evl.ev_var rfl) Evl.ev_c (Evl.rv_I ⟨by decide, by decide⟩)) Evl.ev_c Evl.rv_I0) (Evl.rv_I (.inl ⟨by omega, by omega⟩)))) Evl.ev_c (Evl.rv_I (by decide))) fun H9 e9 => ?_
      have b0 : 0 ≤ y * (y / 1009 + 69621) % 2147483647 := Int.emod_nonneg _ (by decide)
      have b1 : y * (y / 1009 + 69621) % 2147483647 < 2147483647 := Int.emod_lt_of_pos _ (by decide)
      generalize y * (y / 1009 + 69621) % 2147483647 = z at b0 b1 ⊢
      refine Evl.q_asg (Evl.ev_op (ev_int1 (Evl.ev_op (Evl.ev_var rfl) (Evl.ev_op (Evl.ev_op (Evl.ev_var rfl) Evl.ev_c (Evl.rv_I ⟨by decide, by decide⟩)) Evl.ev_c Evl.rv_I0) (Evl.rv_I (.inl ⟨by omega, by omega⟩)))) Evl.ev_c (Evl.rv_I (by decide))) fun H10 e10 => ?_
      refine Evl.s_ret (Evl.ev_op (ev_int1 (Evl.ev_var rfl)) (Evl.ev_var rfl) (Evl.rv_I (by omega))) fun H11 e11 => k H11 _ (m7.tx (e8.trans (e9.trans (e10.trans e11)))) (Int.emod_nonneg _ (by omega)) (Int.emod_lt_of_pos _ (by omega))
end
end Pk

namespace Pk
open PySem PySem.Spec PyProof.Rows L2 Ssb
open Evl (Ex Ev EvT EvL EvA EvU)
/-! ### owners -/
def ownD : D → D
  | .tup (_ :: _ :: ow :: _) => ow
  | _ => .non
def belowD : D → List D
  | .tup (_ :: _ :: _ :: .lst bl :: _) => bl
  | _ => []
/-- the owners of all nodes -/
def ownsD : Nat → List D → List D
  | 0, _ => []
  | m + 1, ds => ds.flatMap fun d => ownD d :: ownsD m (belowD d)
theorem owns_nil : ∀ m, ownsD m [] = []
  | 0 => rfl
  | _ + 1 => rfl
theorem owns_app {m : Nat} {xs ys : List D} : ownsD (m + 1) (xs ++ ys) = ownsD (m + 1) xs ++ ownsD (m + 1) ys := List.flatMap_append
theorem owns_one {m : Nat} {d : D} : ownsD (m + 1) [d] = ownD d :: ownsD m (belowD d) := by
  show List.flatMap _ [d] = _
  rw [List.flatMap_cons, List.flatMap_nil, List.append_nil]
/-- where the owners of a generated tree stand -/
def PlD : Nat → List Int → List D → Prop
  | 0, _, _ => True
  | m + 1, pl, ds => ∀ (i : Nat) (d : D), ds[i]? = some d → (∃ z : Int, ownD d = .tup [.tup ((pl ++ [0 + (i : Int)]).map D.int), .tup [.int z]]) ∧ PlD m (pl ++ [0 + (i : Int), 0]) (belowD d)
theorem PlD.nil : ∀ {m : Nat} {pl : List Int}, PlD m pl []
  | 0, _ => True.intro
  | _ + 1, _ => fun i d h => by simp at h
theorem PlD.snoc {m i : Nat} {pl : List Int} {ds : List D} {d : D} (h : PlD (m + 1) pl ds) (l : ds.length = i) (ho : ∃ z : Int, ownD d = .tup [.tup ((pl ++ [0 + (i : Int)]).map D.int), .tup [.int z]]) (hb : PlD m (pl ++ [0 + (i : Int), 0]) (belowD d)) : PlD (m + 1) pl (ds ++ [d]) := fun j e hj => by
  by_cases c : j < ds.length
  · rw [List.getElem?_append_left c] at hj
    exact h j e hj
  · have lj := (List.getElem?_eq_some_iff.mp hj).1
    rw [List.length_append, List.length_singleton] at lj
    have : j = i := by omega
    subst this
    rw [List.getElem?_append_right (by omega)] at hj
    have e0 : j - ds.length = 0 := by omega
    rw [e0] at hj
    cases hj
    exact ⟨ho, hb⟩
/-! ### trees of nodes, as data -/
theorem q_go {te : TE} {i : Nat} {tz : TS} {D_ : Ends} {σ : L2.St} {H : Hp} (h : te σ H fun v H1 => tz D_ (σ.set i (some v)) H1) : tSeq (tAsg te (gName i)) tz D_ σ H := h
theorem q_seq {tu tz : TS} {D_ : Ends} {σ : L2.St} {H : Hp} (h : tu { D_ with nx := tz D_ } σ H) : tSeq tu tz D_ σ H := h
def Fs : Addr → Prop := fun _ => False
/-- a key of a node -/
def KyD (d : D) : Prop := kdD 3 d ∧ (d = .non ∨ ∃ l, d = .tup l)
/-- nodes of at most that depth, at most b in a list -/
def NdB (b : Nat) : Nat → D → Prop
  | 0, _ => False
  | m + 1, d => ∃ kd ky ow bl, d = .tup [kd, ky, ow, .lst bl] ∧ (kd = .non ∨ ∃ s, kd = .str s) ∧ KyD ky ∧ (∃ l, ow = .tup l ∧ kdD 3 ow) ∧ bl.length ≤ b ∧ ∀ x ∈ bl, NdB b m x
abbrev NdD : Nat → D → Prop := NdB 24
theorem NdB.le {b b' : Nat} (h : b ≤ b') : ∀ {m m' : Nat} {d : D}, m ≤ m' → NdB b m d → NdB b' m' d
  | 0, _, _, _, h => h.elim
  | m + 1, 0, _, l, _ => absurd l (by omega)
  | m + 1, m' + 1, _, l, h0 => by
    obtain ⟨kd, ky, ow, bl, e, h1, h2, h3, h4, h5⟩ := h0
    exact ⟨kd, ky, ow, bl, e, h1, h2, h3, Nat.le_trans h4 h, fun x hx => NdB.le h (by omega) (h5 x hx)⟩
section
variable {K : PySem.W.Frag} {σ : L2.St} {H : Hp} {S c : Addr} {m : Int} {ta : TA}
theorem dr_go {Q : VK} (h : EvA ta σ H [.ref S, .int m]) (st : StAt H S c) (h1 : 1 ≤ m) (h2 : m ≤ 2000000) (q : ∀ H' r, Mv S c H H' → 0 ≤ r → r < m → Q (.int r) H') : tCall spDraw [] E0 ta σ H Q :=
  h H (Ex.refl _) _ fun H1 e1 => ⟨S, c, m, rfl, st.ex e1, h1, by omega, fun H' r mv r0 r1 => q H' r ((Mv.ex st e1).trans mv) r0 r1⟩
theorem pick2 {x y : Str} {Q : VK} (st : StAt H S c) (h0 : σ[0]? = some (some (.ref S))) (k : ∀ H' z, Mv S c H H' → Q (.str z) H') : (tOp (rIxT K) (tTup (tCons (tC (.str x)) (tCons (tC (.str y)) tNil))) (tCall spDraw [] E0 (tCons (tVar 0) (tCons (tC (.int 2)) tNil)))) σ H Q := by
  refine ⟨(by show 2 ≤ sizeLine; decide), fun ab hab => ?_⟩
  have m1 := Mv.new (o := .tup [.str x, .str y]) st hab
  refine dr_go (m := 2) (Evl.ea_cons (Evl.ev_var h0) (Evl.ea_cons Evl.ev_c Evl.ea_nil)) m1.z (by decide) (by decide) fun H2 r m2 r0 r1 => ?_
  have hab2 := m2.tup (upd_same (H := H) (a := ab) (o := .tup [.str x, .str y]))
  have : r = 0 ∨ r = 1 := by omega
  rcases this with rfl | rfl
  · exact ⟨ab, [.str x, .str y], 0, .str x, rfl, rfl, Evl.st_of hab2, rfl, k _ _ (m1.trans m2)⟩
  · exact ⟨ab, [.str x, .str y], 1, .str y, rfl, rfl, Evl.st_of hab2, rfl, k _ _ (m1.trans m2)⟩
theorem pick3 {x y : Str} {Q : VK} (st : StAt H S c) (h0 : σ[0]? = some (some (.ref S))) (k : ∀ H' d v, Mv S c H H' → (d = .non ∨ ∃ s, d = .str s) → (∀ n H2, Rep H2 (n + 1) Fs d v) → Q v H') : (tOp (rIxT K) (tTup (tCons (tC .non) (tCons (tC (.str x)) (tCons (tC (.str y)) tNil)))) (tCall spDraw [] E0 (tCons (tVar 0) (tCons (tC (.int 3)) tNil)))) σ H Q := by
  refine ⟨(by show 3 ≤ sizeLine; decide), fun ab hab => ?_⟩
  have m1 := Mv.new (o := .tup [.non, .str x, .str y]) st hab
  refine dr_go (m := 3) (Evl.ea_cons (Evl.ev_var h0) (Evl.ea_cons Evl.ev_c Evl.ea_nil)) m1.z (by decide) (by decide) fun H2 r m2 r0 r1 => ?_
  have hab2 := m2.tup (upd_same (H := H) (a := ab) (o := .tup [.non, .str x, .str y]))
  have : r = 0 ∨ r = 1 ∨ r = 2 := by omega
  rcases this with rfl | rfl | rfl
  · exact ⟨ab, [.non, .str x, .str y], 0, .non, rfl, rfl, Evl.st_of hab2, rfl, k _ .non _ (m1.trans m2) (.inl rfl) fun _ _ => rfl⟩
  · exact ⟨ab, [.non, .str x, .str y], 1, .str x, rfl, rfl, Evl.st_of hab2, rfl, k _ (.str x) _ (m1.trans m2) (.inr ⟨_, rfl⟩) fun _ _ => rfl⟩
  · exact ⟨ab, [.non, .str x, .str y], 2, .str y, rfl, rfl, Evl.st_of hab2, rfl, k _ (.str y) _ (m1.trans m2) (.inr ⟨_, rfl⟩) fun _ _ => rfl⟩
end
section
variable {P : Program} {w : World} {K : PySem.W.Frag} {mg : Str → Option Value} {base : Heap} {C_Node C_Rule C_InvalidRule : Addr}
theorem cat_ints {σ : L2.St} {H : Hp} {t1 : TE} {t2 : TA} {a : Addr} {xs ys : List V} {Q : VK} (h1 : Ev t1 σ H (.ref a)) (ha : H a = some (.tup xs)) (h2 : EvA t2 σ H ys) (ne : ys ≠ []) (l : xs.length + ys.length ≤ 1000)
    (q : ∀ H' p, Ex H H' → H' p = some (.tup (xs ++ ys)) → Q (.ref p) H') : tOp (rCatA K) t1 (tTup t2) σ H Q :=
  h1 H (Ex.refl _) _ fun H1 e1 => h2 H1 e1 _ fun H2 e2 => ⟨Nat.le_trans (Nat.le_trans (Nat.le_add_left _ _) l) (by show 1000 ≤ sizeLine; decide), fun t ht => ⟨a, t, xs, ys, rfl, rfl, Evl.st_of (((e1.trans e2).trans (Ex.new ht)) _ _ ha), Evl.st_of upd_same, Evl.sz_of (by omega),
    fun z => q _ _ ((e1.trans e2).trans (Ex.new ht)) (by rw [z]; exact upd_same), fun _ z => absurd z ne, fun _ _ p hp => q _ _ (((e1.trans e2).trans (Ex.new ht)).trans (Ex.new hp)) upd_same⟩⟩
def spTKey : Sp := fun vs H Q _ => ∃ (S c : Addr), vs = [.ref S] ∧ StAt H S c ∧ ∀ H' v d, Mv S c H H' → Rep H' 4 Fs d v → KyD d → Q v H'
theorem ok__law_tree_key (T : Txt K mg C_Node C_Rule C_InvalidRule) (R : Prg K mg C_Node C_Rule C_InvalidRule) : ∃ f fd, Fn P w K mg base "_law_tree_key" 2 ["_law_stream_here"] spTKey f fd := by
  obtain ⟨_, _, G__law_draw⟩ := ok__law_draw (P := P) (w := w) (base := base) T R
  obtain ⟨f, fd, at_, F, kp⟩ := R._law_tree_key
  refine ⟨f, fd, F.ok sc__law_tree_key (fun vs H Q E h => ?_) (fun cdv A outer s H vs Q E hr h => ?_), at_, kp, F.binds (fun _ _ _ _ _ _ us hl => match us, hl with | [_], _ => rfl)⟩
  · obtain ⟨S, c, rfl, _⟩ := h; rfl
  · obtain ⟨S, c, rfl, st, k⟩ := h
    refine ⟨_, (pss_cons (ps_set (i := 1) sc__law_tree_key.nd rfl (Or.inl rfl) (pcl G__law_draw hr (pa_cons (pv 0) (pa_cons pe_int pa_nil))))
  (pss_cons (ps_if (pt_cmpR op_lt (pv 1) pe_int (nomark _)) (pss_one (ps_ret pe_non)) pss_nil)
  (pss_cons (ps_if (pt_cmpR op_eq (pv 1) pe_int (nomark _)) (pss_one (ps_ret (pe_tup (pa_cons pe_str (pa_cons (pe_ix (r := rIxT K) ix_tup (pe_tup (pa_cons pe_str (pa_cons pe_str pa_nil))) (pcl G__law_draw hr (pa_cons (pv 0) (pa_cons pe_int pa_nil))) (fun _ _ => rfl)) pa_nil))))) pss_nil)
  (pss_cons (ps_if (pt_cmpR op_eq (pv 1) pe_int (nomark _)) (pss_one (ps_ret (pe_tup (pa_cons pe_str (pa_cons (pcl G__law_draw hr (pa_cons (pv 0) (pa_cons pe_int pa_nil))) pa_nil))))) pss_nil)
  (pss_one (ps_ret (pe_tup (pa_cons pe_str (pa_cons (pe_tup (pa_cons pe_str (pa_cons (pcl G__law_draw hr (pa_cons (pv 0) (pa_cons pe_int pa_nil))) pa_nil))) (pa_cons (pe_tup (pa_cons pe_str (pa_cons (pe_ix (r := rIxT K) ix_tup (pe_tup (pa_cons pe_str (pa_cons pe_str pa_nil))) (pcl G__law_draw hr (pa_cons (pv 0) (pa_cons pe_int pa_nil))) (fun _ _ => rfl)) pa_nil))) pa_nil)))))))))), ?_⟩
    refine q_go (dr_go (m := 5) (Evl.ea_cons (Evl.ev_var rfl) (Evl.ea_cons Evl.ev_c Evl.ea_nil)) st (by decide) (by decide) fun H1 r m1 r0 r1 => ?_)
    refine Evl.q_when (Evl.et_test (Evl.ev_op (Evl.ev_var rfl) Evl.ev_c Evl.rv_I0)) (fun hb H2 e2 => Evl.s_ret Evl.ev_c fun H3 e3 => k H3 _ .non (m1.tx (e2.trans e3)) rfl ⟨trivial, .inl rfl⟩) fun hb H2 e2 => ?_
    have m2 := m1.tx e2
    refine Evl.q_when (Evl.et_test (Evl.ev_op (Evl.ev_var rfl) Evl.ev_c (Evl.rv_eq rfl))) (fun hb H3 e3 => ?_) fun hb H3 e3 => ?_
    · have m3 := m2.tx e3
      refine pick2 m3.z rfl fun H4 z m4 => ⟨(by show 2 ≤ sizeLine; decide), fun tp htp => ?_⟩
      exact k _ _ (.tup [.str "word", .str z]) ((m3.trans m4).tx (Ex.new htp)) ⟨tp, _, rfl, upd_same, by show 2 ≤ 100000; decide, .cons rfl (.cons rfl .nil)⟩ ⟨fun x hx => by
        rcases List.mem_cons.mp hx with rfl | hx
        · trivial
        · rw [List.mem_singleton.mp hx]; trivial, .inr ⟨_, rfl⟩⟩
    have m3 := m2.tx e3
    refine Evl.q_when (Evl.et_test (Evl.ev_op (Evl.ev_var rfl) Evl.ev_c (Evl.rv_eq rfl))) (fun hb H4 e4 => ?_) fun hb H4 e4 => ?_
    · have m4 := m3.tx e4
      refine dr_go (m := 3) (Evl.ea_cons (Evl.ev_var rfl) (Evl.ea_cons Evl.ev_c Evl.ea_nil)) m4.z (by decide) (by decide) fun H5 z m5 _ _ => ⟨(by show 2 ≤ sizeLine; decide), fun tp htp => ?_⟩
      exact k _ _ (.tup [.str "id", .int z]) ((m4.trans m5).tx (Ex.new htp)) ⟨tp, _, rfl, upd_same, by show 2 ≤ 100000; decide, .cons rfl (.cons rfl .nil)⟩ ⟨fun x hx => by
        rcases List.mem_cons.mp hx with rfl | hx
        · trivial
        · rw [List.mem_singleton.mp hx]; trivial, .inr ⟨_, rfl⟩⟩
    · have m4 := m3.tx e4
      refine dr_go (m := 2) (Evl.ea_cons (Evl.ev_var rfl) (Evl.ea_cons Evl.ev_c Evl.ea_nil)) m4.z (by decide) (by decide) fun H5 z m5 _ _ => ⟨(by show 2 ≤ sizeLine; decide), fun t1 h1 => ?_⟩
      have m5' := (m4.trans m5).tx (Ex.new (o := .tup [.str "id", .int z]) h1)
      refine pick2 m5'.z rfl fun H6 y m6 => ⟨(by show 2 ≤ sizeLine; decide), fun t2 h2 => ?_⟩
      have e6 := Ex.new (o := .tup [.str "field", .str y]) h2
      have h16 := e6 _ _ (m6.tup (upd_same (H := H5) (a := t1) (o := .tup [.str "id", .int z])))
      refine ⟨(by show 3 ≤ sizeLine; decide), fun t3 h3 => ?_⟩
      have e7 := Ex.new (o := .tup [.str "both", .ref t1, .ref t2]) h3
      exact k _ _ (.tup [.str "both", .tup [.str "id", .int z], .tup [.str "field", .str y]]) (((m5'.trans m6).tx e6).tx e7) ⟨t3, _, rfl, upd_same, by show 3 ≤ 100000; decide, .cons rfl (.cons ⟨t1, _, rfl, e7 _ _ h16, by show 2 ≤ 100000; decide, .cons rfl (.cons rfl .nil)⟩ (.cons ⟨t2, _, rfl, e7 _ _ upd_same, by show 2 ≤ 100000; decide, .cons rfl (.cons rfl .nil)⟩ .nil))⟩ ⟨fun x hx => by
        rcases List.mem_cons.mp hx with rfl | hx
        · trivial
        rcases List.mem_cons.mp hx with rfl | hx
        · intro x hx
          rcases List.mem_cons.mp hx with rfl | hx
          · trivial
          · rw [List.mem_singleton.mp hx]; trivial
        · rw [List.mem_singleton.mp hx]
          intro x hx
          rcases List.mem_cons.mp hx with rfl | hx
          · trivial
          · rw [List.mem_singleton.mp hx]; trivial, .inr ⟨_, rfl⟩⟩
def spTree (m : Nat) : Sp := fun vs H Q _ => ∃ (S c pa : Addr) (most : Int) (pl : List Int), vs = [.ref S, .int most, .int (m : Int), .ref pa] ∧ StAt H S c ∧ 0 ≤ most ∧ most ≤ 6 ∧ H pa = some (.tup (pl.map V.int)) ∧ pl.length + 2 * m ≤ 50 ∧ 0 < m ∧ ∀ H' q ds, Mv S c H H' → Rep H' (2 * m + 5) (fun b => H b = none) (.lst ds) (.ref q) → ds.length ≤ 6 → (∀ x ∈ ds, NdB 6 m x) → PlD m pl ds → Q (.ref q) H'
theorem rep_dom {H : Hp} : ∀ {n : Nat} {S : Addr → Prop} {d : D} {v : V}, Rep H n S d v → Rep H n (fun b => S b ∧ H b ≠ none) d v
  | 0, _, _, _, h => h.elim
  | n + 1, S, d, v, h => by
    cases d with
    | non => exact h
    | bl b => exact h
    | int i => exact h
    | str s => exact h
    | lst l =>
      obtain ⟨a, xs, e, s, ha, hl, p⟩ := h
      exact ⟨a, xs, e, ⟨s, by rw [ha]; exact fun z => nomatch z⟩, ha, hl, pair_imp p fun _ _ r => rep_dom r⟩
    | tup l =>
      obtain ⟨a, xs, e, ha, hl, p⟩ := h
      exact ⟨a, xs, e, ha, hl, pair_imp p fun _ _ r => rep_dom r⟩
    | dic l =>
      obtain ⟨a, es, e, s, ha, hl, p⟩ := h
      exact ⟨a, es, e, ⟨s, by rw [ha]; exact fun z => nomatch z⟩, ha, hl, pair_imp p fun _ _ r => ⟨r.1, rep_S (fun b hb => ⟨⟨hb.1.1, hb.2⟩, hb.1.2⟩) (rep_dom r.2)⟩⟩
theorem rep_le {H : Hp} {n : Nat} {S : Addr → Prop} {d : D} {v : V} : ∀ {m : Nat}, n ≤ m → Rep H n S d v → Rep H m S d v := by
  intro m hm h
  induction hm with
  | refl => exact h
  | step _ ih => exact rep_up ih
/-- keys: no place of theirs matters -/
theorem rep_key {H : Hp} {S S' : Addr → Prop} : ∀ {n k : Nat} {d : D} {v : V}, kdD k d → Rep H n S d v → Rep H n S' d v
  | 0, _, _, _, _, h => h.elim
  | n + 1, k, .non, _, _, h => h
  | n + 1, k, .int _, _, _, h => h
  | n + 1, k, .str _, _, _, h => h
  | n + 1, 0, .tup _, _, hk, _ => hk.elim
  | n + 1, k + 1, .tup l, v, hk, h => by
    obtain ⟨a, xs, e, ha, hl, p⟩ := h
    refine ⟨a, xs, e, ha, hl, ?_⟩
    clear ha e hl
    have : ∀ {l : List D} {xs : List V}, (∀ x ∈ l, kdD k x) → Paired (fun d x => Rep H n S d x) l xs → Paired (fun d x => Rep H n S' d x) l xs := fun {l} => by
      induction l with
      | nil => intro xs _ p; cases p; exact .nil
      | cons d l ih =>
        intro xs hk p
        cases p with
        | cons p1 p => exact .cons (rep_key (hk d List.mem_cons_self) p1) (ih (fun x hx => hk x (List.mem_cons_of_mem _ hx)) p)
    exact this hk p
  | n + 1, k, .bl _, _, hk, _ => by cases k <;> exact hk.elim
  | n + 1, k, .lst _, _, hk, _ => by cases k <;> exact hk.elim
  | n + 1, k, .dic _, _, hk, _ => by cases k <;> exact hk.elim
theorem ints_rep {H : Hp} {n : Nat} {S : Addr → Prop} : ∀ {l : List Int}, Paired (fun d x => Rep H (n + 1) S d x) (l.map D.int) (l.map V.int)
  | [] => .nil
  | _ :: _ => .cons rfl ints_rep
theorem ints_kd {k : Nat} {l : List Int} : ∀ x ∈ l.map D.int, kdD k x := fun x hx => by
  obtain ⟨i, _, rfl⟩ := List.mem_map.mp hx
  cases k <;> trivial
theorem ok_treeF (T : Txt K mg C_Node C_Rule C_InvalidRule) (R : Prg K mg C_Node C_Rule C_InvalidRule) {f : Addr} {fd : FuncData} (at_ : mg "_law_tree" = some (.ref f)) (F : Fun K "_law_tree" "_law_tree" s__law_tree f fd) (kp : PySem.W.keepIn K (.ref f) = true) : ∀ m, Fn P w K mg base "_law_tree" (m + 3) ["_law_stream_here", "_law_most", "_law_deep", "_law_place"] (spTree m) f fd
  | 0 => by
    refine ⟨F.ok sc__law_tree (fun vs H Q E h => ?_) (fun cdv A outer s H vs Q E hr h => ?_), at_, kp, F.binds (fun _ _ _ _ _ _ us hl => match us, hl with | [_, _, _, _], _ => rfl)⟩
    · obtain ⟨S, c, pa, most, pl, rfl, _⟩ := h; rfl
    · obtain ⟨S, c, pa, most, pl, rfl, _, _, _, _, _, h0, _⟩ := h; exact absurd h0 (by decide)
  | m + 1 => by
    have G__law_tree := ok_treeF T R at_ F kp m
    obtain ⟨_, _, G__law_draw⟩ := ok__law_draw (P := P) (w := w) (base := base) T R
    obtain ⟨_, _, G__law_tree_key⟩ := ok__law_tree_key (P := P) (w := w) (base := base) T R
    refine ⟨F.ok sc__law_tree (fun vs H Q E h => ?_) (fun cdv A outer s H vs Q E hr h => ?_), at_, kp, F.binds (fun _ _ _ _ _ _ us hl => match us, hl with | [_, _, _, _], _ => rfl)⟩
    · obtain ⟨S, c, pa, most, pl, rfl, _⟩ := h; rfl
    · obtain ⟨S, c, pa, most, pl, rfl, st, mo0, mo1, hpa, hpl, _, k⟩ := h
      refine ⟨_, (pss_cons (ps_set (i := 4) sc__law_tree.nd rfl (Or.inl rfl) (pe_lst pa_nil))
  (pss_cons (ps_for PassesOwn.never rfl (pi_range1 (by rfl) T.range (pa_cons (pcl G__law_draw hr (pa_cons (pv 0) (pa_cons (pe_op op_add (pv 1) pe_int) pa_nil))) pa_nil)) (pg_name (i := 5) sc__law_tree.nd rfl (Or.inl rfl))
    (pss_cons (ps_set (i := 6) sc__law_tree.nd rfl (Or.inl rfl) (pe_ix (r := rIxT K) ix_tup (pe_tup (pa_cons pe_non (pa_cons pe_str (pa_cons pe_str pa_nil)))) (pcl G__law_draw hr (pa_cons (pv 0) (pa_cons pe_int pa_nil))) (fun _ _ => rfl)))
  (pss_cons (ps_set (i := 7) sc__law_tree.nd rfl (Or.inl rfl) (pcl G__law_tree_key hr (pa_cons (pv 0) pa_nil)))
  (pss_cons (ps_set (i := 8) sc__law_tree.nd rfl (Or.inl rfl) (pe_lst pa_nil))
  (Evl.pss_cut (ps_if (pt_cmpR op_gt (pv 2) pe_int (nomark _)) (pss_one (ps_set (i := 8) sc__law_tree.nd rfl (Or.inl rfl) (pcl G__law_tree hr (pa_cons (pv 0) (pa_cons (pv 1) (pa_cons (pe_op op_sub (pv 2) pe_int) (pa_cons (pe_op (r := rCatA K) op_catA (pv 3) (pe_tup (pa_cons (pv 5) (pa_cons pe_int pa_nil)))) pa_nil))))))) pss_nil)
  (pss_one (ps_expr (show PE _ _ (tBM K _ _ _ _) from pe_bm PySem.F.plainAttrs_list PySem.F.slot_list_append PySem.F.type_list_append mt_append (pv 4) (pa_cons (pe_tup (pa_cons (pv 6) (pa_cons (pv 7) (pa_cons (pe_tup (pa_cons (pe_op (r := rCatA K) op_catA (pv 3) (pe_tup (pa_cons (pv 5) pa_nil))) (pa_cons (pe_tup (pa_cons (pcl G__law_draw hr (pa_cons (pv 0) (pa_cons pe_int pa_nil))) pa_nil)) pa_nil))) (pa_cons (pv 8) pa_nil))))) pa_nil)))))))))
  (pss_one (ps_ret (pv 4))))), ?_⟩
      refine Evl.q_asgL (xs := []) (Evl.el_lst Evl.ea_nil (Nat.zero_le _)) fun q H2 hq e2 hq2 => ?_
      have qS := st.someS hq
      have m02 := Mv.ex st e2
      refine dr_go (m := most + 1) (Evl.ea_cons (Evl.ev_var rfl) (Evl.ea_cons (Evl.ev_op (Evl.ev_var rfl) Evl.ev_c Evl.rv_I0) Evl.ea_nil)) m02.z (by omega) (by omega) fun H3 many m3 s0 s1 => ⟨many, rfl, by omega, by omega, ?_⟩
      refine for_it walk_range (fun i σ' H' => ∃ (ys : List V) (ds : List D) (o5 o6 o7 o8 : Option V), σ' = [some (.ref S), some (.int most), some (.int ((m + 1 : Nat) : Int)), some (.ref pa), some (.ref q), o5, o6, o7, o8] ∧ Mv S c H H' ∧ H' q = some (.lst ys) ∧ Paired (fun d y => Rep H' (2 * m + 6) (fun b => H b = none ∧ b ≠ q) d y) ds ys ∧ ds.length = i ∧ (∀ x ∈ ds, NdB 6 (m + 1) x) ∧ PlD (m + 1) pl ds)
        ⟨[], [], _, _, _, _, rfl, m02.trans m3, m3.fr _ _ qS.1 qS.2 hq2, .nil, rfl, (fun x h => nomatch h), PlD.nil⟩ (fun _ _ _ _ _ => trivial) (fun i x σ' H0 H' hi pv y => ?_) fun σ' H' pv => ?_
      · obtain ⟨ys, ds, o5, o6, o7, o8, rfl, mH, hqH, pys, lds, nds, pls⟩ := pv
        obtain ⟨rfl, rfl⟩ := y
        refine gname_go ?_
        have i12 : i < 13 := by omega
        have lys := pair_len pys
        have rg : ∀ b, (H b = none ∧ b ≠ q) → b ≠ S ∧ b ≠ c := fun b hb => st.someS hb.1
        refine q_go (pick3 mH.z rfl fun H4 kd kv m4 hkd rkd => ?_)
        have m04 := mH.trans m4
        refine q_go ⟨_, rfl, S, c, rfl, m04.z, fun H5 kyv ky m5 rky hky => ?_⟩
        have m05 := m04.trans m5
        -- below
        refine q_go ⟨(by show 0 ≤ sizeLine; decide), fun b0 hb0 => ?_⟩
        have m06 := m05.tx (Ex.new (o := .lst []) hb0)
        have mm6 := (m4.trans m5).tx (Ex.new (o := .lst []) hb0)
        have hpa6 := m06.tup hpa
        have lpl : (pl.map V.int).length + 2 ≤ 1000 := by rw [List.length_map]; omega
        refine Evl.q_cut (M := fun σ' H7 => ∃ (ba : Addr) (bl : List D), σ' = [some (.ref S), some (.int most), some (.int ((m + 1 : Nat) : Int)), some (.ref pa), some (.ref q), some (.int (0 + (i : Int))), some kv, some kyv, some (.ref ba)] ∧ Mv S c H5 H7 ∧ Rep H7 (2 * m + 5) (fun b => H5 b = none) (.lst bl) (.ref ba) ∧ bl.length ≤ 6 ∧ (∀ x ∈ bl, NdB 6 m x) ∧ PlD m (pl ++ [0 + (i : Int), 0]) bl) ?_ ?_
        · refine Evl.s_when (Evl.et_test (Evl.ev_op (Evl.ev_var rfl) Evl.ev_c Evl.rv_I0)) (fun hb H7 e7 => ?_) fun hb H7 e7 => ?_
          · have m1 : 0 < m := by simp at hb; omega
            have m57 := (Mv.ex m5.z (Ex.new (o := .lst []) hb0)).tx e7
            refine ⟨_, rfl, _, rfl, ?_⟩
            refine Evl.ev_op (Evl.ev_var rfl) Evl.ev_c Evl.rv_I0 H7 (Ex.refl _) _ fun H8 e8 => ?_
            refine cat_ints (xs := pl.map V.int) (ys := [.int (0 + (i : Int)), .int 0]) (Evl.ev_var rfl) ((e7.trans e8) _ _ hpa6) (Evl.ea_cons (Evl.ev_var rfl) (Evl.ea_cons Evl.ev_c Evl.ea_nil)) (fun z => nomatch z) lpl fun H9 p9 e9 hp9 => ?_
            have m59 := (m57.tx e8).tx e9
            refine ⟨S, c, p9, most, pl ++ [0 + (i : Int), 0], by rw [show (((m + 1 : Nat) : Int) - 1) = (m : Int) by omega]; rfl, m59.z, mo0, mo1, by rw [List.map_append]; exact hp9, by rw [List.length_append]; show pl.length + 2 + 2 * m ≤ 50; omega, m1, fun H10 ba bl m10 rbl lbl nbl pbl => ?_⟩
            exact ⟨ba, bl, rfl, m59.trans m10, rep_S (fun b hb => m59.back hb) rbl, lbl, nbl, pbl⟩
          · exact ⟨b0, [], rfl, (Mv.ex m5.z (Ex.new (o := .lst []) hb0)).tx e7, rep_ex e7 ⟨b0, [], rfl, hb0, upd_same, by decide, .nil⟩, by decide, (fun x h => nomatch h), PlD.nil⟩
        · rintro σ' H7 ⟨ba, bl, rfl, m57, rbl, lbl, nbl, pbl⟩
          have m07 := m05.trans m57
          have mH7 := (m4.trans m5).trans m57
          have hq7 := mH7.fr _ _ qS.1 qS.2 hqH
          have hpa7 := m07.tup hpa
          refine ⟨_, rfl, .inl ⟨rfl, _, Evl.sq_of hq7⟩, _, rfl, _, rfl, cat_ints (xs := pl.map V.int) (ys := [.int (0 + (i : Int))]) (Evl.ev_var rfl) hpa7 (Evl.ea_cons (Evl.ev_var rfl) Evl.ea_nil) (fun z => nomatch z) (by have := lpl; show (pl.map V.int).length + 1 ≤ 1000; omega) fun H8 p8 e8 hp8 => ?_⟩
          have m08 := m07.tx e8
          refine dr_go (m := 3) (Evl.ea_cons (Evl.ev_var rfl) (Evl.ea_cons Evl.ev_c Evl.ea_nil)) m08.z (by decide) (by decide) fun H9 z m9 _ _ => ⟨(by show 1 ≤ sizeLine; decide), fun t2 h2 => ⟨(by show 2 ≤ sizeLine; decide), fun t3 h3 => ⟨_, rfl, (by show 4 ≤ sizeLine; decide), fun t4 h4 => ?_⟩⟩⟩
          have e2 := Ex.new (o := .tup [.int z]) h2
          have e3 := Ex.new (o := .tup [.ref p8, .ref t2]) h3
          have e4 := Ex.new (o := .tup [kv, kyv, .ref t3, .ref ba]) h4
          have e24 := (e2.trans e3).trans e4
          have m79 := (Mv.ex m57.z e8).trans m9
          have m7F := m79.tx e24
          have mF := m07.trans m7F
          have hqF := m7F.fr _ _ qS.1 qS.2 hq7
          have hp9 := m9.tup hp8
          have ht3 := e4 _ _ (upd_same (H := upd H9 t2 (.tup [.int z])) (a := t3) (o := .tup [.ref p8, .ref t2]))
          have ht2 := (e3.trans e4) _ _ (upd_same (H := H9) (a := t2) (o := .tup [.int z]))
          have hpF := e24 _ _ hp9
          have ht4 := (upd_same (H := upd (upd H9 t2 (.tup [.int z])) t3 (.tup [.ref p8, .ref t2])) (a := t4) (o := .tup [kv, kyv, .ref t3, .ref ba]))
          refine ⟨q, ys, .ref t4, rfl, rfl, hqF, Evl.sz_lt (by omega), ?_⟩
          generalize (upd (upd (upd H9 t2 (.tup [.int z])) t3 (.tup [.ref p8, .ref t2])) t4 (.tup [kv, kyv, .ref t3, .ref ba])) = HF at hqF hpF ht2 ht3 ht4 m7F mF ⊢
          have no : ∀ xs, HO.lst ys ≠ .tup xs := fun _ e => nomatch e
          have bq : ∀ b, H5 b = none → H b = none ∧ b ≠ q := fun b hb => ⟨m05.back hb, fun e => by
            have := (m4.trans m5).fr _ _ qS.1 qS.2 hqH
            rw [e, this] at hb; cases hb⟩
          have up : ∀ {n : Nat} {d : D} {v : V}, Rep HF n (fun b => H b = none ∧ b ≠ q) d v → Rep (upd HF q (.lst (ys ++ [.ref t4]))) n (fun b => H b = none ∧ b ≠ q) d v := fun r => rep_upd hqF no (fun b hb => hb.2) r
          have kd5 : ∀ {n : Nat} {d : D} {v : V} {S1 : Addr → Prop}, kdD 3 d → Rep HF n S1 d v → Rep (upd HF q (.lst (ys ++ [.ref t4]))) n (fun b => H b = none ∧ b ≠ q) d v := fun hk r => up (rep_key hk r)
          have hkd2 : kdD 3 kd := by rcases hkd with rfl | ⟨s, rfl⟩ <;> trivial
          have rowk : kdD 3 (.tup [.tup ((pl ++ [0 + (i : Int)]).map D.int), .tup [.int z]]) := fun x hx => by
            rcases List.mem_cons.mp hx with rfl | hx
            · exact ints_kd
            · rw [List.mem_singleton.mp hx]
              intro y hy
              rw [List.mem_singleton.mp hy]; trivial
          have ow : Rep HF 4 Fs (.tup [.tup ((pl ++ [0 + (i : Int)]).map D.int), .tup [.int z]]) (.ref t3) :=
            ⟨t3, _, rfl, ht3, by show 2 ≤ 100000; decide, .cons ⟨p8, _, rfl, hpF, by rw [List.length_map, List.length_append]; show pl.length + 1 ≤ 100000; omega, by
              have : (pl.map V.int ++ [V.int (0 + (i : Int))]) = (pl ++ [0 + (i : Int)]).map V.int := by rw [List.map_append]; rfl
              rw [this]; exact ints_rep⟩ (.cons ⟨t2, _, rfl, ht2, by show 1 ≤ 100000; decide, .cons rfl .nil⟩ .nil)⟩
          have nd : Rep (upd HF q (.lst (ys ++ [.ref t4]))) (2 * m + 6) (fun b => H b = none ∧ b ≠ q) (.tup [kd, ky, .tup [.tup ((pl ++ [0 + (i : Int)]).map D.int), .tup [.int z]], .lst bl]) (.ref t4) := by
            refine ⟨t4, [kv, kyv, .ref t3, .ref ba], rfl, ?_, by show 4 ≤ 100000; decide, .cons (kd5 hkd2 (rkd (2 * m + 4) HF)) (.cons (kd5 hky.1 (rep_le (by omega) (rep_mv (m57.trans m7F) (fun z => z) (fun z => z) rky))) (.cons (kd5 rowk (rep_le (by omega) ow)) (.cons (up ?_) .nil)))⟩
            · have : t4 ≠ q := fun e => by rw [e, hqF] at ht4; cases ht4
              rw [upd_ne this]; exact ht4
            · exact rep_S (fun b hb => bq b hb) (rep_mv m7F (fun z => (m5.z.someS z).1 rfl) (fun z => (m5.z.someS z).2 rfl) rbl)
          refine ⟨ys ++ [.ref t4], ds ++ [.tup [kd, ky, .tup [.tup ((pl ++ [0 + (i : Int)]).map D.int), .tup [.int z]], .lst bl]], _, _, _, _, rfl, mF.mut hq, upd_same, pair_snoc (pair_imp pys fun a b h => up (rep_mv (mH7.trans m7F) (fun z => (rg _ z).1 rfl) (fun z => (rg _ z).2 rfl) h)) nd, by rw [List.length_append, lds]; rfl, fun x hx => ?_, PlD.snoc (d := .tup [kd, ky, .tup [.tup ((pl ++ [0 + (i : Int)]).map D.int), .tup [.int z]], .lst bl]) pls lds ⟨z, rfl⟩ pbl⟩
          rcases List.mem_append.mp hx with hx | hx
          · exact nds x hx
          · rw [List.mem_singleton.mp hx]
            exact ⟨kd, ky, _, bl, rfl, hkd, hky, ⟨_, rfl, rowk⟩, lbl, nbl⟩
      · obtain ⟨ys, ds, o5, o6, o7, o8, rfl, mH, hqH, pys, lds, nds, pls⟩ := pv
        have hi : ds.length ≤ 6 := by omega
        exact Evl.s_ret (Evl.ev_var rfl) fun H9 e9 => k H9 q ds (mH.tx e9) (rep_ex e9 ⟨q, ys, rfl, hq, hqH, by omega, pair_imp pys fun a b h => rep_S (fun b hb => hb.1) h⟩) hi nds pls
end
end Pk

namespace Pk
open PySem PySem.Spec PyProof.Rows L2 Ssb
open Evl (Ex Ev EvT EvL EvA EvU)
/-! ### nodes -/
def nodeF (k q o i : V) : List (Str × V) := putF "inside" i (putF "owner" o (putF "key" q (putF "kind" k [])))
theorem nodeF_eq {k q o i : V} : nodeF k q o i = [(("kind" : Str), k), (("key" : Str), q), (("owner" : Str), o), (("inside" : Str), i)] := rfl
/-- x is a node made of the data d -/
def NodeR (C : Addr) (K : PySem.W.Frag) (H : Hp) : Nat → D → V → Prop
  | 0, _, _ => False
  | m + 1, d, x => ∃ kd ky ow bl a dx vk vq vo t ys, d = .tup [kd, ky, ow, .lst bl] ∧ x = .ref a ∧ H a = some (.ins C dx (nodeF vk vq vo (.ref t))) ∧ (∃ n, Rep H n Fs kd vk) ∧ (∃ n, Rep H n Fs ky vq) ∧ (∃ n, Rep H n Fs ow vo) ∧ SqT K H t ys ∧ Paired (fun d x => NodeR C K H m d x) bl ys
theorem sqT_ex {K : PySem.W.Frag} {H H' : Hp} {a : Addr} {xs : List V} (e : Ex H H') (h : SqT K H a xs) : SqT K H' a xs := Evl.ex_t e h
theorem NodeR.ex {C : Addr} {K : PySem.W.Frag} {H H' : Hp} (e : Ex H H') : ∀ {m : Nat} {d : D} {x : V}, NodeR C K H m d x → NodeR C K H' m d x
  | 0, _, _, h => h.elim
  | m + 1, d, x, h => by
    obtain ⟨kd, ky, ow, bl, a, dx, vk, vq, vo, t, ys, h1, h2, h3, ⟨n1, h4⟩, ⟨n2, h5⟩, ⟨n3, h6⟩, h7, h8⟩ := h
    exact ⟨kd, ky, ow, bl, a, dx, vk, vq, vo, t, ys, h1, h2, e _ _ h3, ⟨n1, rep_ex e h4⟩, ⟨n2, rep_ex e h5⟩, ⟨n3, rep_ex e h6⟩, sqT_ex e h7, pair_imp h8 fun _ _ r => NodeR.ex e r⟩
/-- a method whose last parameter has a default -/
structure MtD (P : Program) (w : World) (K : PySem.W.Frag) (mg : Str → Option Value) (base : Heap) (CX : CXT) (C : Addr) (nm : Str) (k : Nat) (ps : List Str) (sp : Sp) (dvs : List V) (f : Addr) (fd : FuncData) : Prop where
  ok : FnOk P w K mg base CX k f fd ps sp
  mt : Meth K C nm f
  bd : Binds K fd ps []
  bdd : ∃ ds, Vals dvs ds ∧ Binds K fd ps ds
section
variable {X : Cx} {nm : Str} {k j : Nat} {ps : List Str} {sp : Sp} {dvs : List V} {f C : Addr} {fd : FuncData} {p pos : Pos} {e : Expr} {es : List Expr} {t : TA}
theorem pmkF (G : MtD X.prog X.w X.K X.mg X.base CX0 C "__init__" k ps sp dvs f fd) (h1 : PySem.W.makesIn X.K C = true) (h2 : PySem.W.keepIn X.K (.ref C) = true) (h3 : X.mg nm = some (.ref C)) (hr : Room j X.A) (ha : PA X (e :: es) t) (hj : k + 1 ≤ j := by first | decide | omega) (hg : Gl X nm := by rfl) (hdb : (nm == ("__debug__" : Str)) = false := by decide)
    (he : starEach (e :: es) X.env = (false, eval e X.env) :: starEach es X.env := by rfl) (hpl : (backTo pos (starEach es X.env)).any (·.1) = false := by rfl) : PE X (.Call (.Name nm p) (e :: es) [] pos) (tMake C sp [] E0 t) :=
  pe_make ⟨h1, G.mt.at_, G.mt.fn, h2⟩ G.ok (hr.mono hj) hg h3 G.bd .nil pass0 ha hdb he hpl
theorem pmkD (G : MtD X.prog X.w X.K X.mg X.base CX0 C "__init__" k ps sp dvs f fd) (h1 : PySem.W.makesIn X.K C = true) (h2 : PySem.W.keepIn X.K (.ref C) = true) (h3 : X.mg nm = some (.ref C)) (hr : Room j X.A) (ha : PA X (e :: es) t) (hj : k + 1 ≤ j := by first | decide | omega) (hg : Gl X nm := by rfl) (hdb : (nm == ("__debug__" : Str)) = false := by decide)
    (he : starEach (e :: es) X.env = (false, eval e X.env) :: starEach es X.env := by rfl) (hpl : (backTo pos (starEach es X.env)).any (·.1) = false := by rfl) : PE X (.Call (.Name nm p) (e :: es) [] pos) (tMake C sp dvs E0 t) := by
  obtain ⟨ds, hv, hb⟩ := G.bdd
  exact pe_make ⟨h1, G.mt.at_, G.mt.fn, h2⟩ G.ok (hr.mono hj) hg h3 hb hv pass0 ha hdb he hpl
end
section
variable {P : Program} {w : World} {K : PySem.W.Frag} {mg : Str → Option Value} {base : Heap} {C_Node C_Rule C_InvalidRule : Addr}
def spNode (C : Addr) (K : PySem.W.Frag) : Sp := fun vs H Q _ => ∃ (p dx l : Addr) (kv qv ov : V) (ys : List V), vs = [.ref p, kv, qv, ov, .ref l] ∧ H p = some (.ins C dx []) ∧ (SqL K H l ys ∨ SqT K H l ys) ∧ ys.length ≤ 1000 ∧
  ∀ H' t, (∀ b o, b ≠ p → H b = some o → H' b = some o) → H' p = some (.ins C dx (nodeF kv qv ov (.ref t))) → SqT K H' t ys → Q .non H'
theorem sqT_ne {K : PySem.W.Frag} {H H' : Hp} {a p : Addr} {xs : List V} {C dx : Addr} {fs : List (Str × V)} (hp : H p = some (.ins C dx fs)) (e : ∀ b o, b ≠ p → H b = some o → H' b = some o) (h : SqT K H a xs) : SqT K H' a xs := by
  rcases h with (h | ⟨o, h⟩) | h
  · exact .inl (.inl (e _ _ (fun z => by rw [z, hp] at h; cases h) h))
  · exact .inl (.inr ⟨o, e _ _ (fun z => by rw [z, hp] at h; cases h) h⟩)
  · exact .inr h
theorem sqL_ne {K : PySem.W.Frag} {H H' : Hp} {a p : Addr} {xs : List V} {C dx : Addr} {fs : List (Str × V)} (hp : H p = some (.ins C dx fs)) (e : ∀ b o, b ≠ p → H b = some o → H' b = some o) (h : SqL K H a xs) : SqL K H' a xs := by
  rcases h with (h | ⟨o, h⟩) | h
  · exact .inl (.inl (e _ _ (fun z => by rw [z, hp] at h; cases h) h))
  · exact .inl (.inr ⟨o, e _ _ (fun z => by rw [z, hp] at h; cases h) h⟩)
  · exact .inr h
theorem ok_Node_init (T : Txt K mg C_Node C_Rule C_InvalidRule) (R : Prg K mg C_Node C_Rule C_InvalidRule) : ∃ t0 : Addr, (∃ o n, K.lookup t0 = some o ∧ o.cls = .type "tuple" ∧ o.data = .seq #[] n) ∧ ∃ f fd, MtD P w K mg base CX0 C_Node "__init__" 1 ["self", "kind", "key", "owner", "nodes"] (spNode C_Node K) [.ref t0] f fd := by
  obtain ⟨t0, h0, f, fd, F, fi, isf, kp⟩ := R.Node_init
  refine ⟨t0, h0, f, fd, F.ok sc_Node_init (fun vs H Q E h => ?_) (fun cdv A outer s H vs Q E hr h => ?_), ⟨fi, isf, kp⟩, ?_, ?_⟩
  · obtain ⟨p, dx, l, kv, qv, ov, ys, rfl, _⟩ := h; rfl
  · obtain ⟨p, dx, l, kv, qv, ov, ys, rfl, hp, hl, h1000, k⟩ := h
    refine ⟨_, (pss_cons (ps_fld (pv 0) (pv 1) rfl)
  (pss_cons (ps_fld (pv 0) (pv 2) rfl)
  (pss_cons (ps_fld (pv 0) (pv 3) rfl)
  (pss_one (ps_fld (pv 0) (pe_callTy (r := rTupA K) call_tuple_of (by rfl) T.tuple (by decide +kernel) (pa_cons (pv 4) pa_nil)) rfl))))), ?_⟩
    refine ⟨_, rfl, _, rfl, p, C_Node, dx, [], rfl, hp, T.cl_Node, T.no_Node_kind, by decide, ?_⟩
    refine ⟨_, rfl, _, rfl, p, C_Node, dx, _, rfl, upd_same, T.cl_Node, T.no_Node_key, by show 1 < 1000; decide, ?_⟩
    refine ⟨_, rfl, _, rfl, p, C_Node, dx, _, rfl, upd_same, T.cl_Node, T.no_Node_owner, by show 2 < 1000; decide, ?_⟩
    rw [upd_upd, upd_upd]
    have fr : ∀ b o, b ≠ p → H b = some o → (upd H p (.ins C_Node dx (putF "owner" ov (putF "key" qv (putF "kind" kv []))))) b = some o := fun b o n h => by rw [upd_ne n]; exact h
    refine ⟨_, rfl, l, ys, rfl, ?_⟩
    rcases hl with hl | hl
    · refine .inl ⟨sqL_ne hp fr hl, fun t ht => ⟨_, rfl, p, C_Node, dx, putF "owner" ov (putF "key" qv (putF "kind" kv [])), rfl, ?_, T.cl_Node, T.no_Node_inside, by show 3 < 1000; decide, ?_⟩⟩
      · have : p ≠ t := fun e => by rw [← e, upd_same] at ht; cases ht
        rw [upd_ne this, upd_same]
      · have pt : p ≠ t := fun e => by rw [← e, upd_same] at ht; cases ht
        refine k _ t (fun b o n h => ?_) upd_same (.inl (.inl ?_))
        · have : b ≠ t := fun e => by have h2 := fr b o n h; rw [e, ht] at h2; cases h2
          rw [upd_ne n, upd_ne this]; exact fr b o n h
        · rw [upd_ne pt.symm, upd_same]
    · refine .inr ⟨sqT_ne hp fr hl, ⟨_, rfl, p, C_Node, dx, _, rfl, upd_same, T.cl_Node, T.no_Node_inside, by show 3 < 1000; decide, ?_⟩⟩
      rw [upd_upd]
      exact k _ l (fun b o n h => by rw [upd_ne n]; exact h) upd_same (sqT_ne hp (fun b o n h => by rw [upd_ne n]; exact h) hl)
  · obtain ⟨ds, hv, hb⟩ := F.binds1 (ps := ["self", "kind", "key", "owner", "nodes"]) 5 1 (fun e => nomatch e) rfl fun T kV doc pm an cdv ct us its h1 h2 => match us, its, h1, h2 with | [_, _, _, _, _], [_], _, _ => ⟨_, rfl, rfl⟩
    cases hv
    exact hb
  · exact F.binds1 (ps := ["self", "kind", "key", "owner", "nodes"]) 4 0 (fun e => nomatch e) rfl fun T kV doc pm an cdv ct us its h1 h2 => match us, its, h1, h2 with | [_, _, _, _], [_], _, _ => ⟨_, rfl, rfl⟩
end
end Pk

namespace Pk
open PySem PySem.Spec PyProof.Rows L2 Ssb
open Evl (Ex Ev EvT EvL EvA EvU)
/-! ### nodes from data -/
/-- all but lists stays -/
def Nl (H H' : Hp) : Prop := ∀ b o, H b = some o → (∀ xs, o ≠ .lst xs) → H' b = some o
theorem Nl.of {H H' : Hp} (e : Ex H H') : Nl H H' := fun b o h _ => e b o h
theorem Nl.upd {H : Hp} {q : Addr} {xs : List V} {o : HO} (h : H q = some (.lst xs)) : Nl H (L2.upd H q o) := fun b u hb n => by
  have : b ≠ q := fun e => by rw [e, h] at hb; cases hb; exact n _ rfl
  rw [upd_ne this]; exact hb
theorem rep_nl {H H' : Hp} (e : Nl H H') {n : Nat} {d : D} {v : V} (r : Rep H n Fs d v) : Rep H' n Fs d v := rep_to (fun b o hb hp => e b o hb (by
  rcases hp with hp | ⟨xs, rfl⟩
  · exact hp.elim
  · exact fun _ z => nomatch z)) r
theorem NodeR.nl {C : Addr} {K : PySem.W.Frag} {H H' : Hp} (e : Nl H H') : ∀ {m : Nat} {d : D} {x : V}, NodeR C K H m d x → NodeR C K H' m d x
  | 0, _, _, h => h.elim
  | m + 1, d, x, h => by
    obtain ⟨kd, ky, ow, bl, a, dx, vk, vq, vo, t, ys, h1, h2, h3, ⟨n1, h4⟩, ⟨n2, h5⟩, ⟨n3, h6⟩, h7, h8⟩ := h
    refine ⟨kd, ky, ow, bl, a, dx, vk, vq, vo, t, ys, h1, h2, e _ _ h3 (fun _ z => nomatch z), ⟨n1, rep_nl e h4⟩, ⟨n2, rep_nl e h5⟩, ⟨n3, rep_nl e h6⟩, ?_, pair_imp h8 fun _ _ r => NodeR.nl e r⟩
    rcases h7 with (h | ⟨o, h⟩) | h
    · exact .inl (.inl (e _ _ h (fun _ z => nomatch z)))
    · exact .inl (.inr ⟨o, e _ _ h (fun _ z => nomatch z)⟩)
    · exact .inr h
theorem et_truL {K : PySem.W.Frag} {σ : L2.St} {H : Hp} {te : L2.TE} {a : Addr} {xs : List V} (h : Ev te σ H (.ref a)) (ha : H a = some (.lst xs)) : EvT (tTruA K te) σ H (!xs.isEmpty) := fun H1 e Q q => h H1 e _ fun H2 e2 => ⟨!xs.isEmpty, .inl ⟨xs, Evl.sq_of ((e.trans e2) _ _ ha), rfl⟩, q H2 e2⟩
theorem sq_nil {K : PySem.W.Frag} {H : Hp} {t0 : Addr} (h : ∃ o n, K.lookup t0 = some o ∧ o.cls = .type "tuple" ∧ o.data = .seq #[] n) : SqT K H t0 [] := by
  obtain ⟨o, n, h1, h2, h3⟩ := h
  exact .inr ⟨o, #[], n, h1, h2, h3, by show 0 ≤ sizeLine; decide, .nil⟩
section
variable {P : Program} {w : World} {K : PySem.W.Frag} {mg : Str → Option Value} {base : Heap} {C_Node C_Rule C_InvalidRule : Addr}
def spBuilt (C : Addr) (K : PySem.W.Frag) (m : Nat) : Sp := fun vs H Q _ => ∃ (a : Addr) (n : Nat) (S : Addr → Prop) (ds : List D), vs = [.ref a] ∧ Rep H n S (.lst ds) (.ref a) ∧ (∀ x ∈ ds, NdD m x) ∧ ds.length ≤ 100 ∧ 0 < m ∧ ∀ H' q ys, Ex H H' → H q = none → H' q = some (.lst ys) → Paired (fun d x => NodeR C K H' m d x) ds ys → Q (.ref q) H'
theorem ok__law_built (T : Txt K mg C_Node C_Rule C_InvalidRule) (R : Prg K mg C_Node C_Rule C_InvalidRule) : ∀ m, ∃ f fd, Fn P w K mg base "_law_built" (m + 3) ["_law_nodes"] (spBuilt C_Node K m) f fd
  | 0 => by
    obtain ⟨f, fd, at_, F, kp⟩ := R._law_built
    refine ⟨f, fd, F.ok sc__law_built (fun vs H Q E h => ?_) (fun cdv A outer s H vs Q E hr h => ?_), at_, kp, F.binds (fun _ _ _ _ _ _ us hl => match us, hl with | [_], _ => rfl)⟩
    · obtain ⟨a, n, S, ds, rfl, _⟩ := h; rfl
    · obtain ⟨a, n, S, ds, rfl, _, _, _, h0, _⟩ := h; exact absurd h0 (by decide)
  | m + 1 => by
    obtain ⟨_, _, G__law_built⟩ := ok__law_built T R m
    obtain ⟨t0, ht0, _, _, G_Node⟩ := ok_Node_init (P := P) (w := w) (base := base) T R
    obtain ⟨f, fd, at_, F, kp⟩ := R._law_built
    refine ⟨f, fd, F.ok sc__law_built (fun vs H Q E h => ?_) (fun cdv A outer s H vs Q E hr h => ?_), at_, kp, F.binds (fun _ _ _ _ _ _ us hl => match us, hl with | [_], _ => rfl)⟩
    · obtain ⟨a, n, S, ds, rfl, _⟩ := h; rfl
    · obtain ⟨a, n, S, ds, rfl, hv, nds, l100, _, k⟩ := h
      refine ⟨_, (pss_cons (ps_set (i := 1) sc__law_built.nd rfl (Or.inl rfl) (pe_lst pa_nil))
  (pss_cons (ps_for PassesOwn.never rfl (show PI _ _ _ (iList K _) from pi_list (pv 0)) (show PG _ _ (gTup K 4 _) from pg_tup (n := 4) rfl (pgs_cons (pg_name (i := 2) sc__law_built.nd rfl (Or.inl rfl)) (pgs_cons (pg_name (i := 3) sc__law_built.nd rfl (Or.inl rfl)) (pgs_cons (pg_name (i := 4) sc__law_built.nd rfl (Or.inl rfl)) (pgs_cons (pg_name (i := 5) sc__law_built.nd rfl (Or.inl rfl)) pgs_nil)))))
    (pss_one (ps_if (show PT _ _ (tTruA K _) from pt_truth (pv 5) (by intro _; rfl)) (pss_one (ps_expr (show PE _ _ (tBM K _ _ _ _) from pe_bm PySem.F.plainAttrs_list PySem.F.slot_list_append PySem.F.type_list_append mt_append (pv 1) (pa_cons (pmkF G_Node T.mk_Node T.kp_Node T.at_Node hr (pa_cons (pv 2) (pa_cons (pv 3) (pa_cons (pv 4) (pa_cons (pcl G__law_built hr (pa_cons (pv 5) pa_nil)) pa_nil))))) pa_nil)))) (pss_one (ps_expr (show PE _ _ (tBM K _ _ _ _) from pe_bm PySem.F.plainAttrs_list PySem.F.slot_list_append PySem.F.type_list_append mt_append (pv 1) (pa_cons (pmkD G_Node T.mk_Node T.kp_Node T.at_Node hr (pa_cons (pv 2) (pa_cons (pv 3) (pa_cons (pv 4) pa_nil)))) pa_nil)))))))
  (pss_one (ps_ret (pv 1))))), ?_⟩
      cases n with
      | zero => exact hv.elim
      | succ n =>
      obtain ⟨_, xs, ea, _, ha, l5, prx⟩ := id hv
      cases ea
      have lx := pair_len prx
      refine Evl.q_asgL (xs := []) (Evl.el_lst Evl.ea_nil (Nat.zero_le _)) fun q H2 hq e2 hq2 => ?_
      have qa : q ≠ a := fun e => by rw [e, ha] at hq; cases hq
      refine ⟨_, rfl, a, rfl, ⟨_, Evl.sq_of (e2 _ _ ha)⟩, for_list (K := K) (a := a) (xs := xs) (fun i σ' H' => ∃ (acc : List V) (o2 o3 o4 o5 : Option V), σ' = [some (.ref a), some (.ref q), o2, o3, o4, o5] ∧ Ex H H' ∧ H' q = some (.lst acc) ∧ Paired (fun d x => NodeR C_Node K H' (m + 1) d x) (ds.take i) acc) ⟨[], _, _, _, _, rfl, e2, hq2, .nil⟩ (fun i σ' H' _ pv => by obtain ⟨_, _, _, _, _, _, e, _⟩ := pv; exact Evl.sq_of (e _ _ ha)) (fun i x σ' H' hx pv => ?_) fun σ' H' pv => ?_⟩
      · obtain ⟨acc, o2, o3, o4, o5, rfl, eH, hqH, pacc⟩ := pv
        obtain ⟨d, hd, rd⟩ := pair_back prx hx
        obtain ⟨kd, ky, ow, bl, rfl, hkd, hky, ⟨lo, how, hok⟩, lbl, nbl⟩ := nds d (List.mem_of_getElem? hd)
        cases n with
        | zero => exact rd.elim
        | succ n =>
        obtain ⟨t4, ws, rfl, ht4, _, pw⟩ := rep_ex eH rd
        cases pw with
        | cons w1 pw =>
        cases pw with
        | cons w2 pw =>
        cases pw with
        | cons w3 pw =>
        cases pw with
        | cons w4 pw =>
        cases pw
        rename_i kv kyv ov bv
        have lacc : acc.length ≤ 100 := by rw [← pair_len pacc, List.length_take]; omega
        have hkd2 : kdD 3 kd := by rcases hkd with rfl | ⟨s, rfl⟩ <;> trivial
        have tk : ds.take (i + 1) = ds.take i ++ [.tup [kd, ky, ow, .lst bl]] := by rw [List.take_add_one, hd]; rfl
        cases n with
        | zero => exact w4.elim
        | succ n =>
        obtain ⟨ba, bs, rfl, _, hba, _, pb⟩ := id w4
        have lb := pair_len pb
        refine ⟨t4, _, rfl, Evl.st_of ht4, rfl, ?_⟩
        -- the four names
        refine ⟨_, _, rfl, _, _, rfl, _, _, rfl, _, _, rfl, rfl, ?_⟩
        have fin : ∀ {H5 H6 : Hp} {nx dx t : Addr} {ys : List V}, Ex H' H5 → H5 nx = none → H5 dx = none → dx ≠ nx → (∀ b o, b ≠ nx → (upd (upd H5 dx (.own nx)) nx (.ins C_Node dx [])) b = some o → H6 b = some o) → H6 nx = some (.ins C_Node dx (nodeF kv kyv ov (.ref t))) → SqT K H6 t ys → Paired (fun d x => NodeR C_Node K H5 m d x) bl ys →
            ∃ (acc' : List V) (o2 o3 o4 o5 : Option V), [some (.ref a), some (.ref q), some kv, some kyv, some ov, some (.ref ba)] = [some (.ref a), some (.ref q), o2, o3, o4, o5] ∧ Ex H (upd H6 q (.lst (acc ++ [.ref nx]))) ∧ (upd H6 q (.lst (acc ++ [.ref nx]))) q = some (.lst acc') ∧ Paired (fun d x => NodeR C_Node K (upd H6 q (.lst (acc ++ [.ref nx]))) (m + 1) d x) (ds.take (i + 1)) acc' := by
          intro H5 H6 nx dx t ys e5 hx hdx ne fr hx6 st pys
          have e56 : Ex H5 H6 := fun b o h => fr b o (fun e => by rw [e, hx] at h; cases h) (by rw [upd_ne (fun e => by rw [e, hx] at h; cases h), upd_ne (fun e => by rw [e, hdx] at h; cases h)]; exact h)
          have e6 := e5.trans e56
          have hq6 := e6 _ _ hqH
          refine ⟨_, _, _, _, _, rfl, Ex.mut (eH.trans e6) hq, upd_same, ?_⟩
          rw [tk]
          have n6 := Nl.upd (o := .lst (acc ++ [.ref nx])) hq6
          refine pair_snoc (pair_imp pacc fun d y r => (r.ex e6).nl n6) (NodeR.nl n6 (show NodeR C_Node K H6 (m + 1) _ (.ref nx) from ⟨kd, ky, ow, bl, nx, dx, kv, kyv, ov, t, ys, rfl, rfl, hx6, ⟨_, rep_ex e6 (rep_key hkd2 w1)⟩, ⟨_, rep_ex e6 (rep_key hky.1 w2)⟩, ⟨_, rep_ex e6 (rep_key hok w3)⟩, st, pair_imp pys fun d y r => r.ex e56⟩))
        show tIfS (tTruA K (tVar 5)) _ _ _ [some (.ref a), some (.ref q), some kv, some kyv, some ov, some (.ref ba)] H'
        refine Evl.s_if (et_truL (σ := [some (.ref a), some (.ref q), some kv, some kyv, some ov, some (.ref ba)]) (te := tVar 5) (Evl.ev_var rfl) hba) (fun hb H3 e3 => ?_) fun hb H3 e3 => ?_
        · have hq3 := e3 _ _ hqH
          have m0 : 0 < m := by
            cases m with
            | succ m => omega
            | zero =>
              cases bl with
              | nil => cases pb; cases hb
              | cons y bl => exact (nbl y List.mem_cons_self).elim
          refine ⟨_, rfl, .inl ⟨rfl, _, Evl.sq_of hq3⟩, _, rfl, _, rfl, _, rfl, _, rfl, ba, n + 1, S, bl, rfl, rep_ex e3 w4, nbl, by omega, m0, fun H5 q2 ys2 e5 hq2 hq25 pys => ?_⟩
          intro x dx hx hdx ne
          have hq5 := e5 _ _ hq3
          refine ⟨x, dx, q2, kv, kyv, ov, ys2, rfl, upd_same, .inl (Evl.sq_of ?_), by rw [← pair_len pys]; omega, fun H6 t fr hx6 st => ⟨rfl, ?_⟩⟩
          · rw [upd_ne (fun e => by rw [e, hx] at hq25; cases hq25), upd_ne (fun e => by rw [e, hdx] at hq25; cases hq25)]; exact hq25
          · have hq6 : H6 q = some (.lst acc) := fr q _ (fun e => by rw [← e, hq5] at hx; cases hx) (by rw [upd_ne (fun e => by rw [← e, hq5] at hx; cases hx), upd_ne (fun e => by rw [← e, hq5] at hdx; cases hdx)]; exact hq5)
            exact ⟨q, acc, .ref x, rfl, rfl, hq6, Evl.sz_lt (by omega), fin (e3.trans e5) hx hdx ne fr hx6 st pys⟩
        · have hq3 := e3 _ _ hqH
          have bl0 : bl = [] := by
            have : bs = [] := by simpa using hb
            rw [this] at lb
            exact List.length_eq_zero_iff.mp lb
          refine ⟨_, rfl, .inl ⟨rfl, _, Evl.sq_of hq3⟩, _, rfl, _, rfl, _, rfl, ?_⟩
          intro x dx hx hdx ne
          refine ⟨x, dx, t0, kv, kyv, ov, [], rfl, upd_same, .inr (sq_nil ht0), by decide, fun H6 t fr hx6 st => ⟨rfl, ?_⟩⟩
          have hq6 : H6 q = some (.lst acc) := fr q _ (fun e => by rw [← e, hq3] at hx; cases hx) (by rw [upd_ne (fun e => by rw [← e, hq3] at hx; cases hx), upd_ne (fun e => by rw [← e, hq3] at hdx; cases hdx)]; exact hq3)
          exact ⟨q, acc, .ref x, rfl, rfl, hq6, Evl.sz_lt (by omega), fin e3 hx hdx ne fr hx6 st (by rw [bl0]; exact .nil)⟩
      · obtain ⟨acc, o2, o3, o4, o5, rfl, eH, hqH, pacc⟩ := pv
        rw [← lx, List.take_of_length_le (Nat.le_refl _)] at pacc
        exact Evl.s_ret (Evl.ev_var rfl) fun H9 e9 => k H9 q acc (eH.trans e9) hq (e9 _ _ hqH) (pair_imp pacc fun d y r => r.ex e9)
end
end Pk

namespace Pk
open PySem PySem.Spec PyProof.Rows L2 Ssb
open Evl (Ex Ev EvT EvL EvA EvU)
/-! ### the slots of nodes -/
open ClX (CRead CVal tCVal pe_cval)
def kindOf : D → D
  | .tup (k :: _) => k
  | _ => .non
def keyOf : D → D
  | .tup (_ :: q :: _) => q
  | _ => .non
/-- what a node is counted among -/
def alikeD (d : D) : D := match keyOf d with
  | .non => .non
  | q => .tup [kindOf d, q]
def cntN (ds : List D) (i : Nat) (k : NestedKey) : Nat := ((ds.take i).filter fun e => decide (nkD (alikeD e) = k)).length
def isNon : D → Bool
  | .non => true
  | _ => false
def slotN (pl : Str) (ds : List D) (i : Nat) (d : D) : Int := if isNon (keyOf d) && decide (pl = "all") then (i : Int) else (cntN ds i (nkD (alikeD d)) : Int)
def slotD (pl : Str) (ds : List D) (i : Nat) (d : D) : D := .tup [kindOf d, keyOf d, .int (slotN pl ds i d)]
def slotsD (pl : Str) (ds : List D) : List D := (List.range ds.length).map fun i => slotD pl ds i (ds.getD i .non)
theorem cnt_succ {ds : List D} {i : Nat} {d : D} (h : ds[i]? = some d) (k : NestedKey) : cntN ds (i + 1) k = cntN ds i k + (if nkD (alikeD d) = k then 1 else 0) := by
  unfold cntN
  rw [take_snoc h, List.filter_append, List.length_append]
  by_cases e : nkD (alikeD d) = k
  · rw [if_pos e, List.filter_cons_of_pos (by simpa using e)]; rfl
  · rw [if_neg e, List.filter_cons_of_neg (by simpa using e)]; rfl
theorem slots_take {pl : Str} {ds : List D} {i : Nat} {d : D} (h : ds[i]? = some d) : (slotsD pl ds).take (i + 1) = (slotsD pl ds).take i ++ [slotD pl ds i d] := by
  refine take_snoc ?_
  unfold slotsD
  rw [List.getElem?_map, List.getElem?_range (List.getElem?_eq_some_iff.mp h).1]
  have : ds.getD i .non = d := by rw [List.getD_eq_getElem?_getD, h]; rfl
  rw [Option.map_some, this]
theorem slots_len {pl : Str} {ds : List D} : (slotsD pl ds).length = ds.length := by unfold slotsD; rw [List.length_map, List.length_range]
theorem pair_impM {α β : Type} {F G : α → β → Prop} : ∀ {l : List α} {m : List β}, Paired F l m → (∀ a b, a ∈ l → b ∈ m → F a b → G a b) → Paired G l m
  | _, _, .nil, _ => .nil
  | _, _, .cons h t, k => .cons (k _ _ List.mem_cons_self List.mem_cons_self h) (pair_impM t fun a b ha hb h => k a b (List.mem_cons_of_mem _ ha) (List.mem_cons_of_mem _ hb) h)
theorem slot_kd {pl : Str} {ds : List D} {m : Nat} (h : ∀ d ∈ ds, NdD m d) : ∀ x ∈ slotsD pl ds, kdD 4 x := fun x hx => by
  unfold slotsD at hx
  obtain ⟨i, hi, rfl⟩ := List.mem_map.mp hx
  have hi : i < ds.length := List.mem_range.mp hi
  have e : ds.getD i .non = ds[i] := by rw [List.getD_eq_getElem?_getD, List.getElem?_eq_getElem hi]; rfl
  rw [e]
  have hd := h _ (List.getElem_mem hi)
  generalize ds[i] = d at hd
  cases m with
  | zero => exact hd.elim
  | succ m =>
  obtain ⟨kd, ky, ow, bl, rfl, hkd, hky, _⟩ := hd
  intro y hy
  rcases List.mem_cons.mp hy with rfl | hy
  · rcases hkd with rfl | ⟨s, rfl⟩ <;> trivial
  rcases List.mem_cons.mp hy with rfl | hy
  · exact hky.1
  · rw [List.mem_singleton.mp hy]; trivial
/-- a key of that depth stands at that level -/
theorem rep_lv {H : Hp} {S : Addr → Prop} : ∀ (k : Nat) {n m : Nat} {d : D} {v : V}, k + 1 ≤ m → kdD k d → Rep H n S d v → Rep H m S d v
  | _, 0, _, _, _, _, _, h => h.elim
  | _, _, 0, _, _, h, _, _ => absurd h (by omega)
  | k, n + 1, m + 1, .non, _, _, _, h => h
  | k, n + 1, m + 1, .int _, _, _, _, h => h
  | k, n + 1, m + 1, .str _, _, _, _, h => h
  | 0, n + 1, m + 1, .tup _, _, _, hk, _ => hk.elim
  | k + 1, n + 1, m + 1, .tup l, v, hm, hk, h => by
    obtain ⟨a, xs, e, ha, hl, p⟩ := h
    refine ⟨a, xs, e, ha, hl, ?_⟩
    clear ha e hl
    have : ∀ {l : List D} {xs : List V}, (∀ x ∈ l, kdD k x) → Paired (fun d x => Rep H n S d x) l xs → Paired (fun d x => Rep H m S d x) l xs := fun {l} => by
      induction l with
      | nil => intro xs _ p; cases p; exact .nil
      | cons d l ih =>
        intro xs hk p
        cases p with
        | cons p1 p => exact .cons (rep_lv k (by omega) (hk d List.mem_cons_self) p1) (ih (fun x hx => hk x (List.mem_cons_of_mem _ hx)) p)
    exact this hk p
  | k, n + 1, m + 1, .bl _, _, _, hk, _ => by cases k <;> exact hk.elim
  | k, n + 1, m + 1, .lst _, _, _, hk, _ => by cases k <;> exact hk.elim
  | k, n + 1, m + 1, .dic _, _, _, hk, _ => by cases k <;> exact hk.elim
/-- what a count stands for -/
def cntV (n : Nat) : Option V := if n = 0 then none else some (.int (n : Int))
theorem cntV_get {n : Nat} : (cntV n).getD (.int 0) = .int (n : Int) := by
  unfold cntV
  by_cases h : n = 0
  · rw [if_pos h, h]; rfl
  · rw [if_neg h]; rfl
theorem hu20 {A : Around} {k : Nat} (hr : Room k A) : A.units + 20 < cLine := Nat.lt_of_le_of_lt (by omega) hr.units
theorem if_no {t : TT} {ta tb : TE} {σ : L2.St} {H : Hp} {Q : VK} (h : EvT t σ H false) (k : ∀ H1, Ex H H1 → tb σ H1 Q) : tIf t ta tb σ H Q := h H (Ex.refl _) _ fun H1 e => iteF (k H1 e)
theorem if_yes {t : TT} {ta tb : TE} {σ : L2.St} {H : Hp} {Q : VK} (h : EvT t σ H true) (k : ∀ H1, Ex H H1 → ta σ H1 Q) : tIf t ta tb σ H Q := h H (Ex.refl _) _ fun H1 e => iteT (k H1 e)
theorem ev_cval {K : PySem.W.Frag} {σ : L2.St} {H : Hp} {ta : TE} {C : Addr} {f : Str} {v : V} {mc u : Value} (h : Ev ta σ H (.ref C)) (cr : CRead K C mc) (cv : CVal K C mc f v u) : Ev (tCVal K ta f) σ H v := fun H1 e Q q => h H1 e _ fun H2 e2 => ⟨C, mc, v, u, rfl, cr, cv, q H2 e2⟩
theorem non_of {H : Hp} {n : Nat} {S : Addr → Prop} {v : V} (h : Rep H n S .non v) : v = .non := by
  cases n with
  | zero => exact h.elim
  | succ n => exact h
theorem tup_of {H : Hp} {n : Nat} {S : Addr → Prop} {l : List D} {v : V} (h : Rep H n S (.tup l) v) : v ≠ .non := by
  cases n with
  | zero => exact h.elim
  | succ n => obtain ⟨a, _, e, _⟩ := h; rw [e]; exact fun z => nomatch z
section
variable {P : Program} {w : World} {K : PySem.W.Frag} {mg : Str → Option Value} {base : Heap} {C_Node C_Rule C_InvalidRule : Addr}
theorem alike_go (T : Txt K mg C_Node C_Rule C_InvalidRule) {σ : L2.St} {H : Hp} {Q : VK} {a dx : Addr} {vk vq vo vi : V} {kd ky ow bl : D} {n1 n2 : Nat} (h5 : σ[5]? = some (some (.ref a))) (ha : H a = some (.ins C_Node dx (nodeF vk vq vo vi))) (hk : Rep H n1 Fs kd vk) (hq : Rep H n2 Fs ky vq) (kdk : kdD 3 kd) (kyk : KyD ky)
    (k : ∀ H1 av, Ex H H1 → KeyV H1 (alikeD (.tup [kd, ky, ow, bl])) av → (av = .non ↔ isNon ky = true) → Q av H1) :
    tIf (tTest (tOp (fun x y H Q => y = .non ∧ Q (.bl (decide (x = .non))) H) (tFld K (tVar 5) "key") (tC .non))) (tC .non) (tTup (tCons (tFld K (tVar 5) "kind") (tCons (tFld K (tVar 5) "key") tNil))) σ H Q := by
  rcases kyk with ⟨kk, rfl | ⟨l, rfl⟩⟩
  · obtain rfl := non_of hq
    refine if_yes (Evl.et_is (Evl.et_test (Evl.ev_op (ev_fld (Evl.ev_var h5) ha T.cl_Node T.no_Node_key rfl) Evl.ev_c rv_isN)) (by simp)) fun H1 e1 => ?_
    exact k H1 _ e1 ⟨trivial, .inl rfl, 1, Fs, rfl⟩ ⟨(fun _ => rfl), (fun _ => rfl)⟩
  · refine if_no (Evl.et_is (Evl.et_test (Evl.ev_op (ev_fld (Evl.ev_var h5) ha T.cl_Node T.no_Node_key rfl) Evl.ev_c rv_isN)) (decide_eq_false (tup_of hq))) fun H1 e1 => ?_
    refine ⟨_, h5, a, C_Node, dx, _, vk, rfl, e1 _ _ ha, T.cl_Node, T.no_Node_kind, rfl, _, h5, a, C_Node, dx, _, vq, rfl, e1 _ _ ha, T.cl_Node, T.no_Node_key, rfl, (by show 2 ≤ sizeLine; decide), fun tp htp => ?_⟩
    have e2 := Ex.new (o := .tup [vk, vq]) htp
    refine k _ _ (e1.trans e2) ⟨fun x hx => ?_, .inr ⟨_, rfl⟩, n1 + n2 + 1, Fs, tp, _, rfl, upd_same, by show 2 ≤ 100000; decide, .cons (rep_le (by omega) (rep_ex (e1.trans e2) hk)) (.cons (rep_le (by omega) (rep_ex (e1.trans e2) hq)) .nil)⟩ ⟨(fun h => nomatch h), (fun h => nomatch h)⟩
    rcases List.mem_cons.mp hx with rfl | hx
    · exact kd_le (by decide) kdk
    · rw [List.mem_singleton.mp hx]; exact kd_le (by decide) kk
def RuleAt (C : Addr) (H : Hp) (r : Addr) (pl : Str) : Prop := ∃ dx, H r = some (.ins C dx [(("place" : Str), .str pl)])
def spSlots (CN CR : Addr) (K : PySem.W.Frag) : Sp := fun vs H Q _ => ∃ (r l : Addr) (pl : Str) (m : Nat) (ds : List D) (ys : List V), vs = [.ref r, .ref l] ∧ RuleAt CR H r pl ∧ H l = some (.lst ys) ∧ Paired (fun d x => NodeR CN K H m d x) ds ys ∧ (∀ d ∈ ds, NdD m d) ∧ ds.length ≤ 100 ∧
  ∀ H' q zs, Ex H H' → H q = none → H' q = some (.lst zs) → Paired (fun d z => Rep H' 6 Fs d z) (slotsD pl ds) zs → Q (.ref q) H'
theorem ok_Rule_call (T : Txt K mg C_Node C_Rule C_InvalidRule) (R : Prg K mg C_Node C_Rule C_InvalidRule) : ∃ f fd, FnOk P w K mg base CX0 2 f fd ["self", "nodes"] (spSlots C_Node C_Rule K) ∧ Binds K fd ["self", "nodes"] [] ∧ PySem.W.findIn K (.ref C_Rule) "__call__" = some (some (.ref f)) ∧ PySem.W.isFn K (.ref f) = true ∧ PySem.W.fnIn K f = true := by
  obtain ⟨f, fd, F, fi, isf, kp⟩ := R.Rule___call__
  obtain ⟨tA, hA⟩ := T.all_Rule
  refine ⟨f, fd, F.ok sc_Rule___call__ (fun vs H Q E h => ?_) (fun cdv A outer s H vs Q E hr h => ?_), F.binds (fun _ _ _ _ _ _ us hl => match us, hl with | [_, _], _ => rfl), fi, isf, ?_⟩
  · obtain ⟨r, l, pl, m, ds, ys, rfl, _⟩ := h; rfl
  · obtain ⟨r, l, pl, m, ds, ys, rfl, ⟨dxr, hr0⟩, hl, pn, nds, l100, k⟩ := h
    refine ⟨_, (pss_cons (ps_set (i := 2) sc_Rule___call__.nd rfl (Or.inl rfl) (pe_lst pa_nil))
  (pss_cons (ps_set (i := 3) sc_Rule___call__.nd rfl (Or.inl rfl) (show PE _ _ (tNNew w) from pe_nnew))
  (pss_cons (ps_for PassesOwn.never rfl (pi_enum (by rfl) T.enumerate (pa_cons (pv 1) pa_nil)) (show PG _ _ (gTup K 2 _) from pg_tup (n := 2) rfl (pgs_cons (pg_name (i := 4) sc_Rule___call__.nd rfl (Or.inl rfl)) (pgs_cons (pg_name (i := 5) sc_Rule___call__.nd rfl (Or.inl rfl)) pgs_nil)))
    (pss_cons (ps_set (i := 6) sc_Rule___call__.nd rfl (Or.inl rfl) (pe_ifExp (pt_cmpR op_isN (show PE _ _ (tFld K _ _) from pe_fld (pv 5) rfl) pe_non (nomark _)) pe_non (pe_tup (pa_cons (show PE _ _ (tFld K _ _) from pe_fld (pv 5) rfl) (pa_cons (show PE _ _ (tFld K _ _) from pe_fld (pv 5) rfl) pa_nil)))))
  (pss_cons (ps_set (i := 7) sc_Rule___call__.nd rfl (Or.inl rfl) (show PE _ _ (tNGet2 w _ _) from pe_nget2 (hu20 hr) (pv 3) (pa_cons (pv 6) (pa_cons pe_int pa_nil))))
  (pss_cons (show PS _ _ (sNPut w _ _ _) from ps_nput (hu20 hr) (pv 3) (pv 6) (pe_op op_add (pv 7) pe_int) rfl)
  (pss_cons (ps_if (PW.pt (pw_and (pt_cmpR op_isN (pv 6) pe_non (nomark _)) (pw_and1 (pt_cmpR op_eq (show PE _ _ (tFld K _ _) from pe_fld (pv 0) rfl) (show PE _ _ (tCVal K _ _) from pe_cval (pe_glob (v := .ref C_Rule) rfl T.at_Rule rfl)) (nomark _))))) (pss_one (ps_set (i := 7) sc_Rule___call__.nd rfl (Or.inl rfl) (pv 4))) pss_nil)
  (pss_one (ps_expr (show PE _ _ (tBM K _ _ _ _) from pe_bm PySem.F.plainAttrs_list PySem.F.slot_list_append PySem.F.type_list_append mt_append (pv 2) (pa_cons (pe_tup (pa_cons (show PE _ _ (tFld K _ _) from pe_fld (pv 5) rfl) (pa_cons (show PE _ _ (tFld K _ _) from pe_fld (pv 5) rfl) (pa_cons (pv 7) pa_nil)))) pa_nil)))))))))
  (pss_one (ps_ret (pv 2)))))), ?_⟩
    refine Evl.q_asgL (xs := []) (Evl.el_lst Evl.ea_nil (Nat.zero_le _)) fun q H2 hq e2 hq2 => ?_
    refine q_go fun cd hcd => ?_
    have hcdH : H cd = none := Evl.fresh_back e2 hcd
    have qcd : q ≠ cd := fun e => by rw [e, hcd] at hq2; cases hq2
    have eh : Ex H (upd H2 cd (DkO w cd [])) := e2.trans (Ex.new hcd)
    refine q_enumL (a := l) (xs := ys) (Evl.ev_var rfl) (eh _ _ hl) (fun i σ' H' => ∃ (xs : List XEnt) (zs : List V) (o4 o5 o6 o7 : Option V), σ' = [some (.ref r), some (.ref l), some (.ref q), some (.ref cd), o4, o5, o6, o7] ∧ Ex H H' ∧ H' q = some (.lst zs) ∧ H' cd = some (DkO w cd xs) ∧ Keys H' xs ∧ xs.length ≤ i ∧ i ≤ ds.length ∧ (∀ d, valX xs d = cntV (cntN ds i (nkD d))) ∧ Paired (fun d z => Rep H' 6 Fs d z) ((slotsD pl ds).take i) zs) (fun H1 e1 => ⟨[], [], _, _, _, _, rfl, eh.trans e1, e1 _ _ (by rw [upd_ne qcd]; exact hq2), e1 _ _ upd_same, (fun x h => nomatch h), Nat.le_refl _, Nat.zero_le _, fun d => rfl, .nil⟩) (fun i σ' H' pv => by obtain ⟨_, _, _, _, _, _, _, e, _⟩ := pv; exact e _ _ hl) (fun i σ' H' x hx pv H1 e1 => ?_) fun σ' H' pv => ?_
    · obtain ⟨xs, zs, o4, o5, o6, o7, rfl, eH, hqH, hcdx, kxs, lxs, il, vxs, pz⟩ := pv
      have eH1 := eH.trans e1
      obtain ⟨d, hd, nr⟩ := pair_back pn hx
      have hdm := List.mem_of_getElem? hd
      have il2 : i < ds.length := (List.getElem?_eq_some_iff.mp hd).1
      cases m with
      | zero => exact nr.elim
      | succ m =>
      obtain ⟨kd, ky, ow, bl, a, dx, vk, vq, vo, t, bs, rfl, rfl, hins0, ⟨n1, rk0⟩, ⟨n2, rq0⟩, _, _, _⟩ := nr
      have hins := eH1 _ _ hins0
      have rk := rep_ex eH1 rk0
      have rq := rep_ex eH1 rq0
      obtain ⟨_, _, _, _, eqd, hkd, hky, _⟩ := nds _ hdm
      injection eqd with eqd
      injection eqd with e1' eqd
      injection eqd with e2' eqd
      subst e1' e2'
      have kdk : kdD 3 kd := by rcases hkd with rfl | ⟨s, rfl⟩ <;> trivial
      show tSeq (tAsg _ (gName 6)) _ _ [some (.ref r), some (.ref l), some (.ref q), some (.ref cd), some (.int (i : Int)), some (.ref a), o6, o7] H1
      refine q_go (alike_go (ow := ow) (bl := .lst bl) T rfl hins rk rq kdk hky fun H3 av e3 kav avn => ?_)
      have hcd3 := (e1.trans e3) _ _ hcdx
      have kxs3 : Keys H3 xs := kxs.tk (Tk.of (e1.trans e3))
      generalize haD : alikeD (.tup [kd, ky, ow, .lst bl]) = aD at kav
      refine q_go ⟨_, rfl, ⟨cd, xs, rfl, hcd3, kxs3⟩, _, rfl, cd, av, .int 0, valX xs aD, rfl, rfl, ⟨xs, aD, .inl hcd3, kxs3, kav, rfl⟩, ?_⟩
      rw [vxs aD, cntV_get]
      refine Evl.ev_op (Evl.ev_var rfl) Evl.ev_c Evl.rv_I0 H3 (Ex.refl _) _ fun H4 e4 => ⟨_, rfl, _, rfl, cd, xs, aD, rfl, e4 _ _ hcd3, kxs3.tk (Tk.of e4), kav.tk (Tk.of e4), Nat.lt_of_le_of_lt (Nat.le_trans lxs (Nat.le_trans il l100)) (by decide), ?_⟩
      have tk5 : Tk H4 (upd H4 cd (DkO w cd (putX xs aD av (.int ((cntN ds i (nkD aD) : Int) + 1))))) := Tk.upd (e4 _ _ hcd3) (fun _ z => nomatch z)
      have e14 := (e1.trans e3).trans e4
      have eH5 : Ex H (upd H4 cd (DkO w cd (putX xs aD av (.int ((cntN ds i (nkD aD) : Int) + 1))))) := Ex.mut (eH.trans e14) hcdH
      have hq5 : (upd H4 cd (DkO w cd (putX xs aD av (.int ((cntN ds i (nkD aD) : Int) + 1))))) q = some (.lst zs) := by rw [upd_ne qcd]; exact e14 _ _ hqH
      have hc5 : (upd H4 cd (DkO w cd (putX xs aD av (.int ((cntN ds i (nkD aD) : Int) + 1))))) cd = some (DkO w cd (putX xs aD av (.int ((cntN ds i (nkD aD) : Int) + 1)))) := upd_same
      have kx5 : Keys (upd H4 cd (DkO w cd (putX xs aD av (.int ((cntN ds i (nkD aD) : Int) + 1))))) (putX xs aD av (.int ((cntN ds i (nkD aD) : Int) + 1))) := (putX_keys (kxs3.tk (Tk.of e4)) (kav.tk (Tk.of e4))).tk tk5
      have tk15 : Tk H' (upd H4 cd (DkO w cd (putX xs aD av (.int ((cntN ds i (nkD aD) : Int) + 1))))) := (Tk.of e14).trans tk5
      generalize (upd H4 cd (DkO w cd (putX xs aD av (.int ((cntN ds i (nkD aD) : Int) + 1))))) = H5 at tk5 eH5 hq5 hc5 kx5 tk15 ⊢
      have hr5 := eH5 _ _ hr0
      have slE : slotN pl ds i (.tup [kd, ky, ow, .lst bl]) = if isNon ky && decide (pl = "all") then (i : Int) else (cntN ds i (nkD aD) : Int) := by rw [← haD]; rfl
      have tst : EvT (tAnd (tTest (tOp (fun x y H Q => y = .non ∧ Q (.bl (decide (x = .non))) H) (tVar 6) (tC .non))) (tTest (tOp rEq (tFld K (tVar 0) "place") (tCVal K (tC (.ref C_Rule)) "ALL")))) [some (.ref r), some (.ref l), some (.ref q), some (.ref cd), some (.int (i : Int)), some (.ref a), some av, some (.int (cntN ds i (nkD aD) : Int))] H5 (isNon ky && decide (pl = "all")) :=
        Evl.et_and (a := isNon ky) (Evl.et_is (Evl.et_test (Evl.ev_op (Evl.ev_var rfl) Evl.ev_c rv_isN)) (by
          rw [Bool.eq_iff_iff, decide_eq_true_eq]; exact avn)) fun _ => Evl.et_is (Evl.et_test (Evl.ev_op (ev_fld (Evl.ev_var rfl) hr5 T.cl_Rule T.no_Rule_place rfl) (ev_cval (v := .str "all") Evl.ev_c ⟨T.cr_Rule, T.cg_Rule⟩ ⟨hA, ⟨tA, rfl⟩⟩) (Evl.rv_eq rfl))) (by
          rw [Bool.eq_iff_iff, decide_eq_true_eq, decide_eq_true_eq]; exact ⟨fun e => V.str.inj e, fun e => by rw [e]⟩)
      dsimp only
      refine Evl.q_ifAsg (i := 7) (v := .int (slotN pl ds i (.tup [kd, ky, ow, .lst bl]))) tst (fun hb => Evl.ev_is (Evl.ev_var (i := 4) rfl) (by rw [slE, if_pos hb])) (fun hb => by rw [slE, if_neg (by rw [hb]; decide)]; rfl) fun H6 e6 => ?_
      have ins6 := e6 _ _ (eH5 _ _ hins0)
      have hq6 := e6 _ _ hq5
      refine ⟨_, rfl, .inl ⟨rfl, _, Evl.sq_of hq6⟩, _, rfl, a, C_Node, dx, _, vk, rfl, ins6, T.cl_Node, T.no_Node_kind, rfl, _, rfl, a, C_Node, dx, _, vq, rfl, ins6, T.cl_Node, T.no_Node_key, rfl, _, rfl, (by show 3 ≤ sizeLine; decide), fun tp htp => ?_⟩
      have e7 := Ex.new (o := .tup [vk, vq, .int (slotN pl ds i (.tup [kd, ky, ow, .lst bl]))]) htp
      have hq7 := e7 _ _ hq6
      have lz : zs.length ≤ 100 := by rw [← pair_len pz, List.length_take]; omega
      refine ⟨q, zs, .ref tp, rfl, rfl, hq7, Evl.sz_lt (by omega), ?_⟩
      have tk8 := Tk.upd (u := .lst (zs ++ [.ref tp])) hq7 (fun _ z => nomatch z)
      have e67 := e6.trans e7
      have tk58 : Tk H5 (upd (upd H6 tp (.tup [vk, vq, .int (slotN pl ds i (.tup [kd, ky, ow, .lst bl]))])) q (.lst (zs ++ [.ref tp]))) := (Tk.of e67).trans tk8
      refine ⟨putX xs aD av (.int ((cntN ds i (nkD aD) : Int) + 1)), zs ++ [.ref tp], _, _, _, _, rfl, Ex.mut (eH5.trans e67) hq, upd_same, by rw [upd_ne (Ne.symm qcd)]; exact e67 _ _ hc5, kx5.tk tk58, Nat.le_trans putX_len (by omega), il2, fun d => ?_, ?_⟩
      · rw [valX_put, vxs d, cnt_succ hd, haD]
        by_cases e : nkD d = nkD aD
        · rw [if_pos e, if_pos e.symm, e]; rfl
        · rw [if_neg e, if_neg (Ne.symm e), Nat.add_zero]
      · rw [slots_take hd]
        have e17 := (Tk.of e1).trans ((Tk.of (e3.trans e4)).trans (tk5.trans tk58))
        refine pair_snoc (pair_impM pz fun x z hx _ rx => rep_tk e17 (slot_kd nds x (List.mem_of_mem_take hx)) rx) ?_
        have rk5 := rep_ex eH5 rk0
        have rq5 := rep_ex eH5 rq0
        refine ⟨tp, [vk, vq, .int (slotN pl ds i (.tup [kd, ky, ow, .lst bl]))], rfl, by rw [upd_ne (fun e => by rw [e, hq6] at htp; cases htp)]; exact upd_same, by show 3 ≤ 100000; decide, .cons ?_ (.cons ?_ (.cons rfl .nil))⟩
        · exact rep_lv 3 (by decide) kdk (rep_tk tk58 kdk rk5)
        · exact rep_lv 3 (by decide) hky.1 (rep_tk tk58 hky.1 rq5)
    · obtain ⟨xs, zs, o4, o5, o6, o7, rfl, eH, hqH, hcdx, kxs, lxs, il, vxs, pz⟩ := pv
      rw [← pair_len pn, ← slots_len (pl := pl), List.take_of_length_le (Nat.le_refl _)] at pz
      exact Evl.s_ret (Evl.ev_var rfl) fun H9 e9 => k H9 q zs (eH.trans e9) hq (e9 _ _ hqH) (pair_imp pz fun d z r => rep_ex e9 r)
  · obtain ⟨oc, od, kV, doc, pm, an, cdv, ct, osl, rfl, lk, _⟩ := F.ex
    unfold PySem.W.fnIn
    rw [lk]
end
end Pk

namespace Pk
open PySem PySem.Spec PyProof.Rows L2 Ssb
open Evl (Ex Ev EvT EvL EvA EvU)
open ClX (CRead CVal tCVal pe_cval)
/-! ### what goes with what -/
theorem cnt_mono {ds : List D} {i j : Nat} {k : NestedKey} (h : i ≤ j) : cntN ds i k ≤ cntN ds j k := by
  unfold cntN
  have e : ds.take i = (ds.take j).take i := by rw [List.take_take, Nat.min_eq_left h]
  rw [e]
  exact ((List.take_sublist _ _).filter _).length_le
/-- a node as the lists that matter: kind, key, the rest -/
theorem nd_at {ds : List D} {m i : Nat} (hn : ∀ d ∈ ds, NdD m d) (hi : i < ds.length) : ds[i]? = some (ds.getD i .non) ∧ NdD m (ds.getD i .non) := by
  have g : ds[i]? = some (ds.getD i .non) := by rw [List.getD_eq_getElem?_getD, List.getElem?_eq_getElem hi]; rfl
  exact ⟨g, hn _ (List.mem_of_getElem? g)⟩
def kindK {x : D} (h : x = .non ∨ ∃ s, x = .str s) : kdD 3 x := by rcases h with rfl | ⟨s, rfl⟩ <;> trivial
/-- when two slots are equal -/
theorem slot_eq {pl : Str} {ds es : List D} {m i j : Nat} {a b : D} (ha : NdD m a) (hb : NdD m b) : nkD (slotD pl ds j a) = nkD (slotD pl es i b) ↔ kindOf a = kindOf b ∧ keyOf a = keyOf b ∧ slotN pl ds j a = slotN pl es i b := by
  cases m with
  | zero => exact ha.elim
  | succ m =>
  obtain ⟨kd, ky, ow, bl, rfl, hkd, hky, _⟩ := ha
  obtain ⟨kd2, ky2, ow2, bl2, rfl, hkd2, hky2, _⟩ := hb
  constructor
  · intro e
    unfold slotD at e
    rw [nkD, nkD, nkL, nkL, nkL, nkL, nkL, nkL, nkL, nkL] at e
    injection e with e
    injection e with e1 e
    injection e with e2 e
    injection e with e3 _
    rw [nkD, nkD] at e3
    injection e3 with e3
    exact ⟨nk_inj (kindK hkd) (kindK hkd2) e1, nk_inj hky.1 hky2.1 e2, e3⟩
  · rintro ⟨e1, e2, e3⟩
    unfold slotD
    rw [e1, e2, e3]
theorem slots_ne {pl : Str} {ds : List D} {m i j : Nat} (hn : ∀ d ∈ ds, NdD m d) (hj : j < i) (hi : i < ds.length) : nkD (slotD pl ds j (ds.getD j .non)) ≠ nkD (slotD pl ds i (ds.getD i .non)) := fun e => by
  obtain ⟨gj, nj⟩ := nd_at hn (show j < ds.length by omega)
  obtain ⟨gi, ni⟩ := nd_at hn hi
  obtain ⟨e1, e2, e3⟩ := (slot_eq nj ni).mp e
  have al : alikeD (ds.getD j .non) = alikeD (ds.getD i .non) := by unfold alikeD; rw [e1, e2]
  unfold slotN at e3
  rw [e2] at e3
  by_cases c : (isNon (keyOf (ds.getD i .non)) && decide (pl = "all")) = true
  · rw [if_pos c, if_pos c] at e3
    omega
  · rw [if_neg c, if_neg c, ← al] at e3
    have := cnt_succ gj (nkD (alikeD (ds.getD j .non)))
    rw [if_pos rfl] at this
    have := cnt_mono (ds := ds) (k := nkD (alikeD (ds.getD j .non))) (show j + 1 ≤ i by omega)
    omega
/-- the node of ds with the slot q -/
def slotIx (pl : Str) (ds : List D) (n : Nat) (q : NestedKey) : Option Nat := (List.range n).find? fun j => decide (nkD (slotD pl ds j (ds.getD j .non)) = q)
theorem slotIx_succ {pl : Str} {ds : List D} {m n : Nat} {q : NestedKey} (hn : ∀ d ∈ ds, NdD m d) (h : n < ds.length) : slotIx pl ds (n + 1) q = if q = nkD (slotD pl ds n (ds.getD n .non)) then some n else slotIx pl ds n q := by
  unfold slotIx
  rw [List.range_succ, List.find?_append]
  by_cases e : q = nkD (slotD pl ds n (ds.getD n .non))
  · rw [if_pos e]
    have no : ((List.range n).find? fun j => decide (nkD (slotD pl ds j (ds.getD j .non)) = q)) = none := by
      rw [List.find?_eq_none]
      intro j hj
      have := slots_ne (pl := pl) hn (List.mem_range.mp hj) h
      rw [← e] at this
      simpa using this
    rw [no, List.find?_cons_of_pos (by rw [e]; simp)]; rfl
  · rw [if_neg e, List.find?_cons_of_neg (by simpa using fun z => e z.symm)]
    cases (List.range n).find? fun j => decide (nkD (slotD pl ds j (ds.getD j .non)) = q) <;> rfl
theorem slotIx_lt {pl : Str} {ds : List D} {n j : Nat} {q : NestedKey} (h : slotIx pl ds n q = some j) : j < n ∧ nkD (slotD pl ds j (ds.getD j .non)) = q := by
  have h1 := List.mem_of_find?_eq_some h
  have h2 := List.find?_some h
  exact ⟨List.mem_range.mp h1, of_decide_eq_true h2⟩
/-- the node of ds that goes with the k-th of es -/
def findD (pl : Str) (ds es : List D) (k : Nat) : Option Nat := slotIx pl ds ds.length (nkD (slotD pl es k (es.getD k .non)))
def pairAt (rec : List D → List D → List (D × D)) (ds es : List D) (k : Nat) : Option Nat → List (D × D)
  | none => []
  | some j => (ds.getD j .non, es.getD k .non) :: rec (belowD (ds.getD j .non)) (belowD (es.getD k .non))
def pairsD (pl : Str) : Nat → List D → List D → List (D × D)
  | 0, _, _ => []
  | m + 1, ds, es => (List.range es.length).flatMap fun k => pairAt (pairsD pl m) ds es k (findD pl ds es k)
/-- at most so many -/
def bnd : Nat → Nat
  | 0 => 0
  | m + 1 => 24 * (1 + bnd m)
theorem nd_below {m : Nat} {d : D} (h : NdD (m + 1) d) : (belowD d).length ≤ 24 ∧ ∀ x ∈ belowD d, NdD m x := by
  obtain ⟨kd, ky, ow, bl, rfl, _, _, _, h1, h2⟩ := h
  exact ⟨h1, h2⟩
theorem pairs_len {pl : Str} : ∀ {m : Nat} {ds es : List D}, es.length ≤ 24 → (∀ d ∈ es, NdD m d) → (pairsD pl m ds es).length ≤ bnd m
  | 0, _, _, _, _ => Nat.le_refl _
  | m + 1, ds, es, h, he => by
    have key : ∀ n, n ≤ es.length → ((List.range n).flatMap fun k => pairAt (pairsD pl m) ds es k (findD pl ds es k)).length ≤ n * (1 + bnd m) := fun n => by
      induction n with
      | zero => exact fun _ => Nat.zero_le _
      | succ n ih =>
        intro hn
        rw [List.range_succ, List.flatMap_append, List.length_append, Nat.succ_mul]
        refine Nat.add_le_add (ih (by omega)) ?_
        rw [List.flatMap_cons, List.flatMap_nil, List.append_nil]
        cases findD pl ds es n with
        | none => exact Nat.zero_le _
        | some j =>
          obtain ⟨h1, h2⟩ := nd_below (nd_at he (show n < es.length by omega)).2
          show (pairsD pl m _ _).length + 1 ≤ _
          have := pairs_len (pl := pl) (ds := belowD (ds.getD j .non)) h1 h2
          omega
    have := key es.length (Nat.le_refl _)
    exact Nat.le_trans this (Nat.mul_le_mul_right _ h)
/-! ### nodes below -/
section
variable {P : Program} {w : World} {K : PySem.W.Frag} {mg : Str → Option Value} {base : Heap} {C_Node C_Rule C_InvalidRule : Addr}
def spBelow (C : Addr) (K : PySem.W.Frag) : Sp := fun vs H Q _ => ∃ (v : V) (m : Nat) (d : D), vs = [v] ∧ NodeR C K H (m + 1) d v ∧ ∀ H' q ys, Ex H H' → H q = none → H' q = some (.lst ys) → Paired (fun d x => NodeR C K H' m d x) (belowD d) ys → Q (.ref q) H'
theorem ok_Node_below (T : Txt K mg C_Node C_Rule C_InvalidRule) (R : Prg K mg C_Node C_Rule C_InvalidRule) : ∃ f fd, Mt P w K mg base C_Node "below" 1 ["self"] (spBelow C_Node K) f fd := by
  obtain ⟨f, fd, F, fi, isf, kp⟩ := R.Node_below
  refine ⟨f, fd, F.ok sc_Node_below (fun vs H Q E h => ?_) (fun cdv A outer s H vs Q E hr h => ?_), ⟨fi, isf, kp⟩, F.binds (fun _ _ _ _ _ _ us hl => match us, hl with | [_], _ => rfl)⟩
  · obtain ⟨v, m, d, rfl, _⟩ := h; rfl
  · obtain ⟨v, m, d, rfl, hv, k⟩ := h
    refine ⟨_, (pss_one (ps_ret (pe_callTy call_list_of (by rfl) T.list (by decide +kernel) (pa_cons (show PE _ _ (tFld K _ _) from pe_fld (pv 0) rfl) pa_nil)))), ?_⟩
    obtain ⟨kd, ky, ow, bl, a, dx, vk, vq, vo, t, ys, rfl, rfl, ha, _, _, _, st, pys⟩ := hv
    refine ⟨_, rfl, a, C_Node, dx, _, _, rfl, ha, T.cl_Node, T.no_Node_inside, rfl, t, ys, rfl, .inr st, fun l hl => ?_⟩
    exact k _ l ys (Ex.new hl) hl upd_same (pair_imp pys fun d x r => r.ex (Ex.new hl))
/-- a rule made -/
def spRInit (C : Addr) : Sp := fun vs H Q _ => ∃ (p dx : Addr) (s : Str), vs = [.ref p, .str s] ∧ (s = "all" ∨ s = "plain") ∧ H p = some (.ins C dx []) ∧ ∀ H', (∀ b o, b ≠ p → H b = some o → H' b = some o) → RuleAt C H' p s → Q .non H'
theorem ok_Rule_init (T : Txt K mg C_Node C_Rule C_InvalidRule) (R : Prg K mg C_Node C_Rule C_InvalidRule) : ∃ f fd, MtD P w K mg base CX0 C_Rule "__init__" 1 ["self", "place"] (spRInit C_Rule) [.str "all"] f fd := by
  obtain ⟨f, fd, F, fi, isf, kp⟩ := R.Rule_init
  obtain ⟨tA, hA⟩ := T.all_Rule
  obtain ⟨tP, hP⟩ := T.pl_Rule
  refine ⟨f, fd, F.ok sc_Rule_init (fun vs H Q E h => ?_) (fun cdv A outer s H vs Q E hr h => ?_), ⟨fi, isf, kp⟩, ?_, ?_⟩
  · obtain ⟨p, dx, s, rfl, _⟩ := h; rfl
  · obtain ⟨p, dx, z, rfl, hz, hp, k⟩ := h
    refine ⟨_, (pss_cons (ps_if (pt_cmpR (r := rIn K true) op_notIn_seq (pv 1) (pe_tup (pa_cons (show PE _ _ (tCVal K _ _) from pe_cval (pe_glob (v := .ref C_Rule) rfl T.at_Rule rfl)) (pa_cons (show PE _ _ (tCVal K _ _) from pe_cval (pe_glob (v := .ref C_Rule) rfl T.at_Rule rfl)) pa_nil))) (by rfl)) pss_never pss_nil)
  (pss_one (ps_fld (pv 0) (pv 1) rfl))), ?_⟩
    refine Evl.q_when (b := false) (Evl.et_test (Evl.ev_is (Evl.ev_opU (xs := [.str "all", .str "plain"]) (Evl.ev_var rfl) (Evl.eu_tup (Evl.ea_cons (ev_cval (v := .str "all") Evl.ev_c ⟨T.cr_Rule, T.cg_Rule⟩ ⟨hA, ⟨tA, rfl⟩⟩) (Evl.ea_cons (ev_cval (v := .str "plain") Evl.ev_c ⟨T.cr_Rule, T.cg_Rule⟩ ⟨hP, ⟨tP, rfl⟩⟩) Evl.ea_nil)) (by show 2 ≤ 100000; decide)) fun q Hq hq eq => Evl.rv_niT (Evl.st_of hq) rfl rfl) (by rcases hz with rfl | rfl <;> rfl))) (fun h => nomatch h) fun _ H1 e1 => ?_
    refine ⟨_, rfl, _, rfl, p, C_Rule, dx, [], rfl, e1 _ _ hp, T.cl_Rule, T.no_Rule_place, by decide, ?_⟩
    exact k _ (fun b o n h => by rw [upd_ne n]; exact e1 _ _ h) ⟨dx, upd_same⟩
  · obtain ⟨ds, hv, hb⟩ := F.binds1 (ps := ["self", "place"]) 2 1 (fun e => nomatch e) rfl fun T kV doc pm an cdv ct us its h1 h2 => match us, its, h1, h2 with | [_, _], [_], _, _ => ⟨_, rfl, rfl⟩
    cases hv
    exact hb
  · exact F.binds1 (ps := ["self", "place"]) 1 0 (fun e => nomatch e) rfl fun T kV doc pm an cdv ct us its h1 h2 => match us, its, h1, h2 with | [_], [_], _, _ => ⟨_, rfl, rfl⟩
end
end Pk

namespace Pk
open PySem PySem.Spec PyProof.Rows L2 Ssb
open Evl (Ex Ev EvT EvL EvA EvU)
/-! ### matched -/
theorem dn_zipL {K : PySem.W.Frag} {w : World} {a b : Addr} {xs ys : List V} {g : TG} {tt : TT} {tk tv : TE} {vs : List Nat} {σ : L2.St} {G : Hp} {D : Addr} {Qd : Hp → Prop} (hl : xs.length = ys.length) (Pv : Nat → Hp → Prop) (h0 : Pv 0 (upd G D (DkO w D []))) (hq : ∀ i H, Pv i H → SqL K H a xs ∧ SqL K H b ys)
    (hs : ∀ (i : Nat) (x y : V) (T : Addr) (H : Hp), xs[i]? = some x → ys[i]? = some y → Pv i H → H T = none → NTurn w vs g tt tk tv D σ (.ref T) (upd H T (.tup [x, y])) (Pv (i + 1))) (hd : ∀ H, Pv xs.length H → Qd H) :
    ∃ W : Nat → Nat → Hp → Prop, (∃ m, W 0 m (upd G D (DkO w D []))) ∧ ∀ i m H, W i m H → ((Itz K a b).stop i H ∧ Qd H) ∨ ((Itz K a b).go i H ∧ ∃ M : Hp → Prop, (∀ H', M H' → ∃ j, j < m ∧ W (i + 1) j H') ∧ ∀ x H', (Itz K a b).yld i H x H' → NTurn w vs g tt tk tv D σ x H' M) := by
  refine ⟨fun i m H => m = xs.length - i ∧ i ≤ xs.length ∧ Pv i H, ⟨xs.length, by simp, Nat.zero_le _, h0⟩, ?_⟩
  rintro i m H ⟨rfl, hi, p⟩
  obtain ⟨qx, qy⟩ := hq i H p
  by_cases hlt : i < xs.length
  · have hx : xs[i]? = some xs[i] := List.getElem?_eq_getElem hlt
    have hlt2 : i < ys.length := by omega
    have hy : ys[i]? = some ys[i] := List.getElem?_eq_getElem hlt2
    refine .inr ⟨⟨xs, ys, _, _, qx, qy, hx, hy⟩, Pv (i + 1), fun H' p' => ⟨xs.length - (i + 1), by omega, rfl, hlt, p'⟩, fun v H' y => ?_⟩
    obtain ⟨T, x', y', rfl, hT, rfl, f1, f2⟩ := y
    exact hs i x' y' T H (f1 xs qx) (f2 ys qy) p hT
  · have e : i = xs.length := by omega
    subst e
    exact .inl ⟨⟨xs, ys, qx, qy, Or.inl (Nat.le_refl _)⟩, hd H p⟩
theorem Nl.trans {H H1 H2 : Hp} (a : Nl H H1) (b : Nl H1 H2) : Nl H H2 := fun c o h n => b c o (a c o h n) n
/-- a pair of nodes -/
def PairR (C : Addr) (K : PySem.W.Frag) (H : Hp) (p : D × D) (z : V) : Prop := ∃ t a b n, z = .ref t ∧ H t = some (.tup [a, b]) ∧ NodeR C K H n p.1 a ∧ NodeR C K H n p.2 b
theorem PairR.nl {C : Addr} {K : PySem.W.Frag} {H H' : Hp} {p : D × D} {z : V} (e : Nl H H') (h : PairR C K H p z) : PairR C K H' p z := by
  obtain ⟨t, a, b, n, h1, h2, h3, h4⟩ := h
  exact ⟨t, a, b, n, h1, e _ _ h2 (fun _ z => nomatch z), h3.nl e, h4.nl e⟩
/-- the table as far as i -/
structure TabAt (w : World) (pl : Str) (ds : List D) (xs : List V) (H : Hp) (p : Addr) (i : Nat) : Prop where
  ex : ∃ tab : List XEnt, H p = some (DkO w p tab) ∧ Keys H tab ∧ tab.length ≤ i ∧ ∀ q : D, valX tab q = (slotIx pl ds i (nkD q)).map fun j => xs.getD j .non
section
variable {P : Program} {w : World} {K : PySem.W.Frag} {mg : Str → Option Value} {base : Heap} {C_Node C_Rule C_InvalidRule : Addr}
def spMatched (CN CR : Addr) (K : PySem.W.Frag) : Nat → Sp
  | 0 => fun _ _ _ _ => False
  | m + 1 => fun vs H Q _ => ∃ (r o n : Addr) (pl : Str) (ds es : List D) (xs ys : List V), vs = [.ref r, .ref o, .ref n] ∧ RuleAt CR H r pl ∧ H o = some (.lst xs) ∧ H n = some (.lst ys) ∧ Paired (fun d x => NodeR CN K H m d x) ds xs ∧ Paired (fun d x => NodeR CN K H m d x) es ys ∧ (∀ d ∈ ds, NdD m d) ∧ (∀ d ∈ es, NdD m d) ∧ ds.length ≤ 24 ∧ es.length ≤ 24 ∧ bnd m ≤ 30000 ∧
    ∀ H' q zs, Ex H H' → H q = none → H' q = some (.lst zs) → Paired (fun p z => PairR CN K H' p z) (pairsD pl m ds es) zs → Q (.ref q) H'
theorem ok_matched (T : Txt K mg C_Node C_Rule C_InvalidRule) (R : Prg K mg C_Node C_Rule C_InvalidRule) : ∀ m, ∃ f fd, Fn P w K mg base "matched" (m + 3) ["rule", "old", "new"] (spMatched C_Node C_Rule K m) f fd
  | 0 => by
    obtain ⟨f, fd, at_, F, kp⟩ := R.matched
    exact ⟨f, fd, F.ok sc_matched (fun vs H Q E h => h.elim) (fun cdv A outer s H vs Q E hr h => h.elim), at_, kp, F.binds (fun _ _ _ _ _ _ us hl => match us, hl with | [_, _, _], _ => rfl)⟩
  | m + 1 => by
    obtain ⟨_, _, G_matched⟩ := ok_matched T R m
    obtain ⟨_, _, G_Node_below⟩ := ok_Node_below (P := P) (w := w) (base := base) T R
    obtain ⟨_, _, GcO, GcB, GcM, GcF, GcN⟩ := ok_Rule_call (P := P) (w := w) (base := base) T R
    obtain ⟨f, fd, at_, F, kp⟩ := R.matched
    refine ⟨f, fd, F.ok sc_matched (fun vs H Q E h => ?_) (fun cdv A outer s H vs Q E hr h => ?_), at_, kp, F.binds (fun _ _ _ _ _ _ us hl => match us, hl with | [_, _, _], _ => rfl)⟩
    · obtain ⟨r, o, n, pl, ds, es, xs, ys, rfl, _⟩ := h; rfl
    · obtain ⟨r, o, n, pl, ds, es, xs, ys, rfl, hr1, ho, hn, prx, pry, nds, nes, l1, l2, hb, k⟩ := h
      refine ⟨_, (pss_cons (ps_set (i := 3) sc_matched.nd rfl (Or.inl rfl) (pe_lst pa_nil))
  (pss_cons (ps_setDn (hu := hu20 hr) (i := 4) (own := [("slot", 5), ("node", 8)]) rfl sc_matched.nd rfl rfl (sw_trueD rfl rfl rfl (by decide +kernel)) ((show PI _ _ _ (RZ.iZipA K _) from RZ.pi_zipA (by rfl) T.zip (pa_cons (pe_callI (i := 0) GcO (hr.mono (by omega)) rfl (by first | exact Or.inl rfl | exact Or.inr (Or.inl rfl) | exact Or.inr (Or.inr rfl)) GcM GcF GcN GcB (pa_cons (pv 1) pa_nil)) (pa_cons (pv 1) pa_nil)))) (blkOk_by (own := [("slot", 5), ("node", 8)]) (N := ["rule", "old", "new", "pairs", "table", "slot", "after", "before", "node"]) (sc := defScope s_matched) (by decide +kernel)) (fun _ _ _ _ _ => (show PG _ _ (gTup K 2 _) from pg_tup (n := 2) rfl (pgs_cons (pg_name (i := 5) sc_matched.nd rfl (Or.inl rfl)) (pgs_cons (pg_name (i := 8) sc_matched.nd rfl (Or.inl rfl)) pgs_nil)))) (fun _ _ _ _ _ => pts_nil) (fun _ _ _ _ _ => (pv 5)) (fun _ _ _ _ _ => (pv 8)))
  (pss_cons (ps_for PassesOwn.never rfl ((show PI _ _ _ (RZ.iZipA K _) from RZ.pi_zipA (by rfl) T.zip (pa_cons (pe_callI (i := 0) GcO (hr.mono (by omega)) rfl (by first | exact Or.inl rfl | exact Or.inr (Or.inl rfl) | exact Or.inr (Or.inr rfl)) GcM GcF GcN GcB (pa_cons (pv 2) pa_nil)) (pa_cons (pv 2) pa_nil)))) (show PG _ _ (gTup K 2 _) from pg_tup (n := 2) rfl (pgs_cons (pg_name (i := 5) sc_matched.nd rfl (Or.inl rfl)) (pgs_cons (pg_name (i := 6) sc_matched.nd rfl (Or.inl rfl)) pgs_nil)))
    (pss_one (ps_if (pt_cmpR (r := rNIn w) (op_nin (hu20 hr)) (pv 5) (pv 4) (by rfl)) (pss_cons (ps_set (i := 7) sc_matched.nd rfl (Or.inl rfl) (show PE _ _ (tNGet w _ _) from pe_nget (hu20 hr) (pv 4) (pv 5) (fun _ _ => rfl)))
  (pss_cons (ps_expr (show PE _ _ (tBM K _ _ _ _) from pe_bm PySem.F.plainAttrs_list PySem.F.slot_list_append PySem.F.type_list_append mt_append (pv 3) (pa_cons (pe_tup (pa_cons (pv 7) (pa_cons (pv 6) pa_nil))) pa_nil)))
  (pss_one (ps_expr (show PE _ _ (tBM K _ _ _ _) from pe_bm PySem.F.plainAttrs_list PySem.F.slot_list_extend PySem.F.type_list_extend mt_extend (pv 3) (pa_cons (pcl G_matched hr (pa_cons (pv 0) (pa_cons (pmt0 (pv 7) T.cl_Node G_Node_below hr) (pa_cons (pmt0 (pv 6) T.cl_Node G_Node_below hr) pa_nil)))) pa_nil)))))) pss_nil)))
  (pss_one (ps_ret (pv 3)))))), ?_⟩
      refine Evl.q_asgL (xs := []) (Evl.el_lst Evl.ea_nil (Nat.zero_le _)) fun q H1 hq e1 hq1 => ?_
      obtain ⟨dx, hr1⟩ := hr1
      have sAt : ∀ {fs : List D} {i : Nat}, i < fs.length → (slotsD pl fs)[i]? = some (slotD pl fs i (fs.getD i .non)) := fun {fs i} h => by
        unfold slotsD
        rw [List.getElem?_map, List.getElem?_range h]; rfl
      have kv : ∀ {fs : List D} {i : Nat} {x : V} {Hx Hy : Hp}, (∀ d ∈ fs, NdD m d) → i < fs.length → Tk Hx Hy → Rep Hx 6 Fs (slotD pl fs i (fs.getD i .non)) x → KeyV Hy (slotD pl fs i (fs.getD i .non)) x := fun {fs i x Hx Hy} hn hi e r => by
        have k4 := slot_kd hn _ (List.mem_of_getElem? (sAt hi))
        exact KeyV.tk e ⟨kd_le (by decide) k4, .inr ⟨_, rfl⟩, 6, Fs, r⟩
      have gd : ∀ {fs : List D} {vs : List V} {Hx : Hp} {i : Nat}, Paired (fun d x => NodeR C_Node K Hx m d x) fs vs → i < fs.length → vs[i]? = some (vs.getD i .non) ∧ NodeR C_Node K Hx m (fs.getD i .non) (vs.getD i .non) := fun {fs vs Hx i} p hi => by
        obtain ⟨v, hv, r⟩ := pair_at p (show fs[i]? = some (fs.getD i .non) by rw [List.getD_eq_getElem?_getD, List.getElem?_eq_getElem hi]; rfl)
        have : vs.getD i .non = v := by rw [List.getD_eq_getElem?_getD, hv]; rfl
        rw [this]; exact ⟨hv, r⟩
      have lx := pair_len prx
      have ly := pair_len pry
      refine q_go ⟨r, dx, _, rfl, _, rfl, e1 _ _ hr1, r, o, pl, m, ds, xs, rfl, ⟨dx, e1 _ _ hr1⟩, e1 _ _ ho, pair_imp prx fun a b h => NodeR.ex e1 h, nds, by omega, fun H2 sl zs e2 hsl hzs pz => ?_⟩
      have lz := pair_len pz
      rw [slots_len] at lz
      refine ⟨_, rfl, sl, o, zs, xs, rfl, .inl ⟨Evl.sq_of hzs, Evl.sq_of ((e1.trans e2) _ _ ho), fun D hD => ?_⟩⟩
      refine dn_zipL (xs := zs) (ys := xs) (by omega) (fun i Hx => Ex H2 Hx ∧ TabAt w pl ds xs Hx D i) ⟨Ex.new hD, ⟨[], upd_same, (fun x h => nomatch h), Nat.le_refl _, fun q => rfl⟩⟩ (fun i Hx p => ⟨Evl.sq_of (p.1 _ _ hzs), Evl.sq_of (p.1 _ _ ((e1.trans e2) _ _ ho))⟩) (fun i x y t Hx hx hy pv ht => ?_) fun H3 pv => ?_
      · obtain ⟨ex, ⟨tab, hDt, hks, hlen, hval⟩⟩ := pv
        have e4 := Ex.new (o := .tup [x, y]) ht
        have il : i < ds.length := by rw [lx]; exact (List.getElem?_eq_some_iff.mp hy).1
        obtain ⟨x', hx', rx⟩ := pair_at pz (sAt il)
        rw [hx] at hx'; cases hx'
        have hD4 := e4 _ _ hDt
        have kx := kv nds il (Tk.of (ex.trans e4)) rx
        refine ⟨t, [x, y], rfl, Evl.st_of upd_same, rfl, _, _, rfl, _, _, rfl, rfl, rfl, yes_go ⟨_, rfl, _, rfl, tab, slotD pl ds i (ds.getD i .non), hD4, hks.tk (Tk.of e4), kx, Evl.sz_lt (by omega), Ex.mut (ex.trans e4) hD, ⟨putX tab (slotD pl ds i (ds.getD i .non)) x y, upd_same, (putX_keys (hks.tk (Tk.of e4)) kx).tk (Tk.upd hD4 fun _ z => by unfold DkO at z; cases z), Nat.le_trans putX_len (by omega), fun qd => ?_⟩⟩⟩
        rw [valX_put, slotIx_succ nds il]
        by_cases c : nkD qd = nkD (slotD pl ds i (ds.getD i .non))
        · rw [if_pos c, if_pos c]
          show some y = some (xs.getD i .non)
          rw [List.getD_eq_getElem?_getD, hy]; rfl
        · rw [if_neg c, if_neg c]; exact hval qd
      obtain ⟨e3, tab3⟩ := pv
      have e13 := e1.trans (e2.trans e3)
      have e23 := e2.trans e3
      have hq3 := e23 _ _ hq1
      -- the loop
      refine q_seq ⟨r, dx, _, rfl, _, rfl, e13 _ _ hr1, r, n, pl, m, es, ys, rfl, ⟨dx, e13 _ _ hr1⟩, e13 _ _ hn, pair_imp pry fun a b h => NodeR.ex e13 h, nes, by omega, fun H4 s2 zs2 e4 hs20 hs2 pz2 => ?_⟩
      have lz2 := pair_len pz2
      rw [slots_len] at lz2
      have e14 := e13.trans e4
      refine ⟨_, rfl, s2, n, zs2, ys, rfl, .inl ⟨Evl.sq_of hs2, Evl.sq_of (e14 _ _ hn), ?_⟩⟩
      obtain ⟨tab, hDt, hks, hlen, hval⟩ := tab3
      rw [show zs.length = ds.length by omega] at hlen hval
      have q2 : s2 ≠ q := fun e => by rw [e, e4 _ _ hq3] at hs2; rw [e, hq3] at hs20; cases hs20
      have qD : D ≠ q := fun e => by rw [e, e2 _ _ hq1] at hD; cases hD
      refine RZ.for_zipL (xs := zs2) (ys := ys) (by omega) (fun i σ' Hx => ∃ (ps : List V) (o5 o6 o7 o8 : Option V), σ' = [some (.ref r), some (.ref o), some (.ref n), some (.ref q), some (.ref D), o5, o6, o7, o8] ∧ Ex H Hx ∧ Hx q = some (.lst ps) ∧ Paired (fun p z => PairR C_Node K Hx p z) ((List.range i).flatMap fun k => pairAt (pairsD pl (m - 1)) ds es k (findD pl ds es k)) ps ∧ ps.length ≤ i * (1 + bnd (m - 1)) ∧ Hx D = some (DkO w D tab) ∧ Hx s2 = some (.lst zs2) ∧ Tk H4 Hx)
        ⟨[], _, _, _, _, rfl, e14, e4 _ _ hq3, .nil, Nat.zero_le _, e4 _ _ hDt, hs2, Tk.of (Ex.refl _)⟩ (fun i σ' Hx p => ?_) (fun i x y t σ' Hx hx hy pv ht => ?_) fun σ' Hx pv => ?_
      · obtain ⟨ps, o5, o6, o7, o8, rfl, ex, h1, h2, h3, h4, h5, h6⟩ := p
        exact ⟨Evl.sq_of h5, Evl.sq_of (ex _ _ hn)⟩
      · obtain ⟨ps, o5, o6, o7, o8, rfl, ex, hqx, pps, lps, hDx, hsx, tk⟩ := pv
        have iles : i < es.length := by rw [ly]; exact (List.getElem?_eq_some_iff.mp hy).1
        obtain ⟨x', hx', rx⟩ := pair_at pz2 (sAt iles)
        rw [hx] at hx'; cases hx'
        obtain ⟨hyi, ry⟩ := gd pry iles
        rw [hy] at hyi; cases hyi
        have e5 := Ex.new (o := .tup [x, ys.getD i .non]) ht
        have hD5 := e5 _ _ hDx
        have tk5 := tk.trans (Tk.of e5)
        have ks5 := hks.tk (((Tk.of e4).trans tk).trans (Tk.of e5))
        have kx := kv nes iles tk5 rx
        have hfind : valX tab (slotD pl es i (es.getD i .non)) = (findD pl ds es i).map fun j => xs.getD j .non := hval _
        refine ⟨t, [x, ys.getD i .non], rfl, Evl.st_of upd_same, rfl, _, _, rfl, _, _, rfl, rfl, ?_⟩
        refine Evl.s_if (b := (findD pl ds es i).isSome) (Evl.et_is (Evl.et_test (Evl.ev_op (Evl.ev_var rfl) (Evl.ev_var rfl) (fun Hy ey Q q' => ⟨D, _, rfl, ⟨tab, slotD pl es i (es.getD i .non), .inl (ey _ _ hD5), ks5.tk (Tk.of ey), kx.tk (Tk.of ey), rfl⟩, q' Hy (Ex.refl _)⟩))) (by rw [hfind]; cases findD pl ds es i <;> rfl)) (fun hb6 H6 e6 => ?_) fun hb6 H6 e6 => ?_
        · obtain ⟨j, hj⟩ : ∃ j, findD pl ds es i = some j := by
            cases h : findD pl ds es i with
            | none => rw [h] at hb6; cases hb6
            | some j => exact ⟨j, rfl⟩
          obtain ⟨jl, _⟩ := slotIx_lt hj
          have hb6 : (findD pl ds es i).isSome = true := hb6
          rw [hj] at hfind
          obtain ⟨nj, ndj⟩ := nd_at nds jl
          obtain ⟨ni, ndi⟩ := nd_at nes iles
          cases m with
          | zero => exact ndj.elim
          | succ m =>
          obtain ⟨bl1, bn1⟩ := nd_below ndj
          obtain ⟨bl2, bn2⟩ := nd_below ndi
          obtain ⟨hxj, rj⟩ := gd prx jl
          have e06 := ex.trans (e5.trans e6)
          have e56 := e5.trans e6
          obtain ⟨_, _, _, _, ja, jdx, _, _, _, _, _, _, ejx, hja, _⟩ := id (NodeR.ex e06 rj)
          obtain ⟨_, _, _, _, ia, idx, _, _, _, _, _, _, eix, hia, _⟩ := id (NodeR.ex e06 ry)
          refine q_go ⟨_, rfl, _, rfl, D, xs.getD j .non, rfl, ⟨tab, slotD pl es i (es.getD i .non), .inl (e56 _ _ hDx), hks.tk (((Tk.of e4).trans tk).trans (Tk.of e56)), kv nes iles (tk.trans (Tk.of e56)) rx, hfind.symm⟩, ?_⟩
          -- the pair
          have hq6 := e56 _ _ hqx
          refine q_seq ⟨_, rfl, .inl ⟨rfl, _, Evl.sq_of hq6⟩, _, rfl, _, rfl, (by show 2 ≤ sizeLine; decide), fun tp htp => ?_⟩
          have e7 := Ex.new (o := .tup [xs.getD j .non, ys.getD i .non]) htp
          have hq7 := e7 _ _ hq6
          have b1 : (1 + bnd m) * 24 ≤ 30000 := by have : bnd (m + 1) = 24 * (1 + bnd m) := rfl; omega
          have lps' : ps.length ≤ 30000 := Nat.le_trans lps (Nat.le_trans (Nat.mul_le_mul_right _ (show i ≤ 24 by omega)) (by have : m + 1 - 1 = m := rfl; rw [this]; omega))
          refine ⟨q, ps, .ref tp, rfl, rfl, hq7, Evl.sz_lt (by omega), ?_⟩
          have tk8 := Tk.upd (u := .lst (ps ++ [.ref tp])) hq7 (fun _ z => nomatch z)
          have nl8 := (Nl.of (e56.trans e7)).trans (Nl.upd (o := .lst (ps ++ [.ref tp])) hq7)
          have e08 := Ex.mut (o := .lst (ps ++ [.ref tp])) (e06.trans e7) hq
          have hD8 : (upd (upd H6 tp (.tup [xs.getD j .non, ys.getD i .non])) q (.lst (ps ++ [.ref tp]))) D = some (DkO w D tab) := by rw [upd_ne qD]; exact (e56.trans e7) _ _ hDx
          have hs8 : (upd (upd H6 tp (.tup [xs.getD j .non, ys.getD i .non])) q (.lst (ps ++ [.ref tp]))) s2 = some (.lst zs2) := by rw [upd_ne q2]; exact (e56.trans e7) _ _ hsx
          have hq8 : (upd (upd H6 tp (.tup [xs.getD j .non, ys.getD i .non])) q (.lst (ps ++ [.ref tp]))) q = some (.lst (ps ++ [.ref tp])) := upd_same
          have ht8 := tk8 _ _ (upd_same (H := H6) (a := tp) (o := .tup [xs.getD j .non, ys.getD i .non]))
          have tk48 := (tk.trans (Tk.of (e56.trans e7))).trans tk8
          have pps8 := pair_imp pps fun a b h => h.nl nl8
          generalize (upd (upd H6 tp (.tup [xs.getD j .non, ys.getD i .non])) q (.lst (ps ++ [.ref tp]))) = H8 at e08 hD8 hs8 hq8 ht8 tk48 pps8 ⊢
          clear hja hia ejx eix ja ia
          obtain ⟨_, _, _, _, ja, jdx, _, _, _, _, _, _, ejx, hja, _⟩ := id (NodeR.ex e08 rj)
          obtain ⟨_, _, _, _, ia, idx, _, _, _, _, _, _, eix, hia, _⟩ := id (NodeR.ex e08 ry)
          refine ⟨_, rfl, .inl ⟨rfl, _, Evl.sq_of hq8⟩, _, rfl, _, rfl, ja, jdx, _, ejx, hja, rfl, xs.getD j .non, m, ds.getD j .non, rfl, NodeR.ex e08 rj, fun H9 q9 ys9 e9 hq90 hq9 p9 => ?_⟩
          refine ⟨_, rfl, ia, idx, _, eix, e9 _ _ hia, rfl, ys.getD i .non, m, es.getD i .non, rfl, NodeR.ex (e08.trans e9) ry, fun H10 q10 ys10 e10 hq100 hq10 p10 => ?_⟩
          refine ⟨r, q9, q10, pl, belowD (ds.getD j .non), belowD (es.getD i .non), ys9, ys10, rfl, ⟨dx, (e08.trans (e9.trans e10)) _ _ hr1⟩, e10 _ _ hq9, hq10, pair_imp p9 fun a b h => NodeR.ex e10 h, p10, bn1, bn2, bl1, bl2, by omega, fun H11 q11 zs11 e11 hq110 hq11 p11 => ?_⟩
          have e811 := e9.trans (e10.trans e11)
          have hq11' := e811 _ _ hq8
          have lz11 : zs11.length ≤ bnd m := by rw [← pair_len p11]; exact pairs_len bl2 bn2
          have lps0 : ps.length ≤ i * (1 + bnd m) := lps
          refine ⟨q, q11, ps ++ [.ref tp], zs11, rfl, rfl, hq11', hq11, Evl.sz_of (by rw [List.length_append]; show ps.length + 1 + zs11.length ≤ 100000; omega), ?_⟩
          have nlF := Nl.upd (o := .lst ((ps ++ [.ref tp]) ++ zs11)) hq11'
          have eF := Ex.mut (o := .lst ((ps ++ [.ref tp]) ++ zs11)) (e08.trans e811) hq
          refine ⟨_, _, _, _, _, rfl, eF, upd_same, ?_, ?_, by rw [upd_ne qD]; exact e811 _ _ hD8, by rw [upd_ne q2]; exact e811 _ _ hs8, (tk48.trans (Tk.of e811)).trans (Tk.upd hq11' fun _ z => nomatch z)⟩
          · rw [List.range_succ, List.flatMap_append, List.flatMap_cons, List.flatMap_nil, List.append_nil, hj, List.append_assoc]
            rw [List.append_assoc] at nlF eF
            refine pair_app (pair_imp pps8 fun a b h => h.nl ((Nl.of e811).trans nlF)) (.cons ⟨tp, _, _, m + 1, rfl, nlF _ _ (e811 _ _ ht8) (fun _ z => nomatch z), NodeR.ex eF rj, NodeR.ex eF ry⟩ (pair_imp p11 fun a b h => h.nl nlF))
          · rw [List.length_append, List.length_append]
            show ps.length + 1 + zs11.length ≤ (i + 1) * (1 + bnd m)
            rw [Nat.succ_mul]; omega
        · have hn6 : findD pl ds es i = none := by
            cases h : findD pl ds es i with
            | none => rfl
            | some j => rw [h] at hb6; cases hb6
          have e56 := e5.trans e6
          refine ⟨ps, _, _, _, _, rfl, ex.trans e56, e56 _ _ hqx, ?_, Nat.le_trans lps (Nat.mul_le_mul_right _ (Nat.le_succ i)), e56 _ _ hDx, e56 _ _ hsx, tk.trans (Tk.of e56)⟩
          rw [List.range_succ, List.flatMap_append, List.flatMap_cons, List.flatMap_nil, hn6]
          show Paired _ (_ ++ []) ps
          rw [List.append_nil]
          exact pair_imp pps fun a b h => h.nl (Nl.of e56)
      · obtain ⟨ps, o5, o6, o7, o8, rfl, ex, hqx, pps, lps, hDx, hsx, tk⟩ := pv
        have e : ((List.range zs2.length).flatMap fun k => pairAt (pairsD pl (m - 1)) ds es k (findD pl ds es k)) = pairsD pl m ds es := by
          rw [← lz2]
          cases m with
          | zero =>
            cases es with
            | nil => rfl
            | cons d es => exact (nes d List.mem_cons_self).elim
          | succ m => rfl
        rw [e] at pps
        exact Evl.s_ret (Evl.ev_var rfl) fun H9 e9 => k H9 q ps (ex.trans e9) hq (e9 _ _ hqx) (pair_imp pps fun a b h => h.nl (Nl.of e9))
end
end Pk

namespace Pk
open PySem PySem.Spec PyProof.Rows L2 Ssb
open Evl (Ex Ev EvT EvL EvA EvU)
/-! ### the owners of pairs -/
theorem lc_own {K : PySem.W.Frag} {a : Addr} {ps : List V} {ts : List (D × D)} {tA tB : TE} {vs : List Nat} {σ : L2.St} {H1 : Hp} {i j : Nat} {Q : VK} (ha : H1 a = some (.lst ps)) (hw : ∀ x y, wipe (((wipe σ vs).set i (some x)).set j (some y)) vs = wipe σ vs)
    (pr : Paired (fun p z => ∃ t x y u v, z = .ref t ∧ H1 t = some (.tup [x, y]) ∧ Rep H1 4 Fs (ownD p.1) u ∧ Rep H1 4 Fs (ownD p.2) v ∧ Ev tA (((wipe σ vs).set i (some x)).set j (some y)) H1 u ∧ Ev tB (((wipe σ vs).set i (some x)).set j (some y)) H1 v) ts ps) (l : ps.length ≤ 40000)
    (k : ∀ H' L zs, Ex H1 H' → H1 L = none → H' L = some (.lst zs) → Paired (fun (p : D × D) z => Rep H' 5 Fs (.tup [ownD p.1, ownD p.2]) z) ts zs → Q (.ref L) H') :
    ∀ Dl, H1 Dl = none → ∃ W : Nat → Nat → Hp → Prop, (∃ m, W 0 m (upd H1 Dl (.lst []))) ∧ ∀ c m H, W c m H → ((Itl K a).stop c H ∧ Q (.ref Dl) H) ∨ ((Itl K a).go c H ∧ ∃ Nx : Hp → Prop, (∀ H', Nx H' → ∃ m', m' < m ∧ W (c + 1) m' H') ∧ ∀ x H', (Itl K a).yld c H x H' → gTup K 2 (gCons (gName i) (gCons (gName j) gNil)) x (wipe σ vs) H' fun σ2 H2 => wipe σ2 vs = wipe σ vs ∧ tYes σ2 H2 fun b H3 =>
        if b = true then tTup (tCons tA (tCons tB tNil)) σ2 H3 fun y H4 => ∃ acc, H4 Dl = some (.lst acc) ∧ acc.length < sizeLine ∧ Nx (upd H4 Dl (.lst (acc ++ [y]))) else Nx H3) := fun Dl hD => by
  refine lc_list (xs := ps) (fun c H' => Ex H1 H' ∧ ∃ zs, H' Dl = some (.lst zs) ∧ Paired (fun (p : D × D) z => Rep H' 5 Fs (.tup [ownD p.1, ownD p.2]) z) (ts.take c) zs) ⟨Ex.new hD, [], upd_same, .nil⟩ (fun c H' _ p => Evl.sq_of (p.1 _ _ ha)) (fun c x H' hx pv => ?_) fun H' pv => ?_
  · obtain ⟨ex, zs, hzs, pz⟩ := pv
    obtain ⟨p, hp, t, x1, y1, u, v, rfl, ht, ru, rv, eu, ev⟩ := pair_back pr hx
    refine ⟨t, [x1, y1], rfl, Evl.st_of (ex _ _ ht), rfl, _, _, rfl, _, _, rfl, rfl, hw _ _, yes_go ?_⟩
    refine eu H' ex _ fun H3 e3 => ev H3 (ex.trans e3) _ fun H4 e4 => ⟨(by show 2 ≤ sizeLine; decide), fun tp htp => ?_⟩
    have e5 := Ex.new (o := .tup [u, v]) htp
    have e35 := e3.trans (e4.trans e5)
    have hz5 := e35 _ _ hzs
    have lz : zs.length ≤ 40000 := by
      have := pair_len pz
      rw [List.length_take] at this
      have := pair_len pr
      omega
    refine ⟨zs, hz5, Evl.sz_lt (by omega), Ex.mut (ex.trans e35) hD, zs ++ [.ref tp], upd_same, ?_⟩
    rw [take_snoc hp]
    have up : ∀ {n : Nat} {d : D} {z : V}, Rep (upd H4 tp (.tup [u, v])) n Fs d z → Rep (upd (upd H4 tp (.tup [u, v])) Dl (.lst (zs ++ [.ref tp]))) n Fs d z := fun r => rep_upd hz5 (fun _ z => nomatch z) (fun b z => z.elim) r
    refine pair_snoc (pair_imp pz fun d z r => up (rep_ex e35 r)) (up ⟨tp, [u, v], rfl, upd_same, by show 2 ≤ 100000; decide, .cons (rep_ex (ex.trans e35) ru) (.cons (rep_ex (ex.trans e35) rv) .nil)⟩)
  · obtain ⟨ex, zs, hzs, pz⟩ := pv
    rw [List.take_of_length_le (by have := pair_len pr; omega)] at pz
    exact k H' Dl zs ex hD hzs pz
/-- the pairs are nodes of the trees -/
theorem pairs_nd {pl : Str} : ∀ {m : Nat} {ds es : List D}, (∀ d ∈ ds, NdD m d) → (∀ d ∈ es, NdD m d) → ∀ p ∈ pairsD pl m ds es, ∃ n, NdD n p.1 ∧ NdD n p.2
  | 0, _, _, _, _, p, hp => by cases hp
  | m + 1, ds, es, hd, he, p, hp => by
    obtain ⟨k, hk, hp⟩ := List.mem_flatMap.mp hp
    have hk := List.mem_range.mp hk
    cases hf : findD pl ds es k with
    | none => rw [hf] at hp; cases hp
    | some j =>
      rw [hf] at hp
      obtain ⟨jl, _⟩ := slotIx_lt hf
      obtain ⟨_, n1⟩ := nd_at hd jl
      obtain ⟨_, n2⟩ := nd_at he hk
      rcases List.mem_cons.mp hp with rfl | hp
      · exact ⟨m + 1, n1, n2⟩
      · exact pairs_nd (nd_below n1).2 (nd_below n2).2 p hp
theorem own_kd {n : Nat} {d : D} (h : NdD n d) : kdD 3 (ownD d) := by
  cases n with
  | zero => exact h.elim
  | succ n =>
    obtain ⟨kd, ky, ow, bl, rfl, _, _, ⟨_, _, h⟩, _⟩ := h
    exact h
end Pk

namespace Pk
open PySem PySem.Spec PyProof.Rows L2 Ssb
open Evl (Ex Ev EvT EvL EvA EvU)
/-! ### nodes edited -/
def FrAt (H : Hp) (S c fr : Addr) : Prop := StAt H S c ∧ fr ≠ S ∧ fr ≠ c ∧ ∃ k : Int, H fr = some (.lst [.int k])
/-- the stream and the number moved, all else stands -/
structure Mf (S c fr : Addr) (H H' : Hp) : Prop where
  a : FrAt H S c fr
  z : FrAt H' S c fr
  fr : ∀ b o, b ≠ S → b ≠ c → b ≠ fr → H b = some o → H' b = some o
section
variable {S c f : Addr} {H H' H2 : Hp}
theorem FrAt.ex (e : Ex H H') (h : FrAt H S c f) : FrAt H' S c f := let ⟨a, n1, n2, k, hk⟩ := h; ⟨a.ex e, n1, n2, k, e _ _ hk⟩
theorem Mf.mv (h : FrAt H S c f) (m : Mv S c H H') : Mf S c f H H' := ⟨h, let ⟨_, n1, n2, k, hk⟩ := h; ⟨m.z, n1, n2, k, m.fr _ _ n1 n2 hk⟩, fun b o b1 b2 _ hb => m.fr b o b1 b2 hb⟩
theorem Mf.ex (h : FrAt H S c f) (e : Ex H H') : Mf S c f H H' := ⟨h, h.ex e, fun b o _ _ _ hb => e b o hb⟩
theorem Mf.trans (m : Mf S c f H H') (m2 : Mf S c f H' H2) : Mf S c f H H2 := ⟨m.a, m2.z, fun b o b1 b2 b3 hb => m2.fr b o b1 b2 b3 (m.fr b o b1 b2 b3 hb)⟩
theorem Mf.tx (m : Mf S c f H H') (e : Ex H' H2) : Mf S c f H H2 := m.trans (.ex m.z e)
theorem Mf.tm (m : Mf S c f H H') (e : Mv S c H' H2) : Mf S c f H H2 := m.trans (.mv m.z e)
theorem FrAt.some3 (a : FrAt H S c f) {b : Addr} (h : H b = none) : b ≠ S ∧ b ≠ c ∧ b ≠ f := by
  obtain ⟨a, _, _, k, hk⟩ := a
  obtain ⟨n1, n2⟩ := a.someS h
  exact ⟨n1, n2, fun e => (by rw [e, hk] at h; cases h)⟩
theorem Mf.back (m : Mf S c f H H') {b : Addr} (h : H' b = none) : H b = none := by
  obtain ⟨n1, n2, n3⟩ := m.z.some3 h
  cases e : H b with
  | none => rfl
  | some o => rw [m.fr b o n1 n2 n3 e] at h; cases h
theorem Mf.mut {p : Addr} {o : HO} (m : Mf S c f H H') (h : H p = none) : Mf S c f H (upd H' p o) := by
  obtain ⟨n1, n2, n3⟩ := m.a.some3 h
  obtain ⟨⟨n, k, cs, h1, h2, h3⟩, n4, n5, g2, h4⟩ := m.z
  refine ⟨m.a, ⟨⟨n, k, cs, by rw [upd_ne (Ne.symm n1)]; exact h1, by rw [upd_ne (Ne.symm n2)]; exact h2, h3⟩, n4, n5, g2, by rw [upd_ne (Ne.symm n3)]; exact h4⟩, fun b o' b1 b2 b3 hb => ?_⟩
  have : b ≠ p := fun e => by rw [e, h] at hb; cases hb
  rw [upd_ne this]
  exact m.fr b o' b1 b2 b3 hb
theorem Mf.num {k : Int} (h : FrAt H S c f) : Mf S c f H (upd H f (.lst [.int k])) := by
  obtain ⟨⟨n, k0, cs, h1, h2, h3⟩, n4, n5, g2, h4⟩ := id h
  exact ⟨h, ⟨⟨n, k0, cs, by rw [upd_ne n4.symm]; exact h1, by rw [upd_ne n5.symm]; exact h2, h3⟩, n4, n5, k, upd_same⟩, fun b o b1 b2 b3 hb => by rw [upd_ne b3]; exact hb⟩
theorem Mf.tup (m : Mf S c f H H') {t : Addr} {xs : List V} (h : H t = some (.tup xs)) : H' t = some (.tup xs) := by
  obtain ⟨⟨_, k, cs, h1, h2, _⟩, _, _, g2, h3⟩ := m.a
  exact m.fr _ _ (fun e => by rw [e, h1] at h; cases h) (fun e => by rw [e, h2] at h; cases h) (fun e => by rw [e, h3] at h; cases h) h
theorem rep_mf (m : Mf S c f H H') {n : Nat} {P : Addr → Prop} {d : D} {v : V} (hP : ∀ b, P b → b ≠ S ∧ b ≠ c ∧ b ≠ f) (h : Rep H n P d v) : Rep H' n P d v := by
  obtain ⟨⟨_, k, cs, h1, h2, _⟩, _, _, g2, h3⟩ := m.a
  refine rep_to (fun b o hb hp => m.fr b o (fun e => ?_) (fun e => ?_) (fun e => ?_) hb) h
  all_goals
    rw [e] at hp hb
    rcases hp with hp | ⟨xs, rfl⟩
  · exact (hP _ hp).1 rfl
  · rw [h1] at hb; cases hb
  · exact (hP _ hp).2.1 rfl
  · rw [h2] at hb; cases hb
  · exact (hP _ hp).2.2 rfl
  · rw [h3] at hb; cases hb
end
theorem pair_drop {α β : Type} {F : α → β → Prop} : ∀ {l : List α} {m : List β} (n : Nat), Paired F l m → Paired F (l.drop n) (m.drop n)
  | _, _, 0, h => h
  | _, _, _ + 1, .nil => .nil
  | _, _, n + 1, .cons h t => pair_drop n t
theorem pair_take {α β : Type} {F : α → β → Prop} : ∀ {l : List α} {m : List β} (n : Nat), Paired F l m → Paired F (l.take n) (m.take n)
  | _, _, 0, _ => .nil
  | _, _, _ + 1, .nil => .nil
  | _, _, n + 1, .cons h t => .cons h (pair_take n t)
/-! ### where the owners of an edited tree come from -/
def fr (j : Int) : D := .tup [.tup [.int 99, .int j], .tup []]
theorem fr_inj {i j : Int} (h : fr i = fr j) : i = j := by
  unfold fr at h
  injection h with h
  injection h with h _
  injection h with h
  injection h with _ h
  injection h with h _
  injection h
def Trk (g0 g1 : Int) (old es : List D) : Prop := ∃ (olds : List D) (js : List Int), es.Perm (olds ++ js.map fr) ∧ olds.Sublist old ∧ js.Nodup ∧ g0 ≤ g1 ∧ ∀ j ∈ js, g0 < j ∧ j ≤ g1
theorem Trk.nil {g : Int} : Trk g g [] [] := ⟨[], [], .refl _, .refl _, List.nodup_nil, Int.le_refl _, fun j h => nomatch h⟩
theorem Trk.skip {g0 g1 : Int} {old es more : List D} (h : Trk g0 g1 old es) : Trk g0 g1 (old ++ more) es := by
  obtain ⟨olds, js, p, sb, r⟩ := h
  exact ⟨olds, js, p, sb.trans (List.sublist_append_left _ _), r⟩
theorem Trk.node {g0 g1 g2 : Int} {old es oldb esb es' : List D} {ow : D} (h : Trk g0 g1 old es) (hb : Trk g1 g2 oldb esb) (hp : es'.Perm (es ++ (ow :: esb))) : Trk g0 g2 (old ++ (ow :: oldb)) es' := by
  obtain ⟨olds, js, p, sb, nd, le, hj⟩ := h
  obtain ⟨oldsb, jsb, pb, sbb, ndb, leb, hjb⟩ := hb
  refine ⟨olds ++ (ow :: oldsb), js ++ jsb, ?_, sb.append (sbb.cons_cons ow), ?_, by omega, fun j hm => ?_⟩
  · refine hp.trans ((p.append (pb.cons ow)).trans ?_)
    rw [List.map_append]
    have a1 : (olds ++ js.map fr ++ (ow :: (oldsb ++ jsb.map fr))).Perm (olds ++ (js.map fr ++ (ow :: oldsb)) ++ jsb.map fr) := by
      simp only [List.append_assoc, List.cons_append]; exact .refl _
    have a2 : (olds ++ (js.map fr ++ (ow :: oldsb)) ++ jsb.map fr).Perm (olds ++ ((ow :: oldsb) ++ js.map fr) ++ jsb.map fr) := (List.perm_append_comm.append_left olds).append_right _
    refine a1.trans (a2.trans ?_)
    simp only [List.append_assoc, List.cons_append]; exact .refl _
  · rw [List.nodup_append]
    refine ⟨nd, ndb, fun a ha b hb e => ?_⟩
    have := hj a ha
    have := hjb b hb
    omega
  · rcases List.mem_append.mp hm with hm | hm
    · have := hj j hm; omega
    · have := hjb j hm; omega
theorem Trk.fresh {g0 g1 : Int} {old es : List D} (h : Trk g0 g1 old es) : Trk g0 (g1 + 1) old (es ++ [fr (g1 + 1)]) := by
  obtain ⟨olds, js, p, sb, nd, le, hj⟩ := h
  refine ⟨olds, js ++ [g1 + 1], ?_, sb, ?_, by omega, fun j hm => ?_⟩
  · rw [List.map_append, ← List.append_assoc]
    exact p.append_right _
  · rw [List.nodup_append]
    refine ⟨nd, (List.pairwise_singleton _ _), fun a ha b hb e => ?_⟩
    have := hj a ha
    rw [List.mem_singleton.mp hb] at e
    omega
  · rcases List.mem_append.mp hm with hm | hm
    · have := hj j hm; omega
    · rw [List.mem_singleton.mp hm]; omega
/-- owners apart, none of them a later fresh one -/
def Own (g : Int) (os : List D) : Prop := os.Nodup ∧ ∀ o ∈ os, ∀ j, g < j → o ≠ fr j
theorem Trk.own {g0 g1 : Int} {old es : List D} (h : Trk g0 g1 old es) (o : Own g0 old) : Own g1 es := by
  obtain ⟨olds, js, p, sb, nd, le, hj⟩ := h
  obtain ⟨nd0, no⟩ := o
  constructor
  · refine p.symm.nodup ?_
    rw [List.nodup_append]
    refine ⟨nd0.sublist sb, List.Pairwise.map _ (fun a b h e => h (fr_inj e)) nd, fun a ha b hb e => ?_⟩
    obtain ⟨j, hm, rfl⟩ := List.mem_map.mp hb
    exact no a (sb.subset ha) j (hj j hm).1 e
  · intro x hx j lj e
    rcases List.mem_append.mp (p.subset hx) with hm | hm
    · exact no x (sb.subset hm) j (by omega) e
    · obtain ⟨i, hi, rfl⟩ := List.mem_map.mp hm
      have := hj i hi
      have := fr_inj e
      omega
theorem owns_ins {m a : Nat} {es es9 : List D} {d : D} (h : ownsD m (belowD d) = es9) : (ownsD (m + 1) (es.take a ++ [d] ++ es.drop a)).Perm (ownsD (m + 1) es ++ (ownD d :: es9)) := by
  rw [owns_app, owns_app, owns_one, h]
  have e : ownsD (m + 1) es = ownsD (m + 1) (es.take a) ++ ownsD (m + 1) (es.drop a) := by rw [← owns_app, List.take_append_drop]
  rw [e, List.append_assoc, List.append_assoc]
  exact (List.perm_append_comm).append_left _
section
variable {P : Program} {w : World} {K : PySem.W.Frag} {mg : Str → Option Value} {base : Heap} {C_Node C_Rule C_InvalidRule : Addr}
def spEdit : Nat → Sp
  | 0 => fun _ _ _ _ => False
  | m + 1 => fun vs H Q _ => ∃ (S c f a : Addr) (n : Nat) (P : Addr → Prop) (ds : List D) (bb : Nat) (g0 : Int), vs = [.ref S, .ref a, .ref f] ∧ FrAt H S c f ∧ H f = some (.lst [.int g0]) ∧ Rep H n P (.lst ds) (.ref a) ∧ (∀ b, P b → b ≠ S ∧ b ≠ c ∧ b ≠ f) ∧ (∀ x ∈ ds, NdB bb m x) ∧ ds.length ≤ bb ∧ bb ≤ 12 ∧
    ∀ H' q es g1, Mf S c f H H' → Rep H' (2 * m + 5) (fun b => H b = none) (.lst es) (.ref q) → es.length ≤ 2 * bb → (∀ x ∈ es, NdB (2 * bb) m x) → H' f = some (.lst [.int g1]) → Trk g0 g1 (ownsD m ds) (ownsD m es) → Q (.ref q) H'
theorem ok__law_edited (T : Txt K mg C_Node C_Rule C_InvalidRule) (R : Prg K mg C_Node C_Rule C_InvalidRule) : ∀ m, ∃ f fd, Fn P w K mg base "_law_edited" (m + 3) ["_law_stream_here", "_law_nodes", "_law_fresh"] (spEdit m) f fd
  | 0 => by
    obtain ⟨f, fd, at_, F, kp⟩ := R._law_edited
    exact ⟨f, fd, F.ok sc__law_edited (fun vs H Q E h => h.elim) (fun cdv A outer s H vs Q E hr h => h.elim), at_, kp, F.binds (fun _ _ _ _ _ _ us hl => match us, hl with | [_, _, _], _ => rfl)⟩
  | m + 1 => by
    obtain ⟨_, _, G__law_edited⟩ := ok__law_edited T R m
    obtain ⟨_, _, G__law_draw⟩ := ok__law_draw (P := P) (w := w) (base := base) T R
    obtain ⟨_, _, G__law_tree_key⟩ := ok__law_tree_key (P := P) (w := w) (base := base) T R
    obtain ⟨f, fd, at_, F, kp⟩ := R._law_edited
    refine ⟨f, fd, F.ok sc__law_edited (fun vs H Q E h => ?_) (fun cdv A outer s H vs Q E hr h => ?_), at_, kp, F.binds (fun _ _ _ _ _ _ us hl => match us, hl with | [_, _, _], _ => rfl)⟩
    · obtain ⟨S, c, f, a, n, P, ds, bb, g0, rfl, _⟩ := h; rfl
    · obtain ⟨S, c, f, a, n, P, ds, bb, g0, rfl, fa, hf0, hv, hP, nds, l12, hb12, k⟩ := h
      have nfS : f ≠ S := fa.2.1
      have nfc : f ≠ c := fa.2.2.1
      refine ⟨_, (pss_cons (ps_set (i := 3) sc__law_edited.nd rfl (Or.inl rfl) (pe_lst pa_nil))
  (pss_cons (ps_for PassesOwn.never rfl (show PI _ _ _ (iList K _) from pi_list (pv 1)) (show PG _ _ (gTup K 4 _) from pg_tup (n := 4) rfl (pgs_cons (pg_name (i := 4) sc__law_edited.nd rfl (Or.inl rfl)) (pgs_cons (pg_name (i := 5) sc__law_edited.nd rfl (Or.inl rfl)) (pgs_cons (pg_name (i := 6) sc__law_edited.nd rfl (Or.inl rfl)) (pgs_cons (pg_name (i := 7) sc__law_edited.nd rfl (Or.inl rfl)) pgs_nil)))))
    (pss_cons (ps_set (i := 8) sc__law_edited.nd rfl (Or.inl rfl) (pcl G__law_draw hr (pa_cons (pv 0) (pa_cons pe_int pa_nil))))
  (Evl.pss_cut (ps_if (pt_cmpR op_eq (pv 8) pe_int (nomark _)) (pss_one (ps_set (i := 5) sc__law_edited.nd rfl (Or.inl rfl) (pcl G__law_tree_key hr (pa_cons (pv 0) pa_nil)))) pss_nil)
  (Evl.pss_cut (ps_if (pt_cmpR op_eq (pv 8) pe_int (nomark _)) (pss_one (ps_set (i := 4) sc__law_edited.nd rfl (Or.inl rfl) (pe_ix (r := rIxT K) ix_tup (pe_tup (pa_cons pe_non (pa_cons pe_str (pa_cons pe_str pa_nil)))) (pcl G__law_draw hr (pa_cons (pv 0) (pa_cons pe_int pa_nil))) (fun _ _ => rfl)))) pss_nil)
  (pss_cons (ps_set (i := 9) sc__law_edited.nd rfl (Or.inl rfl) (pe_callB (r := rLenA K) call_len (by rfl) T.len (by decide +kernel) (pa_cons (pv 3) pa_nil)))
  (Evl.pss_cut (ps_if (pt_cmpR op_eq (pv 8) pe_int (nomark _)) (pss_one (ps_set (i := 9) sc__law_edited.nd rfl (Or.inl rfl) (pcl G__law_draw hr (pa_cons (pv 0) (pa_cons (pe_op op_add (pe_callB (r := rLenA K) call_len (by rfl) T.len (by decide +kernel) (pa_cons (pv 3) pa_nil)) pe_int) pa_nil))))) pss_nil)
  (Evl.pss_cut (ps_if (pt_cmpR op_gt (pv 8) pe_int (nomark _)) (pss_one (ps_expr (show PE _ _ (tBM K _ _ _ _) from pe_bm PySem.F.plainAttrs_list PySem.F.slot_list_insert PySem.F.type_list_insert mt_insert (pv 3) (pa_cons (pv 9) (pa_cons (pe_tup (pa_cons (pv 4) (pa_cons (pv 5) (pa_cons (pv 6) (pa_cons (pcl G__law_edited hr (pa_cons (pv 0) (pa_cons (pv 7) (pa_cons (pv 2) pa_nil)))) pa_nil))))) pa_nil))))) pss_nil)
  (pss_one (ps_if (pt_cmpR op_eq (pv 8) pe_int (nomark _)) (pss_cons (ps_asg (pe_op op_add (pe_ix (r := rIxL K) ix_list (pv 2) pe_int (fun _ _ => rfl)) pe_int) (pg_sub (pv 2) pe_int set_list))
  (pss_one (ps_expr (show PE _ _ (tBM K _ _ _ _) from pe_bm PySem.F.plainAttrs_list PySem.F.slot_list_append PySem.F.type_list_append mt_append (pv 3) (pa_cons (pe_tup (pa_cons (pv 4) (pa_cons (pv 5) (pa_cons (pe_tup (pa_cons (pe_tup (pa_cons pe_int (pa_cons (pe_ix (r := rIxL K) ix_list (pv 2) pe_int (fun _ _ => rfl)) pa_nil))) (pa_cons (pe_tup pa_nil) pa_nil))) (pa_cons (pe_lst pa_nil) pa_nil))))) pa_nil))))) pss_nil)))))))))
  (pss_one (ps_ret (pv 3))))), ?_⟩
      cases n with
      | zero => exact hv.elim
      | succ n =>
      obtain ⟨_, xs, ea, hPa, ha, l5, prx⟩ := id hv
      cases ea
      have lx := pair_len prx
      obtain ⟨aS, ac, af⟩ := hP _ hPa
      refine Evl.q_asgL (xs := []) (Evl.el_lst Evl.ea_nil (Nat.zero_le _)) fun q H1 hq e1 hq1 => ?_
      have qS := fa.some3 hq
      have m01 := Mf.ex fa e1
      have rg : ∀ b, (H b = none ∧ b ≠ q) → b ≠ S ∧ b ≠ c ∧ b ≠ f := fun b hb => fa.some3 hb.1
      refine ⟨_, rfl, a, rfl, ⟨_, Evl.sq_of (m01.fr _ _ aS ac af ha)⟩, for_list (K := K) (a := a) (xs := xs) (fun i σ' H' => ∃ (ys : List V) (es : List D) (o4 o5 o6 o7 o8 o9 : Option V), σ' = [some (.ref S), some (.ref a), some (.ref f), some (.ref q), o4, o5, o6, o7, o8, o9] ∧ Mf S c f H H' ∧ H' q = some (.lst ys) ∧ Paired (fun d y => Rep H' (2 * m + 4) (fun b => H b = none ∧ b ≠ q) d y) es ys ∧ es.length ≤ 2 * i ∧ (∀ x ∈ es, NdB (2 * bb) m x) ∧ ∃ g1, H' f = some (.lst [.int g1]) ∧ Trk g0 g1 (ownsD m (ds.take i)) (ownsD m es))
        ⟨[], [], _, _, _, _, _, _, rfl, m01, hq1, .nil, Nat.zero_le _, (fun x h => nomatch h), g0, e1 _ _ hf0, by rw [List.take_zero, owns_nil]; exact Trk.nil⟩ (fun i σ' H' _ p => ?_) (fun i x σ' H' hx pv => ?_) fun σ' H' pv => ?_⟩
      · obtain ⟨ys, es, o4, o5, o6, o7, o8, o9, rfl, mH, _⟩ := p
        exact Evl.sq_of (mH.fr _ _ aS ac af ha)
      · obtain ⟨ys, es, o4, o5, o6, o7, o8, o9, rfl, mH, hqH, pys, les, nes, g1, hf1, trk⟩ := pv
        obtain ⟨d, hd, rd⟩ := pair_back prx hx
        have hn := nds d (List.mem_of_getElem? hd)
        have il : i < 12 := by have := (List.getElem?_eq_some_iff.mp hx).1; omega
        cases m with
        | zero => exact hn.elim
        | succ m =>
        obtain ⟨kd, ky, ow, bl, rfl, hkd, hky, ⟨lo, how, hok⟩, lbl, nbl⟩ := hn
        cases n with
        | zero => exact rd.elim
        | succ n =>
        obtain ⟨t4, ws, rfl, ht4, _, pw⟩ := rd
        cases pw with
        | cons w1 pw =>
        cases pw with
        | cons w2 pw =>
        cases pw with
        | cons w3 pw =>
        cases pw with
        | cons w4 pw =>
        cases pw
        rename_i kv kyv ov bv
        cases n with
        | zero => exact w4.elim
        | succ n =>
        obtain ⟨ba, bs, rfl, _⟩ := id w4
        have ht4' := mH.tup ht4
        refine ⟨t4, _, rfl, Evl.st_of ht4', rfl, _, _, rfl, _, _, rfl, _, _, rfl, _, _, rfl, rfl, ?_⟩
        have kdF : ∀ n2 H2, Rep H2 (n2 + 1) Fs kd kv := fun n2 H2 => by
          rcases hkd with rfl | ⟨s, rfl⟩
          · have := non_of w1; subst this; rfl
          · have : kv = .str s := w1
            subst this; rfl
        have kyF : Rep H 4 Fs ky kyv := rep_lv 3 (by decide) hky.1 (rep_key hky.1 w2)
        have owF : Rep H 4 Fs ow ov := rep_lv 3 (by decide) hok (rep_key hok w3)
        have noP : ∀ b, Fs b → b ≠ S ∧ b ≠ c ∧ b ≠ f := fun b h => h.elim
        refine q_go (dr_go (m := 9) (Evl.ea_cons (Evl.ev_var rfl) (Evl.ea_cons Evl.ev_c Evl.ea_nil)) mH.z.1 (by decide) (by decide) fun H3 way m3 w0 w9 => ?_)
        have t3 := mH.tm m3
        have hf3 := m3.fr _ _ nfS nfc hf1
        have hq3 := m3.fr _ _ qS.1 qS.2.1 hqH
        have pys3 := pair_imp pys fun a b h => rep_mv m3 (fun z => (rg _ z).1 rfl) (fun z => (rg _ z).2.1 rfl) h
        clear hqH pys
        -- the key
        refine Evl.q_cut (M := fun σ' H4 => ∃ ky' kyv', σ' = [some (.ref S), some (.ref a), some (.ref f), some (.ref q), some kv, some kyv', some ov, some (.ref ba), some (.int way), o9] ∧ Mf S c f H3 H4 ∧ Rep H4 4 Fs ky' kyv' ∧ KyD ky' ∧ H4 f = some (.lst [.int g1])) ?_ ?_
        · refine Evl.s_when (Evl.et_test (Evl.ev_op (Evl.ev_var rfl) Evl.ev_c (Evl.rv_eq rfl))) (fun hb H4 e4 => ?_) fun hb H4 e4 => ?_
          · exact ⟨_, rfl, S, c, rfl, (t3.tx e4).z.1, fun H5 v d m5 r kd => ⟨d, v, rfl, (Mf.ex t3.z e4).tm m5, r, kd, m5.fr _ _ nfS nfc (e4 _ _ hf3)⟩⟩
          · exact ⟨ky, kyv, rfl, Mf.ex t3.z e4, rep_mf (t3.tx e4) noP kyF, hky, e4 _ _ hf3⟩
        rintro σ' H4 ⟨ky', kyv', rfl, t4', rk4, hky', hf4⟩
        have t14 := t3.trans t4'
        -- the kind
        refine Evl.q_cut (M := fun σ' H5 => ∃ kd' kv', σ' = [some (.ref S), some (.ref a), some (.ref f), some (.ref q), some kv', some kyv', some ov, some (.ref ba), some (.int way), o9] ∧ Mf S c f H4 H5 ∧ (∀ n2 H2, Rep H2 (n2 + 1) Fs kd' kv') ∧ (kd' = .non ∨ ∃ s, kd' = .str s) ∧ H5 f = some (.lst [.int g1])) ?_ ?_
        · refine Evl.s_when (Evl.et_test (Evl.ev_op (Evl.ev_var rfl) Evl.ev_c (Evl.rv_eq rfl))) (fun hb H5 e5 => ?_) fun hb H5 e5 => ?_
          · exact pick3 (t14.tx e5).z.1 rfl fun H6 d v m6 hd rd => ⟨d, v, rfl, (Mf.ex t14.z e5).tm m6, rd, hd, m6.fr _ _ nfS nfc (e5 _ _ hf4)⟩
          · exact ⟨kd, kv, rfl, Mf.ex t14.z e5, kdF, hkd, e5 _ _ hf4⟩
        rintro σ' H5 ⟨kd', kv', rfl, t5, kdF', hkd', hf5⟩
        have t35 := t4'.trans t5
        have t15 := t14.trans t5
        have up3 : ∀ {Hx : Hp}, Mf S c f H3 Hx → Hx q = some (.lst ys) ∧ Paired (fun d y => Rep Hx (2 * (m + 1) + 4) (fun b => H b = none ∧ b ≠ q) d y) es ys := fun t => ⟨t.fr _ _ qS.1 qS.2.1 qS.2.2 hq3, pair_imp pys3 fun a b h => rep_mf t rg h⟩
        refine Evl.q_asg (v := .int (ys.length : Int)) (ev_lenL (Evl.ev_var rfl) (.inl (Evl.sq_of (up3 t35).1))) fun H6 e6 => ?_
        have t36 := t35.tx e6
        have hf6 := e6 _ _ hf5
        have t16 := t15.tx e6
        have lys := pair_len pys3
        -- where
        refine Evl.q_cut (M := fun σ' H7 => ∃ at' : Int, 0 ≤ at' ∧ at' ≤ (ys.length : Int) ∧ σ' = [some (.ref S), some (.ref a), some (.ref f), some (.ref q), some kv', some kyv', some ov, some (.ref ba), some (.int way), some (.int at')] ∧ Mf S c f H6 H7 ∧ H7 f = some (.lst [.int g1])) ?_ ?_
        · refine Evl.s_when (Evl.et_test (Evl.ev_op (Evl.ev_var rfl) Evl.ev_c (Evl.rv_eq rfl))) (fun hb H7 e7 => ?_) fun hb H7 e7 => ?_
          · refine dr_go (m := (ys.length : Int) + 1) (Evl.ea_cons (Evl.ev_var rfl) (Evl.ea_cons (Evl.ev_op (ev_lenL (Evl.ev_var rfl) (.inl (Evl.sq_of (up3 (t36.tx e7)).1))) Evl.ev_c Evl.rv_I0) Evl.ea_nil)) (t16.tx e7).z.1 (by omega) (by omega) fun H8 z m8 z0 z1 => ⟨z, z0, by omega, rfl, (Mf.ex t16.z e7).tm m8, m8.fr _ _ nfS nfc (e7 _ _ hf6)⟩
          · exact ⟨(ys.length : Int), by omega, Int.le_refl _, rfl, Mf.ex t16.z e7, e7 _ _ hf6⟩
        rintro σ' H7 ⟨at', a0, a1, rfl, t7, hf7⟩
        have t37 := t36.trans t7
        have t17 := t16.trans t7
        -- the node itself
        refine Evl.q_cut (M := fun σ' H8 => ∃ ys' es', σ' = [some (.ref S), some (.ref a), some (.ref f), some (.ref q), some kv', some kyv', some ov, some (.ref ba), some (.int way), some (.int at')] ∧ Mf S c f H H8 ∧ Rep H8 4 Fs ky' kyv' ∧ H8 q = some (.lst ys') ∧ Paired (fun d y => Rep H8 (2 * (m + 1) + 4) (fun b => H b = none ∧ b ≠ q) d y) es' ys' ∧ es'.length ≤ 2 * i + 1 ∧ (∀ x ∈ es', NdB (2 * bb) (m + 1) x) ∧ ∃ g2, H8 f = some (.lst [.int g2]) ∧ Trk g0 g2 (ownsD (m + 1) (ds.take (i + 1))) (ownsD (m + 1) es')) ?_ ?_
        · refine Evl.s_when (Evl.et_test (Evl.ev_op (Evl.ev_var rfl) Evl.ev_c Evl.rv_I0)) (fun hb H8 e8 => ?_) fun hb H8 e8 => ?_
          · have t18 := t17.tx e8
            obtain ⟨hq8, pys8⟩ := up3 (t37.tx e8)
            refine ⟨_, rfl, .inl ⟨rfl, _, Evl.sq_of hq8⟩, _, rfl, _, rfl, _, rfl, _, rfl, _, rfl, _, rfl, _, rfl, S, c, f, ba, _, P, bl, bb, g1, rfl, t18.z, e8 _ _ hf7, rep_mf t18 hP w4, hP, nbl, lbl, hb12, fun H9 q9 es9 g2 t9 r9 l9 n9 hf9 trk9 => ⟨(by show 4 ≤ sizeLine; decide), fun tp htp => ?_⟩⟩
            have e10 := Ex.new (o := .tup [kv', kyv', ov, .ref q9]) htp
            have t8F := t9.tx e10
            have tF := t18.trans t8F
            have rk8 := rep_mf (((t5.tx e6).trans t7).tx e8) noP rk4
            have hqF := t8F.fr _ _ qS.1 qS.2.1 qS.2.2 hq8
            have htF := (upd_same (H := H9) (a := tp) (o := .tup [kv', kyv', ov, .ref q9]))
            have pysF := pair_imp pys8 fun a b h => rep_mf t8F rg h
            have rlF := rep_ex e10 r9
            have rkF := rep_mf t8F noP rk8
            have roF := rep_mf tF noP owF
            have hfF := e10 _ _ hf9
            generalize (upd H9 tp (.tup [kv', kyv', ov, .ref q9])) = HF at hqF htF pysF rlF rkF roF tF hfF ⊢
            refine ⟨q, ys, at', .ref tp, rfl, rfl, hqF, Evl.sz_lt (by omega), a0, by omega, ?_⟩
            have noq : ∀ xs, HO.lst ys ≠ .tup xs := fun _ e => nomatch e
            have up : ∀ {n : Nat} {d : D} {v : V} {o : HO}, Rep HF n (fun b => H b = none ∧ b ≠ q) d v → Rep (upd HF q o) n (fun b => H b = none ∧ b ≠ q) d v := fun r => rep_upd hqF noq (fun b hb => hb.2) r
            have rt : Rep HF (2 * (m + 1) + 4) (fun b => H b = none ∧ b ≠ q) (.tup [kd', ky', ow, .lst es9]) (.ref tp) := by
              refine ⟨tp, _, rfl, htF, by show 4 ≤ 100000; decide, .cons (rep_S (fun b hb => hb.elim) (kdF' (2 * m + 4) HF)) (.cons (rep_S (fun b hb => hb.elim) (rep_le (by omega) rkF)) (.cons (rep_S (fun b hb => hb.elim) (rep_le (by omega) roF)) (.cons (rep_S (fun b hb => ⟨t18.back hb, fun e => ?_⟩) rlF) .nil)))⟩
              rw [e, hq8] at hb; cases hb
            refine ⟨_, es.take at'.toNat ++ [.tup [kd', ky', ow, .lst es9]] ++ es.drop at'.toNat, rfl, tF.mut hq, rep_upd hqF noq (fun b hb => hb.elim) rkF, upd_same, pair_app (pair_app (pair_imp (pair_take _ pysF) fun a b h => up h) (.cons (up rt) .nil)) (pair_imp (pair_drop _ pysF) fun a b h => up h), ?_, fun x hx => ?_, g2, by rw [upd_ne (Ne.symm qS.2.2)]; exact hfF, by rw [take_snoc hd, owns_app, owns_one]; exact Trk.node trk trk9 (owns_ins rfl)⟩
            · rw [List.length_append, List.length_append, List.length_take, List.length_drop]
              show min at'.toNat es.length + 1 + (es.length - at'.toNat) ≤ 2 * i + 1
              omega
            · rcases List.mem_append.mp hx with hx | hx
              · rcases List.mem_append.mp hx with hx | hx
                · exact nes x (List.mem_of_mem_take hx)
                · rw [List.mem_singleton.mp hx]
                  exact ⟨kd', ky', ow, es9, rfl, hkd', hky', ⟨lo, how, hok⟩, l9, n9⟩
              · exact nes x (List.mem_of_mem_drop hx)
          · obtain ⟨h1, h2⟩ := up3 (t37.tx e8)
            exact ⟨ys, es, rfl, t17.tx e8, rep_mf (((t5.tx e6).trans t7).tx e8) noP rk4, h1, h2, by omega, nes, g1, e8 _ _ hf7, by rw [take_snoc hd, owns_app]; exact trk.skip⟩
        rintro σ' H8 ⟨ys', es', rfl, t8, rk8, hq8, pys8, les8, nes8, g2, hf8, trk8⟩
        refine Evl.s_when (Evl.et_test (Evl.ev_op (Evl.ev_var rfl) Evl.ev_c (Evl.rv_eq rfl))) (fun hb H9 e9 => ?_) fun hb H9 e9 => ?_
        · have t19 := t8.tx e9
          have hf2 := e9 _ _ hf8
          refine q_seq ?_
          refine Evl.ev_op (Evl.ev_op (Evl.ev_var rfl) Evl.ev_c (Evl.rv_ixL (i := 0) (Evl.sq_of hf2) rfl)) Evl.ev_c Evl.rv_I0 H9 (Ex.refl _) _ fun H10 e10 => ⟨_, rfl, f, [.int g2], 0, 0, rfl, rfl, e10 _ _ hf2, rfl, ?_⟩
          have tn := (t19.tx e10).trans (Mf.num (k := g2 + 1) (t19.tx e10).z)
          have t8n := ((Mf.ex t8.z e9).tx e10).trans (Mf.num (k := g2 + 1) (t19.tx e10).z)
          have hfn : (upd H10 f (.lst [.int (g2 + 1)])) f = some (.lst [.int (g2 + 1)]) := upd_same
          dsimp only [List.set]
          generalize (upd H10 f (.lst [.int (g2 + 1)])) = Hn at tn t8n hfn ⊢
          have hqn := t8n.fr _ _ qS.1 qS.2.1 qS.2.2 hq8
          refine ⟨_, rfl, .inl ⟨rfl, _, Evl.sq_of hqn⟩, _, rfl, _, rfl, _, rfl, f, _, 0, .int (g2 + 1), rfl, rfl, Evl.sq_of hfn, rfl, (by show 2 ≤ sizeLine; decide), fun t1 h1 => ⟨(by show 0 ≤ sizeLine; decide), fun t2 h2 => ⟨(by show 2 ≤ sizeLine; decide), fun t3 h3 => ⟨(by show 0 ≤ sizeLine; decide), fun l4 h4 => ⟨(by show 4 ≤ sizeLine; decide), fun t5 h5 => ?_⟩⟩⟩⟩⟩
          have e1 := Ex.new (o := .tup [.int 99, .int (g2 + 1)]) h1
          have e2 := Ex.new (o := .tup []) h2
          have e3 := Ex.new (o := .tup [.ref t1, .ref t2]) h3
          have e4 := Ex.new (o := .lst []) h4
          have e5 := Ex.new (o := .tup [kv', kyv', .ref t3, .ref l4]) h5
          have e15 := (((e1.trans e2).trans e3).trans e4).trans e5
          have hqF := e15 _ _ hqn
          have f1 := (((e2.trans e3).trans e4).trans e5) _ _ (upd_same (H := Hn) (a := t1) (o := .tup [.int 99, .int (g2 + 1)]))
          have f2 := ((e3.trans e4).trans e5) _ _ (upd_same (a := t2) (o := .tup []))
          have f3 := (e4.trans e5) _ _ (upd_same (a := t3) (o := .tup [.ref t1, .ref t2]))
          have f4 := e5 _ _ (upd_same (a := l4) (o := .lst []))
          have n4 := Evl.fresh_back ((e1.trans e2).trans e3) h4
          have n4H : H l4 = none := tn.back n4
          have lq : l4 ≠ q := fun e => by rw [e, hqn] at n4; cases n4
          have f5 := (upd_same (H := (upd (upd (upd (upd Hn t1 (.tup [.int 99, .int (g2 + 1)])) t2 (.tup [])) t3 (.tup [.ref t1, .ref t2])) l4 (.lst []))) (a := t5) (o := .tup [kv', kyv', .ref t3, .ref l4]))
          have tF := tn.tx e15
          have t8F := t8n.tx e15
          have hfF := e15 _ _ hfn
          generalize (upd (upd (upd (upd (upd Hn t1 (.tup [.int 99, .int (g2 + 1)])) t2 (.tup [])) t3 (.tup [.ref t1, .ref t2])) l4 (.lst [])) t5 (.tup [kv', kyv', .ref t3, .ref l4])) = HF at hqF f1 f2 f3 f4 f5 tF t8F hfF ⊢
          have lys' := pair_len pys8
          refine ⟨q, ys', .ref t5, rfl, rfl, hqF, Evl.sz_lt (by omega), ?_⟩
          have up : ∀ {n : Nat} {d : D} {v : V} {o : HO}, Rep HF n (fun b => H b = none ∧ b ≠ q) d v → Rep (upd HF q o) n (fun b => H b = none ∧ b ≠ q) d v := fun r => rep_upd hqF (fun _ e => nomatch e) (fun b hb => hb.2) r
          have rt : Rep HF (2 * (m + 1) + 4) (fun b => H b = none ∧ b ≠ q) (.tup [kd', ky', .tup [.tup [.int 99, .int (g2 + 1)], .tup []], .lst []]) (.ref t5) :=
            ⟨t5, _, rfl, f5, by show 4 ≤ 100000; decide, .cons (rep_S (fun b hb => hb.elim) (kdF' (2 * m + 4) HF)) (.cons (rep_S (fun b hb => hb.elim) (rep_le (by omega) (rep_mf t8F noP rk8))) (.cons ⟨t3, _, rfl, f3, by show 2 ≤ 100000; decide, .cons ⟨t1, _, rfl, f1, by show 2 ≤ 100000; decide, .cons rfl (.cons rfl .nil)⟩ (.cons ⟨t2, _, rfl, f2, by show 0 ≤ 100000; decide, .nil⟩ .nil)⟩ (.cons ⟨l4, [], rfl, ⟨n4H, lq⟩, f4, by show 0 ≤ 100000; decide, .nil⟩ .nil)))⟩
          refine ⟨ys' ++ [.ref t5], es' ++ [.tup [kd', ky', .tup [.tup [.int 99, .int (g2 + 1)], .tup []], .lst []]], _, _, _, _, _, _, rfl, tF.mut hq, upd_same, pair_app (pair_imp pys8 fun a b h => up (rep_mf t8F rg h)) (.cons (up rt) .nil), by rw [List.length_append]; show es'.length + 1 ≤ 2 * (i + 1); omega, fun x hx => ?_, g2 + 1, by rw [upd_ne (Ne.symm qS.2.2)]; exact hfF, by rw [owns_app, owns_one]; have := trk8.fresh; rw [← owns_nil m] at this; exact this⟩
          rcases List.mem_append.mp hx with hx | hx
          · exact nes8 x hx
          · rw [List.mem_singleton.mp hx]
            refine ⟨kd', ky', _, [], rfl, hkd', hky', ⟨_, rfl, fun y hy => ?_⟩, Nat.zero_le _, fun x h => nomatch h⟩
            rcases List.mem_cons.mp hy with rfl | hy
            · intro z hz
              rcases List.mem_cons.mp hz with rfl | hz
              · trivial
              · rw [List.mem_singleton.mp hz]; trivial
            · rw [List.mem_singleton.mp hy]
              intro z hz; cases hz
        · exact ⟨ys', es', _, _, _, _, _, _, rfl, t8.tx e9, e9 _ _ hq8, pair_imp pys8 fun a b h => rep_ex e9 h, by omega, nes8, g2, e9 _ _ hf8, trk8⟩
      · obtain ⟨ys, es, o4, o5, o6, o7, o8, o9, rfl, mH, hqH, pys, les, nes, g1, hf1, trk⟩ := pv
        exact Evl.s_ret (Evl.ev_var rfl) fun H9 e9 => k H9 q es g1 (mH.tx e9) (rep_ex e9 ⟨q, ys, rfl, hq, hqH, by omega, pair_imp pys fun a b h => rep_S (fun b hb => hb.1) h⟩) (by omega) nes (e9 _ _ hf1) (by rw [← lx, List.take_length] at trk; exact trk)
end
end Pk

namespace Pk
open PySem PySem.Spec PyProof.Rows L2 Ssb
open Evl (Ex Ev EvT EvL EvA EvU)
/-! ### addresses of nodes, and what is matched by them -/
theorem nd_atS {pl : Str} {ds : List D} {m i : Nat} (h : ∀ d ∈ ds, NdD m d) (hi : i < ds.length) : kdD 4 (slotD pl ds i (ds.getD i .non)) := by
  refine slot_kd (pl := pl) h _ ?_
  unfold slotsD
  exact List.mem_map.mpr ⟨i, List.mem_range.mpr hi, rfl⟩
theorem nkL_map : ∀ (l : List D), nkL l = l.map nkD
  | [] => by rw [nkL]; rfl
  | d :: l => by rw [nkL, nkL_map l]; rfl
theorem nk_tup {l : List D} : nkD (.tup l) = .tup (l.map nkD) := by rw [nkD, nkL_map]
theorem tup_pre {at_ r1 r2 : List D} {x y : D} (h : nkD (.tup (at_ ++ x :: r1)) = nkD (.tup (at_ ++ y :: r2))) : nkD x = nkD y ∧ r1.map nkD = r2.map nkD := by
  rw [nk_tup, nk_tup] at h
  injection h with h
  rw [List.map_append, List.map_append, List.map_cons, List.map_cons] at h
  have h := List.append_cancel_left h
  injection h with h1 h2
  exact ⟨h1, h2⟩
/-- owners and addresses in order; at_ = the slots above -/
def addrD (pl : Str) : Nat → List D → List D → List (D × D)
  | 0, _, _ => []
  | m + 1, ds, at_ => (List.range ds.length).flatMap fun i => (ownD (ds.getD i .non), .tup (at_ ++ [slotD pl ds i (ds.getD i .non)])) :: addrD pl m (belowD (ds.getD i .non)) (at_ ++ [slotD pl ds i (ds.getD i .non)])
theorem addr_form {pl : Str} : ∀ {m : Nat} {ds at_ : List D} {p : D × D}, p ∈ addrD pl m ds at_ → ∃ i r, i < ds.length ∧ p.2 = .tup (at_ ++ slotD pl ds i (ds.getD i .non) :: r)
  | 0, _, _, _, h => nomatch h
  | m + 1, ds, at_, p, h => by
    obtain ⟨i, hi, h⟩ := List.mem_flatMap.mp h
    rcases List.mem_cons.mp h with rfl | h
    · exact ⟨i, [], List.mem_range.mp hi, rfl⟩
    · obtain ⟨j, r, _, e⟩ := addr_form h
      exact ⟨i, _, List.mem_range.mp hi, by rw [e, List.append_assoc]; rfl⟩
theorem addr_ne {pl : Str} : ∀ {m : Nat} {ds at_ : List D}, (∀ d ∈ ds, NdD m d) → (addrD pl m ds at_).Pairwise fun p q => nkD p.2 ≠ nkD q.2
  | 0, _, _, _ => List.Pairwise.nil
  | m + 1, ds, at_, hd => by
    show List.Pairwise _ (List.flatMap _ _)
    rw [List.pairwise_flatMap]
    constructor
    · intro i hi
      have il := List.mem_range.mp hi
      refine List.Pairwise.cons (fun q hq e => ?_) (addr_ne (nd_below (nd_at hd il).2).2)
      obtain ⟨j, r, _, eq⟩ := addr_form hq
      rw [eq, List.append_assoc] at e
      have := (tup_pre (r1 := []) e).2
      cases this
    · refine List.Pairwise.imp_of_mem ?_ List.pairwise_lt_range
      intro a b ha hb lt x hx y hy e
      have bl := List.mem_range.mp hb
      have form : ∀ {i : Nat} {x : D × D}, x ∈ (ownD (ds.getD i .non), D.tup (at_ ++ [slotD pl ds i (ds.getD i .non)])) :: addrD pl m (belowD (ds.getD i .non)) (at_ ++ [slotD pl ds i (ds.getD i .non)]) → ∃ r, x.2 = .tup (at_ ++ slotD pl ds i (ds.getD i .non) :: r) := fun {i x} h => by
        rcases List.mem_cons.mp h with rfl | h
        · exact ⟨[], rfl⟩
        · obtain ⟨j, r, _, e⟩ := addr_form h
          exact ⟨_, by rw [e, List.append_assoc]; rfl⟩
      obtain ⟨r1, e1⟩ := form hx
      obtain ⟨r2, e2⟩ := form hy
      rw [e1, e2] at e
      exact slots_ne hd lt bl (tup_pre e).1
theorem fm_range {g : D → List D} {ds : List D} : (List.range ds.length).flatMap (fun i => g (ds.getD i .non)) = ds.flatMap g := by
  have key : ∀ n, n ≤ ds.length → (List.range n).flatMap (fun i => g (ds.getD i .non)) = (ds.take n).flatMap g := fun n => by
    induction n with
    | zero => intro _; rfl
    | succ n ih =>
      intro h
      have gd : ds[n]? = some (ds.getD n .non) := by rw [List.getD_eq_getElem?_getD, List.getElem?_eq_getElem (by omega)]; rfl
      rw [List.range_succ, List.flatMap_append, ih (by omega), take_snoc gd, List.flatMap_append]
      rfl
  have := key ds.length (Nat.le_refl _)
  rw [List.take_length] at this
  exact this
theorem owns_addr {pl : Str} : ∀ {m : Nat} {ds at_ : List D}, (addrD pl m ds at_).map (·.1) = ownsD m ds
  | 0, _, _ => rfl
  | m + 1, ds, at_ => by
    show List.map _ (List.flatMap _ _) = List.flatMap _ _
    rw [List.map_flatMap, ← fm_range]
    refine congrArg (fun f => List.flatMap f (List.range ds.length)) (funext fun i => ?_)
    show ownD _ :: List.map _ _ = _
    rw [owns_addr (m := m)]
theorem findD_of {pl : Str} {A B : List D} {m i k : Nat} (hA : ∀ d ∈ A, NdD m d) (hi : i < A.length) (e : nkD (slotD pl A i (A.getD i .non)) = nkD (slotD pl B k (B.getD k .non))) : findD pl A B k = some i := by
  have hs : (findD pl A B k).isSome = true := by
    unfold findD slotIx
    rw [List.find?_isSome]
    exact ⟨i, List.mem_range.mpr hi, by simpa using e⟩
  obtain ⟨j, hj⟩ := Option.isSome_iff_exists.mp hs
  obtain ⟨jl, ej⟩ := slotIx_lt hj
  rw [hj]
  have : j = i := by
    rcases Nat.lt_trichotomy j i with c | c | c
    · exact absurd (ej.trans e.symm) (slots_ne hA c hi)
    · exact c
    · exact absurd (e.trans ej.symm) (slots_ne hA c jl)
  rw [this]
/-- matched nodes have one address -/
theorem pairs_addr {pl : Str} : ∀ {m : Nat} {A B at_ : List D} {p : D × D}, (∀ d ∈ A, NdD m d) → (∀ d ∈ B, NdD m d) → p ∈ pairsD pl m A B → ∃ a, (ownD p.1, a) ∈ addrD pl m A at_ ∧ (ownD p.2, a) ∈ addrD pl m B at_
  | 0, _, _, _, _, _, _, h => nomatch h
  | m + 1, A, B, at_, p, hA, hB, h => by
    obtain ⟨k, hk, h⟩ := List.mem_flatMap.mp h
    have kl := List.mem_range.mp hk
    cases hf : findD pl A B k with
    | none => rw [hf] at h; cases h
    | some j =>
      rw [hf] at h
      obtain ⟨jl, ej⟩ := slotIx_lt hf
      have es : slotD pl A j (A.getD j .non) = slotD pl B k (B.getD k .non) := nk_inj (nd_atS hA jl) (nd_atS hB kl) ej
      rcases List.mem_cons.mp h with rfl | h
      · exact ⟨.tup (at_ ++ [slotD pl A j (A.getD j .non)]), List.mem_flatMap.mpr ⟨j, List.mem_range.mpr jl, List.mem_cons_self⟩, List.mem_flatMap.mpr ⟨k, hk, by rw [es]; exact List.mem_cons_self⟩⟩
      · obtain ⟨a, h1, h2⟩ := pairs_addr (at_ := at_ ++ [slotD pl A j (A.getD j .non)]) (nd_below (nd_at hA jl).2).2 (nd_below (nd_at hB kl).2).2 h
        exact ⟨a, List.mem_flatMap.mpr ⟨j, List.mem_range.mpr jl, List.mem_cons_of_mem _ h1⟩, List.mem_flatMap.mpr ⟨k, hk, List.mem_cons_of_mem _ (by rw [← es]; exact h2)⟩⟩
/-- nodes of one address are matched -/
theorem addr_pairs {pl : Str} : ∀ {m : Nat} {A B at_ : List D} {o1 o2 a a2 : D}, (∀ d ∈ A, NdD m d) → (∀ d ∈ B, NdD m d) → (o1, a) ∈ addrD pl m A at_ → (o2, a2) ∈ addrD pl m B at_ → nkD a = nkD a2 → ∃ p ∈ pairsD pl m A B, ownD p.1 = o1 ∧ ownD p.2 = o2
  | 0, _, _, _, _, _, _, _, _, _, h, _, _ => nomatch h
  | m + 1, A, B, at_, o1, o2, a, a2, hA, hB, h1, h2, e => by
    obtain ⟨i, hi, h1⟩ := List.mem_flatMap.mp h1
    obtain ⟨k, hk, h2⟩ := List.mem_flatMap.mp h2
    have il := List.mem_range.mp hi
    have kl := List.mem_range.mp hk
    have go : nkD (slotD pl A i (A.getD i .non)) = nkD (slotD pl B k (B.getD k .non)) → ∀ {p : D × D}, p ∈ (A.getD i .non, B.getD k .non) :: pairsD pl m (belowD (A.getD i .non)) (belowD (B.getD k .non)) → p ∈ pairsD pl (m + 1) A B := fun es {p} hp =>
      List.mem_flatMap.mpr ⟨k, hk, by rw [findD_of hA il es]; exact hp⟩
    rcases List.mem_cons.mp h1 with h1 | h1
    · rcases List.mem_cons.mp h2 with h2 | h2
      · injection h1 with e1 e2
        injection h2 with e3 e4
        rw [e2, e4] at e
        obtain ⟨es, _⟩ := tup_pre (r1 := []) (r2 := []) e
        exact ⟨_, go es List.mem_cons_self, e1.symm, e3.symm⟩
      · injection h1 with e1 e2
        obtain ⟨j, r, _, eq⟩ := addr_form h2
        have eq : a2 = _ := eq
        rw [e2, eq, List.append_assoc] at e
        have := (tup_pre (r1 := []) e).2
        cases this
    · rcases List.mem_cons.mp h2 with h2 | h2
      · injection h2 with e1 e2
        obtain ⟨j, r, _, eq⟩ := addr_form h1
        have eq : a = _ := eq
        rw [e2, eq, List.append_assoc] at e
        have := (tup_pre (r2 := []) e).2
        cases this
      · obtain ⟨j, r, _, eq⟩ := addr_form h1
        obtain ⟨j2, r2, _, eq2⟩ := addr_form h2
        have eq : a = _ := eq
        have eq2 : a2 = _ := eq2
        have es : nkD (slotD pl A i (A.getD i .non)) = nkD (slotD pl B k (B.getD k .non)) := by
          have e := e
          rw [eq, eq2, List.append_assoc, List.append_assoc] at e
          exact (tup_pre e).1
        have esD := nk_inj (nd_atS hA il) (nd_atS hB kl) es
        rw [← esD] at h2
        obtain ⟨p, hp, r⟩ := addr_pairs (nd_below (nd_at hA il).2).2 (nd_below (nd_at hB kl).2).2 h1 h2 e
        exact ⟨p, go es (List.mem_cons_of_mem _ hp), r⟩
/-! ### pairs of owners -/
def ownP (p : D × D) : D × D := (ownD p.1, ownD p.2)
def tsD (pl : Str) (m : Nat) (A B : List D) : List (D × D) := (pairsD pl m A B).map ownP
theorem nd_in {α β : Type} {l : List (α × β)} (h : (l.map (·.1)).Nodup) {a : α} {b c : β} (h1 : (a, b) ∈ l) (h2 : (a, c) ∈ l) : b = c := by
  induction l with
  | nil => cases h1
  | cons x l ih =>
    rw [List.map_cons, List.nodup_cons] at h
    rcases List.mem_cons.mp h1 with h1 | h1
    · rcases List.mem_cons.mp h2 with h2 | h2
      · rw [← h1] at h2; exact (Prod.mk.inj h2).2.symm
      · exact absurd (List.mem_map.mpr ⟨_, h2, by rw [← h1]⟩) h.1
    · rcases List.mem_cons.mp h2 with h2 | h2
      · exact absurd (List.mem_map.mpr ⟨_, h1, by rw [← h2]⟩) h.1
      · exact ih h.2 h1 h2
theorem pw_in {α : Type} {R : α → α → Prop} {l : List α} (h : l.Pairwise R) {a b : α} (h1 : a ∈ l) (h2 : b ∈ l) : a = b ∨ R a b ∨ R b a := by
  induction h with
  | nil => cases h1
  | cons hx _ ih =>
    rcases List.mem_cons.mp h1 with e1 | k1
    · rcases List.mem_cons.mp h2 with e2 | k2
      · exact .inl (e1.trans e2.symm)
      · rw [e1]; exact .inr (.inl (hx _ k2))
    · rcases List.mem_cons.mp h2 with e2 | k2
      · rw [e2]; exact .inr (.inr (hx _ k1))
      · exact ih k1 k2
section
variable {pl : Str} {m : Nat} {A B C : List D}
theorem ts_addr (hA : ∀ d ∈ A, NdD m d) (hB : ∀ d ∈ B, NdD m d) {o1 o2 : D} (h : (o1, o2) ∈ tsD pl m A B) : ∃ a, (o1, a) ∈ addrD pl m A [] ∧ (o2, a) ∈ addrD pl m B [] := by
  obtain ⟨p, hp, e⟩ := List.mem_map.mp h
  obtain ⟨a, h1, h2⟩ := pairs_addr (at_ := []) hA hB hp
  obtain ⟨e1, e2⟩ := Prod.mk.inj e
  exact ⟨a, e1 ▸ h1, e2 ▸ h2⟩
theorem addr_ts (hA : ∀ d ∈ A, NdD m d) (hB : ∀ d ∈ B, NdD m d) {o1 o2 a : D} (h1 : (o1, a) ∈ addrD pl m A []) (h2 : (o2, a) ∈ addrD pl m B []) : (o1, o2) ∈ tsD pl m A B := by
  obtain ⟨p, hp, e1, e2⟩ := addr_pairs hA hB h1 h2 rfl
  exact List.mem_map.mpr ⟨p, hp, by unfold ownP; rw [e1, e2]⟩
theorem addr_own (hA : ∀ d ∈ A, NdD m d) {o1 o2 a : D} (h1 : (o1, a) ∈ addrD pl m A []) (h2 : (o2, a) ∈ addrD pl m A []) : o1 = o2 := by
  rcases pw_in (addr_ne hA) h1 h2 with e | e | e
  · exact (Prod.mk.inj e).1
  · exact absurd rfl e
  · exact absurd rfl e
theorem own_addr (h : (ownsD m A).Nodup) {o a b : D} (h1 : (o, a) ∈ addrD pl m A []) (h2 : (o, b) ∈ addrD pl m A []) : a = b := nd_in (by rw [owns_addr]; exact h) h1 h2
theorem ts_on (hA : ∀ d ∈ A, NdD m d) (hB : ∀ d ∈ B, NdD m d) (hC : ∀ d ∈ C, NdD m d) (uB : (ownsD m B).Nodup) {o x r : D} (h1 : (o, x) ∈ tsD pl m A B) (h2 : (x, r) ∈ tsD pl m B C) : (o, r) ∈ tsD pl m A C := by
  obtain ⟨a, p1, p2⟩ := ts_addr hA hB h1
  obtain ⟨b, q1, q2⟩ := ts_addr hB hC h2
  have := own_addr uB p2 q1
  subst this
  exact addr_ts hA hC p1 q2
theorem ts_back (hA : ∀ d ∈ A, NdD m d) (hB : ∀ d ∈ B, NdD m d) (hC : ∀ d ∈ C, NdD m d) (uA : (ownsD m A).Nodup) {o x r : D} (h1 : (o, x) ∈ tsD pl m A B) (h2 : (o, r) ∈ tsD pl m A C) : (x, r) ∈ tsD pl m B C := by
  obtain ⟨a, p1, p2⟩ := ts_addr hA hB h1
  obtain ⟨b, q1, q2⟩ := ts_addr hA hC h2
  have := own_addr uA p1 q1
  subst this
  exact addr_ts hB hC p2 q2
end
theorem ts_right {pl : Str} : ∀ {m : Nat} {A B : List D}, ((tsD pl m A B).map (·.2)).Sublist (ownsD m B)
  | 0, _, _ => List.nil_sublist _
  | m + 1, A, B => by
    have e : (tsD pl (m + 1) A B).map (·.2) = (List.range B.length).flatMap fun k => ((pairAt (pairsD pl m) A B k (findD pl A B k)).map ownP).map (·.2) := by
      show List.map _ (List.map _ (List.flatMap _ _)) = _
      rw [List.map_flatMap, List.map_flatMap]
    rw [e]
    show List.Sublist _ (List.flatMap _ B)
    rw [← fm_range]
    have key : ∀ l : List Nat, (l.flatMap fun k => ((pairAt (pairsD pl m) A B k (findD pl A B k)).map ownP).map (·.2)).Sublist (l.flatMap fun i => ownD (B.getD i .non) :: ownsD m (belowD (B.getD i .non))) := fun l => by
      induction l with
      | nil => exact List.Sublist.refl _
      | cons k l ih =>
        rw [List.flatMap_cons, List.flatMap_cons]
        refine List.Sublist.append ?_ ih
        cases findD pl A B k with
        | none => exact List.nil_sublist _
        | some j => exact (ts_right (pl := pl) (A := belowD (A.getD j .non)) (B := belowD (B.getD k .non))).cons_cons _
    exact key _
theorem ts_nd {pl : Str} {m : Nat} {A B : List D} (hA : ∀ d ∈ A, NdD m d) (hB : ∀ d ∈ B, NdD m d) (uA : (ownsD m A).Nodup) (uB : (ownsD m B).Nodup) : ((tsD pl m A B).map (·.1)).Nodup ∧ ((tsD pl m A B).map (·.2)).Nodup := by
  have r := uB.sublist (ts_right (pl := pl) (A := A))
  refine ⟨?_, r⟩
  have r2 : (tsD pl m A B).Pairwise fun p q => p.2 ≠ q.2 := by
    rw [List.Nodup, List.pairwise_map] at r; exact r
  rw [List.Nodup, List.pairwise_map]
  refine r2.imp_of_mem fun {p q} hp hq ne e => ne ?_
  obtain ⟨o1, x1⟩ := p
  obtain ⟨o2, x2⟩ := q
  have e : o1 = o2 := e
  subst e
  obtain ⟨a, p1, p2⟩ := ts_addr hA hB hp
  obtain ⟨b, q1, q2⟩ := ts_addr hA hB hq
  have := own_addr uA p1 q1
  subst this
  exact addr_own hB p2 q2
/-! ### owners of a generated tree are apart -/
theorem place_ne {pl r1 r2 : List Int} {a b z1 z2 : Int} (h : D.tup [.tup ((pl ++ a :: r1).map D.int), .tup [.int z1]] = .tup [.tup ((pl ++ b :: r2).map D.int), .tup [.int z2]]) : a = b ∧ r1 = r2 := by
  injection h with h
  injection h with h _
  injection h with h
  have inj : Function.Injective D.int := fun x y e => by injection e
  have h := List.map_inj_right (fun x y e => inj e) |>.mp h
  have h := List.append_cancel_left h
  injection h with h1 h2
  exact ⟨h1, h2⟩
theorem pl_form : ∀ {m : Nat} {pl : List Int} {ds : List D}, PlD m pl ds → ∀ o ∈ ownsD m ds, ∃ (i : Nat) (r : List Int) (z : Int), i < ds.length ∧ o = .tup [.tup ((pl ++ (0 + (i : Int)) :: r).map D.int), .tup [.int z]]
  | 0, _, _, _, o, h => nomatch h
  | m + 1, pl, ds, hp, o, h => by
    obtain ⟨d, hd, h⟩ := List.mem_flatMap.mp h
    obtain ⟨i, hi⟩ := List.mem_iff_getElem?.mp hd
    have il := (List.getElem?_eq_some_iff.mp hi).1
    obtain ⟨⟨z, ez⟩, hb⟩ := hp i d hi
    rcases List.mem_cons.mp h with rfl | h
    · exact ⟨i, [], z, il, ez⟩
    · obtain ⟨j, r, z2, _, e⟩ := pl_form hb o h
      exact ⟨i, _, z2, il, by rw [e, List.append_assoc]; rfl⟩
theorem pl_nd : ∀ {m : Nat} {pl : List Int} {ds : List D}, PlD m pl ds → (ownsD m ds).Nodup
  | 0, _, _, _ => List.nodup_nil
  | m + 1, pl, ds, hp => by
    show (List.flatMap _ ds).Nodup
    rw [← fm_range, List.Nodup, List.pairwise_flatMap]
    have at_ : ∀ {i : Nat}, i < ds.length → ds[i]? = some (ds.getD i .non) := fun h => by rw [List.getD_eq_getElem?_getD, List.getElem?_eq_getElem h]; rfl
    have form : ∀ {i : Nat} {o : D}, i < ds.length → o ∈ ownD (ds.getD i .non) :: ownsD m (belowD (ds.getD i .non)) → ∃ (r : List Int) (z : Int), o = .tup [.tup ((pl ++ (0 + (i : Int)) :: r).map D.int), .tup [.int z]] := fun {i o} hi h => by
      obtain ⟨⟨z, ez⟩, hb⟩ := hp i _ (at_ hi)
      rcases List.mem_cons.mp h with rfl | h
      · exact ⟨[], z, ez⟩
      · obtain ⟨j, r, z2, _, e⟩ := pl_form hb o h
        exact ⟨_, z2, by rw [e, List.append_assoc]; rfl⟩
    constructor
    · intro i hi
      have il := List.mem_range.mp hi
      obtain ⟨⟨z, ez⟩, hb⟩ := hp i _ (at_ il)
      refine List.Pairwise.cons (fun o ho e => ?_) (pl_nd hb)
      obtain ⟨j, r, z2, _, e2⟩ := pl_form hb o ho
      rw [ez, e2, List.append_assoc] at e
      have := (place_ne (r1 := []) e).2
      cases this
    · refine List.Pairwise.imp_of_mem ?_ List.pairwise_lt_range
      intro a b ha hb lt x hx y hy e
      obtain ⟨r1, z1, e1⟩ := form (List.mem_range.mp ha) hx
      obtain ⟨r2, z2, e2⟩ := form (List.mem_range.mp hb) hy
      rw [e1, e2] at e
      have := (place_ne e).1
      omega
theorem pl_own {m : Nat} {pl : List Int} {ds : List D} (h : PlD m pl ds) {g : Int} : Own g (ownsD m ds) := ⟨pl_nd h, fun o ho j _ e => by
  obtain ⟨i, r, z, _, e2⟩ := pl_form h o ho
  rw [e2] at e
  unfold fr at e
  injection e with e
  injection e with _ e
  injection e with e _
  injection e with e
  cases e⟩
theorem owns_le {b : Nat} : ∀ {m n : Nat} {ds : List D}, m ≤ n → (∀ d ∈ ds, NdB b m d) → ownsD n ds = ownsD m ds
  | 0, n, ds, _, h => by
    cases ds with
    | nil => exact owns_nil n
    | cons d ds => exact (h d List.mem_cons_self).elim
  | m + 1, 0, _, l, _ => absurd l (by omega)
  | m + 1, n + 1, ds, l, h => by
    show List.flatMap _ ds = List.flatMap _ ds
    induction ds with
    | nil => rfl
    | cons d ds ih =>
      rw [List.flatMap_cons, List.flatMap_cons, ih fun x hx => h x (List.mem_cons_of_mem _ hx)]
      obtain ⟨kd, ky, ow, bl, rfl, _, _, _, _, hb⟩ := h d List.mem_cons_self
      have := owns_le (b := b) (m := m) (n := n) (ds := bl) (by omega) hb
      rw [show belowD (.tup [kd, ky, ow, .lst bl]) = bl from rfl, this]
end Pk

namespace Pk
open PySem PySem.Spec PyProof.Rows L2 Ssb
/-! ### the partner, by search -/
theorem filt_at {p : Nat → Bool} : ∀ {n c j : Nat}, ((List.range n).filter p)[c]? = some j ↔ j < n ∧ p j = true ∧ ((List.range j).filter p).length = c
  | 0, c, j => by simp
  | n + 1, c, j => by
    have ih := @filt_at p n c j
    rw [List.range_succ, List.filter_append]
    have le : ∀ {a b : Nat}, a ≤ b → ((List.range a).filter p).length ≤ ((List.range b).filter p).length := fun {a b} h => by
      have : List.range a = (List.range b).take a := by rw [List.take_range, Nat.min_eq_left h]
      rw [this]
      exact ((List.take_sublist _ _).filter _).length_le
    by_cases hc : c < ((List.range n).filter p).length
    · rw [List.getElem?_append_left hc, ih]
      constructor
      · rintro ⟨h1, h2, h3⟩; exact ⟨by omega, h2, h3⟩
      · rintro ⟨h1, h2, h3⟩
        refine ⟨?_, h2, h3⟩
        by_cases e : j = n
        · rw [e] at h3; omega
        · omega
    · rw [List.getElem?_append_right (by omega)]
      by_cases hp : p n = true
      · rw [List.filter_cons_of_pos hp, List.filter_nil]
        constructor
        · intro h
          have hz : c - ((List.range n).filter p).length = 0 := by
            cases hh : c - ((List.range n).filter p).length with
            | zero => rfl
            | succ z => rw [hh] at h; simp at h
          rw [hz] at h
          have : n = j := by simpa using h
          subst this
          exact ⟨by omega, hp, by omega⟩
        · rintro ⟨h1, h2, h3⟩
          by_cases e : j = n
          · subst e
            rw [h3, Nat.sub_self]; rfl
          · have h4 := le (show j + 1 ≤ n by omega)
            rw [List.range_succ, List.filter_append, List.filter_cons_of_pos h2, List.length_append, h3] at h4
            have h4 : c + 1 ≤ ((List.range n).filter p).length := h4
            omega
      · rw [List.filter_cons_of_neg hp, List.filter_nil]
        constructor
        · intro h; simp at h
        · rintro ⟨h1, h2, h3⟩
          by_cases e : j = n
          · rw [e] at h2; exact absurd h2 hp
          · have h4 := le (show j + 1 ≤ n by omega)
            rw [List.range_succ, List.filter_append, List.filter_cons_of_pos h2, List.length_append, h3] at h4
            have h4 : c + 1 ≤ ((List.range n).filter p).length := h4
            omega
theorem cnt_range {ds : List D} {κ : NestedKey} : ∀ {j : Nat}, j ≤ ds.length → cntN ds j κ = ((List.range j).filter fun i => decide (nkD (alikeD (ds.getD i .non)) = κ)).length
  | 0, _ => rfl
  | j + 1, h => by
    have hd : ds[j]? = some (ds.getD j .non) := by rw [List.getD_eq_getElem?_getD, List.getElem?_eq_getElem (by omega)]; rfl
    rw [cnt_succ hd, cnt_range (by omega), List.range_succ, List.filter_append, List.length_append]
    by_cases e : nkD (alikeD (ds.getD j .non)) = κ
    · rw [if_pos e, List.filter_cons_of_pos (by simpa using e)]; rfl
    · rw [if_neg e, List.filter_cons_of_neg (by simpa using e)]; rfl
theorem find_iff {pl : Str} {ds es : List D} {m k j : Nat} (hn : ∀ d ∈ ds, NdD m d) : findD pl ds es k = some j ↔ j < ds.length ∧ nkD (slotD pl ds j (ds.getD j .non)) = nkD (slotD pl es k (es.getD k .non)) := by
  constructor
  · exact slotIx_lt
  · rintro ⟨h1, h2⟩
    cases h : findD pl ds es k with
    | none =>
      unfold findD slotIx at h
      rw [List.find?_eq_none] at h
      have := h j (List.mem_range.mpr h1)
      rw [decide_eq_true h2] at this
      exact absurd rfl this
    | some i =>
      obtain ⟨i1, i2⟩ := slotIx_lt h
      rw [← h2] at i2
      by_cases c : i = j
      · rw [c]
      · rcases Nat.lt_or_gt_of_ne c with c | c
        · exact absurd i2 (slots_ne hn c h1)
        · exact absurd i2.symm (slots_ne hn c i1)
theorem opt_ext {a b : Option Nat} (h : ∀ j, a = some j ↔ b = some j) : a = b := by
  cases a with
  | none =>
    cases b with
    | none => rfl
    | some j => exact absurd ((h j).mpr rfl) (fun z => nomatch z)
  | some i => exact ((h i).mp rfl).symm
theorem non_iff {m : Nat} {d : D} (h : NdD m d) : (nkD (alikeD d) = nkD .non) ↔ isNon (keyOf d) = true := by
  cases m with
  | zero => exact h.elim
  | succ m =>
  obtain ⟨kd, ky, ow, bl, rfl, _, hky, _⟩ := h
  rcases hky.2 with rfl | ⟨l, rfl⟩
  · exact ⟨fun _ => rfl, fun _ => rfl⟩
  · constructor
    · intro h
      have h : nkD (.tup [kd, .tup l]) = nkD .non := h
      rw [nkD, nkD] at h; cases h
    · intro h; cases h
theorem key_iff {m : Nat} {a b : D} (ha : NdD m a) (hb : NdD m b) (no : isNon (keyOf b) = false) : (nkD (alikeD a) = nkD (alikeD b)) ↔ (keyOf a = keyOf b ∧ kindOf a = kindOf b) := by
  constructor
  · intro h
    cases m with
    | zero => exact ha.elim
    | succ m =>
    obtain ⟨kd, ky, ow, bl, rfl, hkd, hky, _⟩ := ha
    obtain ⟨kd2, ky2, ow2, bl2, rfl, hkd2, hky2, _⟩ := hb
    rcases hky2.2 with rfl | ⟨l2, rfl⟩
    · cases no
    rcases hky.2 with rfl | ⟨l, rfl⟩
    · have h : nkD .non = nkD (.tup [kd2, .tup l2]) := h
      rw [nkD, nkD] at h; cases h
    · have h : nkD (.tup [kd, .tup l]) = nkD (.tup [kd2, .tup l2]) := h
      rw [nkD, nkD, nkL, nkL, nkL, nkL, nkL, nkL] at h
      injection h with h
      injection h with h1 h
      injection h with h2 _
      exact ⟨nk_inj hky.1 hky2.1 h2, nk_inj (kindK hkd) (kindK hkd2) h1⟩
  · rintro ⟨h1, h2⟩
    unfold alikeD
    rw [h1, h2]
/-- among whom one without a key is counted -/
def amongP (pl : Str) (ds : List D) (j : Nat) : Bool := decide (pl = "all") || isNon (keyOf (ds.getD j .non))
theorem slotN_non {pl : Str} {ds : List D} {m j : Nat} (hn : ∀ d ∈ ds, NdD m d) (hj : j < ds.length) (hk : isNon (keyOf (ds.getD j .non)) = true) : slotN pl ds j (ds.getD j .non) = (((List.range j).filter (amongP pl ds)).length : Int) := by
  unfold slotN
  by_cases c : pl = "all"
  · rw [if_pos (by rw [hk, decide_eq_true c]; rfl)]
    have : (List.range j).filter (amongP pl ds) = List.range j := by
      rw [List.filter_eq_self]
      intro i _
      unfold amongP
      rw [decide_eq_true c]; rfl
    rw [this, List.length_range]
  · rw [if_neg (by rw [decide_eq_false c, Bool.and_false]; decide), (non_iff (nd_at hn hj).2).mpr hk, cnt_range (by omega)]
    congr 2
    refine List.filter_congr fun i hi => ?_
    have hi := List.mem_range.mp hi
    have := non_iff (nd_at hn (show i < ds.length by omega)).2
    unfold amongP
    rw [decide_eq_false c, Bool.false_or, Bool.eq_iff_iff, decide_eq_true_eq]
    exact this
theorem kk_iff {m : Nat} {a b : D} (ha : NdD m a) (hb : NdD m b) : (nkD (keyOf a) = nkD (keyOf b) ↔ keyOf a = keyOf b) ∧ (nkD (kindOf a) = nkD (kindOf b) ↔ kindOf a = kindOf b) := by
  cases m with
  | zero => exact ha.elim
  | succ m =>
  obtain ⟨kd, ky, ow, bl, rfl, hkd, hky, _⟩ := ha
  obtain ⟨kd2, ky2, ow2, bl2, rfl, hkd2, hky2, _⟩ := hb
  exact ⟨⟨fun e => nk_inj hky.1 hky2.1 e, fun e => congrArg nkD e⟩, ⟨fun e => nk_inj (kindK hkd) (kindK hkd2) e, fun e => congrArg nkD e⟩⟩
/-- the search for a node without a key -/
def seekN (pl : Str) (ds es : List D) (k : Nat) : Option Nat := match ((List.range ds.length).filter (amongP pl ds))[((List.range k).filter (amongP pl es)).length]? with
  | none => none
  | some j => if (isNon (keyOf (ds.getD j .non)) && decide (nkD (kindOf (ds.getD j .non)) = nkD (kindOf (es.getD k .non)))) = true then some j else none
theorem non_eq {x : D} : isNon x = true ↔ x = .non := by cases x <;> simp [isNon]
theorem seekN_eq {pl : Str} {ds es : List D} {m k : Nat} (hd : ∀ d ∈ ds, NdD m d) (he : ∀ d ∈ es, NdD m d) (hk : k < es.length) (no : isNon (keyOf (es.getD k .non)) = true) : seekN pl ds es k = findD pl ds es k := by
  refine opt_ext fun j => ?_
  rw [find_iff hd]
  have nk := (nd_at he hk).2
  have sk := slotN_non (pl := pl) he hk no
  constructor
  · intro h
    unfold seekN at h
    split at h
    · cases h
    · rename_i j' hj'
      split at h
      · rename_i c
        cases h
        obtain ⟨a1, a2, a3⟩ := filt_at.mp hj'
        rw [Bool.and_eq_true, decide_eq_true_eq, (kk_iff (nd_at hd a1).2 nk).2] at c
        refine ⟨a1, (slot_eq (nd_at hd a1).2 nk).mpr ⟨c.2, by rw [non_eq.mp c.1, non_eq.mp no], ?_⟩⟩
        rw [slotN_non hd a1 c.1, sk, a3]
      · cases h
  · rintro ⟨h1, h2⟩
    obtain ⟨e1, e2, e3⟩ := (slot_eq (nd_at hd h1).2 nk).mp h2
    have nj : isNon (keyOf (ds.getD j .non)) = true := by rw [e2]; exact no
    rw [slotN_non hd h1 nj, sk] at e3
    have : ((List.range ds.length).filter (amongP pl ds))[((List.range k).filter (amongP pl es)).length]? = some j := filt_at.mpr ⟨h1, by unfold amongP; rw [nj, Bool.or_true], by omega⟩
    unfold seekN
    rw [this]
    show (if _ then some j else none) = some j
    rw [if_pos (by rw [nj, e1]; simp)]
theorem slotN_key {pl : Str} {ds : List D} {j : Nat} {d : D} (hk : isNon (keyOf d) = false) : slotN pl ds j d = (cntN ds j (nkD (alikeD d)) : Int) := by
  unfold slotN
  rw [hk, Bool.false_and, if_neg (by decide)]
/-- the search for a node with a key: t = those taken -/
def seekK (t : List Nat) (ds es : List D) (k : Nat) : Option Nat := (List.range ds.length).find? fun j => decide (j ∉ t) && (decide (nkD (keyOf (ds.getD j .non)) = nkD (keyOf (es.getD k .non))) && decide (nkD (kindOf (ds.getD j .non)) = nkD (kindOf (es.getD k .non))))
theorem seekK_eq {pl : Str} {ds es : List D} {m k : Nat} (hd : ∀ d ∈ ds, NdD m d) (he : ∀ d ∈ es, NdD m d) (hk : k < es.length) (no : isNon (keyOf (es.getD k .non)) = false) : seekK ((List.range k).filterMap (findD pl ds es)) ds es k = findD pl ds es k := by
  have nk := (nd_at he hk).2
  -- alike, and how many before
  have al : ∀ j, j < ds.length → (nkD (alikeD (ds.getD j .non)) = nkD (alikeD (es.getD k .non)) ↔ keyOf (ds.getD j .non) = keyOf (es.getD k .non) ∧ kindOf (ds.getD j .non) = kindOf (es.getD k .non)) := fun j hj => key_iff (nd_at hd hj).2 nk no
  have sl : ∀ i j, i < es.length → j < ds.length → nkD (alikeD (ds.getD j .non)) = nkD (alikeD (es.getD k .non)) → (nkD (slotD pl ds j (ds.getD j .non)) = nkD (slotD pl es i (es.getD i .non)) ↔ nkD (alikeD (es.getD i .non)) = nkD (alikeD (es.getD k .non)) ∧ cntN es i (nkD (alikeD (es.getD k .non))) = cntN ds j (nkD (alikeD (es.getD k .non)))) := fun i j hi hj ha => by
    obtain ⟨a1, a2⟩ := (al j hj).mp ha
    rw [slot_eq (nd_at hd hj).2 (nd_at he hi).2, key_iff (nd_at he hi).2 nk no]
    have kj : isNon (keyOf (ds.getD j .non)) = false := by rw [a1]; exact no
    constructor
    · rintro ⟨b1, b2, b3⟩
      have ki : isNon (keyOf (es.getD i .non)) = false := by rw [← b2]; exact kj
      have c1 : keyOf (es.getD i .non) = keyOf (es.getD k .non) ∧ kindOf (es.getD i .non) = kindOf (es.getD k .non) := ⟨by rw [← b2, a1], by rw [← b1, a2]⟩
      refine ⟨c1, ?_⟩
      rw [slotN_key kj, slotN_key ki, ha, (key_iff (nd_at he hi).2 nk no).mpr c1] at b3
      omega
    · rintro ⟨⟨b1, b2⟩, b3⟩
      have ki : isNon (keyOf (es.getD i .non)) = false := by rw [b1]; exact no
      refine ⟨by rw [a2, b2], by rw [a1, b1], ?_⟩
      rw [slotN_key kj, slotN_key ki, ha, (key_iff (nd_at he hi).2 nk no).mpr ⟨b1, b2⟩]
      omega
  have tk : ∀ j, j < ds.length → nkD (alikeD (ds.getD j .non)) = nkD (alikeD (es.getD k .non)) → (j ∈ (List.range k).filterMap (findD pl ds es) ↔ cntN ds j (nkD (alikeD (es.getD k .non))) < cntN es k (nkD (alikeD (es.getD k .non)))) := fun j hj ha => by
    rw [List.mem_filterMap]
    constructor
    · rintro ⟨i, hi, hf⟩
      have hi := List.mem_range.mp hi
      obtain ⟨_, h2⟩ := (find_iff hd).mp hf
      obtain ⟨c1, c2⟩ := (sl i j (by omega) hj ha).mp h2
      rw [← c2]
      have gi := (nd_at he (show i < es.length by omega)).1
      have := cnt_succ gi (nkD (alikeD (es.getD k .non)))
      rw [if_pos c1] at this
      have := cnt_mono (ds := es) (k := nkD (alikeD (es.getD k .non))) (show i + 1 ≤ k by omega)
      omega
    · intro h
      rw [cnt_range (ds := es) (by omega)] at h
      obtain ⟨i, hi⟩ : ∃ i, ((List.range k).filter fun i => decide (nkD (alikeD (es.getD i .non)) = nkD (alikeD (es.getD k .non))))[cntN ds j (nkD (alikeD (es.getD k .non)))]? = some i := ⟨_, List.getElem?_eq_getElem h⟩
      obtain ⟨b1, b2, b3⟩ := filt_at.mp hi
      refine ⟨i, List.mem_range.mpr b1, (find_iff hd).mpr ⟨hj, (sl i j (by omega) hj ha).mpr ⟨of_decide_eq_true b2, ?_⟩⟩⟩
      rw [cnt_range (ds := es) (by omega)]; exact b3
  -- by the first that fits
  unfold findD slotIx seekK
  have main : ∀ n, n ≤ ds.length → ((List.range n).find? fun j => decide (j ∉ (List.range k).filterMap (findD pl ds es)) && (decide (nkD (keyOf (ds.getD j .non)) = nkD (keyOf (es.getD k .non))) && decide (nkD (kindOf (ds.getD j .non)) = nkD (kindOf (es.getD k .non))))) = (List.range n).find? fun j => decide (nkD (slotD pl ds j (ds.getD j .non)) = nkD (slotD pl es k (es.getD k .non))) := fun n => by
    induction n with
    | zero => exact fun _ => rfl
    | succ n ih =>
      intro hn
      have ih := ih (by omega)
      rw [List.range_succ, List.find?_append, List.find?_append, ih]
      cases hf : (List.range n).find? fun j => decide (nkD (slotD pl ds j (ds.getD j .non)) = nkD (slotD pl es k (es.getD k .non))) with
      | some j => rfl
      | none =>
        rw [List.find?_eq_none] at hf
        have hn : n < ds.length := by omega
        have e : (decide (n ∉ (List.range k).filterMap (findD pl ds es)) && (decide (nkD (keyOf (ds.getD n .non)) = nkD (keyOf (es.getD k .non))) && decide (nkD (kindOf (ds.getD n .non)) = nkD (kindOf (es.getD k .non))))) = decide (nkD (slotD pl ds n (ds.getD n .non)) = nkD (slotD pl es k (es.getD k .non))) := by
          rw [Bool.eq_iff_iff, Bool.and_eq_true, Bool.and_eq_true, decide_eq_true_eq, decide_eq_true_eq, decide_eq_true_eq, decide_eq_true_eq, (kk_iff (nd_at hd hn).2 nk).1, (kk_iff (nd_at hd hn).2 nk).2]
          constructor
          · rintro ⟨h1, h2⟩
            have ha := (al n hn).mpr h2
            rw [tk n hn ha] at h1
            refine (sl k n hk hn ha).mpr ⟨rfl, ?_⟩
            by_cases c : cntN es k (nkD (alikeD (es.getD k .non))) = cntN ds n (nkD (alikeD (es.getD k .non)))
            · exact c
            · have lt : cntN es k (nkD (alikeD (es.getD k .non))) < cntN ds n (nkD (alikeD (es.getD k .non))) := by omega
              rw [cnt_range (ds := ds) (by omega)] at lt
              obtain ⟨j, hj⟩ : ∃ j, ((List.range n).filter fun i => decide (nkD (alikeD (ds.getD i .non)) = nkD (alikeD (es.getD k .non))))[cntN es k (nkD (alikeD (es.getD k .non)))]? = some j := ⟨_, List.getElem?_eq_getElem lt⟩
              obtain ⟨b1, b2, b3⟩ := filt_at.mp hj
              have b2 := of_decide_eq_true b2
              have := hf j (List.mem_range.mpr b1)
              rw [decide_eq_true ((sl k j hk (by omega) b2).mpr ⟨rfl, by rw [cnt_range (ds := ds) (by omega)]; exact b3.symm⟩)] at this
              exact absurd rfl this
          · intro h
            obtain ⟨e1, e2, e3⟩ := (slot_eq (nd_at hd hn).2 nk).mp h
            have ha := (al n hn).mpr ⟨e2, e1⟩
            refine ⟨?_, e2, e1⟩
            rw [tk n hn ha]
            have := ((sl k n hk hn ha).mp h).2
            omega
        show ((none : Option Nat).or _) = ((none : Option Nat).or _)
        rw [List.find?_cons, List.find?_cons, e]
        cases decide (nkD (slotD pl ds n (ds.getD n .non)) = nkD (slotD pl es k (es.getD k .non))) <;> rfl
  exact main _ (Nat.le_refl _)
end Pk

namespace Pk
open PySem PySem.Spec PyProof.Rows L2 Ssb
open Evl (Ex Ev EvT EvL EvA EvU)
/-! ### the partner as the law finds it -/
theorem cut_take {xs : List V} {n : Nat} : cutV xs none (some (n : Int)) = xs.take n := by
  unfold cutV
  rw [HT.sIx_none, HT.sIx_nat, List.drop_zero, Nat.sub_zero]
  refine List.take_eq_take_iff.mpr ?_
  omega
/-- kinds as values -/
theorem kind_eq {H H' : Hp} {n m : Nat} {S S' : Addr → Prop} {a b : D} {x y : V} (ha : a = .non ∨ ∃ s, a = .str s) (hb : b = .non ∨ ∃ s, b = .str s) (rx : Rep H n S a x) (ry : Rep H' m S' b y) : scal x y = true ∧ (x = y ↔ nkD a = nkD b) := by
  have val : ∀ {H : Hp} {n : Nat} {S : Addr → Prop} {a : D} {x : V}, (a = .non ∨ ∃ s, a = .str s) → Rep H n S a x → (a = .non ∧ x = .non) ∨ ∃ s, a = .str s ∧ x = .str s := by
    intro H n S a x ha r
    rcases ha with rfl | ⟨s, rfl⟩
    · exact .inl ⟨rfl, non_of r⟩
    · cases n with
      | zero => exact r.elim
      | succ n => exact .inr ⟨s, rfl, r⟩
  rcases val ha rx with ⟨rfl, rfl⟩ | ⟨s, rfl, rfl⟩ <;> rcases val hb ry with ⟨rfl, rfl⟩ | ⟨t, rfl, rfl⟩
  · exact ⟨rfl, (fun _ => rfl), fun _ => rfl⟩
  · exact ⟨rfl, (fun h => nomatch h), fun h => by rw [nkD, nkD] at h; cases h⟩
  · exact ⟨rfl, (fun h => nomatch h), fun h => by rw [nkD, nkD] at h; cases h⟩
  · refine ⟨rfl, fun h => by cases h; rfl, fun h => ?_⟩
    rw [nkD, nkD] at h
    injection h with h
    rw [h]
theorem inV_int {t : List Nat} {j : Nat} : inV (.int (j : Int)) (t.map fun a : Nat => V.int (a : Int)) = decide (j ∈ t) := by
  unfold inV
  rw [Bool.eq_iff_iff, List.any_eq_true, decide_eq_true_eq]
  constructor
  · rintro ⟨y, hy, e⟩
    obtain ⟨a, ha, rfl⟩ := List.mem_map.mp hy
    have e : ((a : Int) == (j : Int)) = true := e
    have e := beq_iff_eq.mp e
    have : a = j := by omega
    rw [← this]; exact ha
  · intro h
    exact ⟨_, List.mem_map.mpr ⟨j, h, rfl⟩, by show ((j : Int) == (j : Int)) = true; simp⟩
theorem flat_ints {t : List Nat} : (t.map fun a : Nat => V.int (a : Int)).all flatV = true := by
  rw [List.all_eq_true]
  intro y hy
  obtain ⟨a, _, rfl⟩ := List.mem_map.mp hy
  rfl
theorem str_dec {a b : Str} : decide (V.str a = V.str b) = decide (a = b) := by
  rw [Bool.eq_iff_iff, decide_eq_true_eq, decide_eq_true_eq]; exact ⟨fun e => V.str.inj e, fun e => by rw [e]⟩
theorem nd_kk {m : Nat} {d : D} (h : NdD m d) : (kindOf d = .non ∨ ∃ s, kindOf d = .str s) ∧ KyD (keyOf d) := by
  cases m with
  | zero => exact h.elim
  | succ m =>
    obtain ⟨kd, ky, ow, bl, rfl, h1, h2, _⟩ := h
    exact ⟨h1, h2⟩
theorem given_len2 {n : Nat} {f : Nat → Bool} {v : Nat → V} : (Evl.given n f v).length = ((List.range n).filter f).length := by
  unfold Evl.given
  rw [List.length_map]
/-- what stands at the nodes of a list of data -/
def AtN (H : Hp) (S : Addr → Prop) (ds : List D) (xs : List V) : Prop := ∀ j, j < ds.length → ∃ (t : Addr) (kv kyv ov : V) (ba : Addr) (n : Nat), xs[j]? = some (.ref t) ∧ H t = some (.tup [kv, kyv, ov, .ref ba]) ∧ Rep H n S (kindOf (ds.getD j .non)) kv ∧ Rep H n S (keyOf (ds.getD j .non)) kyv ∧ Rep H n S (ownD (ds.getD j .non)) ov ∧ Rep H n S (.lst (belowD (ds.getD j .non))) (.ref ba)
theorem AtN.ex {H H' : Hp} {S : Addr → Prop} {ds : List D} {xs : List V} (e : Ex H H') (h : AtN H S ds xs) : AtN H' S ds xs := fun j hj => by
  obtain ⟨t, kv, kyv, ov, ba, n, h1, h2, h3, h4, h5, h6⟩ := h j hj
  exact ⟨t, kv, kyv, ov, ba, n, h1, e _ _ h2, rep_ex e h3, rep_ex e h4, rep_ex e h5, rep_ex e h6⟩
theorem node_at {H : Hp} {n m : Nat} {S : Addr → Prop} {ds : List D} {o : Addr} (hv : Rep H n S (.lst ds) (.ref o)) (hn : ∀ d ∈ ds, NdD m d) : ∃ xs, H o = some (.lst xs) ∧ xs.length = ds.length ∧ AtN H S ds xs := by
  cases n with
  | zero => exact hv.elim
  | succ n =>
  obtain ⟨_, xs, e, _, ho, _, pr⟩ := hv
  cases e
  refine ⟨xs, ho, (pair_len pr).symm, fun j hj => ?_⟩
  obtain ⟨g, nd⟩ := nd_at hn hj
  obtain ⟨x, hx, rd⟩ := pair_at pr g
  generalize ds.getD j .non = d at nd rd
  cases m with
  | zero => exact nd.elim
  | succ m =>
  obtain ⟨kd, ky, ow, bl, rfl, _⟩ := nd
  cases n with
  | zero => exact rd.elim
  | succ n =>
  obtain ⟨t, ws, rfl, ht, _, pw⟩ := rd
  cases pw with
  | cons w1 pw =>
  cases pw with
  | cons w2 pw =>
  cases pw with
  | cons w3 pw =>
  cases pw with
  | cons w4 pw =>
  cases pw
  cases n with
  | zero => exact w4.elim
  | succ n =>
  obtain ⟨ba, _, rfl, _⟩ := id w4
  exact ⟨t, _, _, _, ba, n + 1, hx, ht, w1, w2, w3, w4⟩
theorem isN_rep {H : Hp} {n : Nat} {S : Addr → Prop} {d : D} {v : V} (h : Rep H n S d v) : decide (v = .non) = isNon d := by
  cases n with
  | zero => exact h.elim
  | succ n =>
  cases d with
  | non => rw [show v = .non from h]; rfl
  | bl b => rw [show v = .bl b from h]; rfl
  | int i => rw [show v = .int i from h]; rfl
  | str s => rw [show v = .str s from h]; rfl
  | lst l => obtain ⟨a, xs, e, _⟩ := h; rw [e]; rfl
  | tup l => obtain ⟨a, xs, e, _⟩ := h; rw [e]; rfl
  | dic l => obtain ⟨a, xs, e, _⟩ := h; rw [e]; rfl
def optV : Option Nat → V
  | none => .non
  | some j => .int (j : Int)
section
variable {P : Program} {w : World} {K : PySem.W.Frag} {mg : Str → Option Value} {base : Heap} {C_Node C_Rule C_InvalidRule : Addr}
def spPartner : Sp := fun vs H Q _ => ∃ (o tk nw : Addr) (k n1 n2 m : Nat) (pl : Str) (S1 S2 : Addr → Prop) (ds es : List D), vs = [.ref o, .ref tk, .ref nw, .int (k : Int), .str pl] ∧ Rep H n1 S1 (.lst ds) (.ref o) ∧ Rep H n2 S2 (.lst es) (.ref nw) ∧ H tk = some (.lst (((List.range k).filterMap (findD pl ds es)).map fun j : Nat => V.int (j : Int))) ∧ (∀ d ∈ ds, NdD m d) ∧ (∀ d ∈ es, NdD m d) ∧ k < es.length ∧ ds.length ≤ 24 ∧ es.length ≤ 24 ∧
  ∀ H', Ex H H' → Q (optV (findD pl ds es k)) H'
theorem ok__law_partner (T : Txt K mg C_Node C_Rule C_InvalidRule) (R : Prg K mg C_Node C_Rule C_InvalidRule) : ∃ f fd, Fn P w K mg base "_law_partner" 1 ["_law_old", "_law_taken", "_law_new", "_law_k", "_law_place"] spPartner f fd := by
  obtain ⟨f, fd, at_, F, kp⟩ := R._law_partner
  refine ⟨f, fd, F.ok sc__law_partner (fun vs H Q E h => ?_) (fun cdv A outer s H vs Q E hr h => ?_), at_, kp, F.binds (fun _ _ _ _ _ _ us hl => match us, hl with | [_, _, _, _, _], _ => rfl)⟩
  · obtain ⟨o, tk, nw, k, n1, n2, m, pl, S1, S2, ds, es, rfl, _⟩ := h; rfl
  · obtain ⟨o, tk, nw, i, n1, n2, m, pl, S1, S2, ds, es, rfl, ro, rn, htk, nds, nes, ik, l1, l2, k⟩ := h
    refine ⟨_, (pss_cons (ps_set (i := 5) sc__law_partner.nd rfl (Or.inr rfl) (pe_ix (r := rIxT K) ix_tup (pe_ix (r := rIxL K) ix_list (pv 2) (pv 3) (fun _ _ => rfl)) pe_int (fun _ _ => rfl)))
  (pss_cons (ps_set (i := 6) sc__law_partner.nd rfl (Or.inr rfl) (pe_ix (r := rIxT K) ix_tup (pe_ix (r := rIxL K) ix_list (pv 2) (pv 3) (fun _ _ => rfl)) pe_int (fun _ _ => rfl)))
  (pss_cons (ps_if (pt_cmpR op_isN (pv 6) pe_non (nomark _)) (pss_cons (ps_setLc (i := 7) (own := [("_law_j", 11)]) rfl sc__law_partner.nd rfl rfl (sw_true rfl rfl rfl (by decide +kernel)) (pi_range1 (by rfl) T.range (pa_cons (pe_callB (r := rLenA K) call_len (by rfl) T.len (by decide +kernel) (pa_cons (pv 0) pa_nil)) pa_nil)) (blkOk_by (own := [("_law_j", 11)]) (N := ["_law_old", "_law_taken", "_law_new", "_law_k", "_law_place", "_law_kind", "_law_key", "_law_counted", "_law_number", "_law_found", "_law_free", "_law_j", "_law_node"]) (sc := defScope s__law_partner) (by decide +kernel)) (fun _ _ _ _ _ => (pg_name (i := 11) sc__law_partner.nd rfl (Or.inl rfl))) (fun _ _ _ _ _ => (pts_one (PW.pt (pw_or (pt_cmpR op_eq (pv 4) pe_str (nomark _)) (pw_or1 (pt_cmpR op_isN (pe_ix (r := rIxT K) ix_tup (pe_ix (r := rIxL K) ix_list (pv 0) (pv 11) (fun _ _ => rfl)) pe_int (fun _ _ => rfl)) pe_non (nomark _))))))) (fun _ _ _ _ _ => (pv 11)))
  (pss_cons (ps_set (i := 8) sc__law_partner.nd rfl (Or.inl rfl) (pe_callB (r := rLenA K) call_len (by rfl) T.len (by decide +kernel) (pa_cons (pe_lc (own := [("_law_node", 12)]) rfl sc__law_partner.nd (show PI _ _ _ (iList K _) from pi_list (pe_slice (r := rSlL K) sl_list (pv 2) po_none (po_some (pv 3)))) (blkOk_by (own := [("_law_node", 12)]) (N := ["_law_old", "_law_taken", "_law_new", "_law_k", "_law_place", "_law_kind", "_law_key", "_law_counted", "_law_number", "_law_found", "_law_free", "_law_j", "_law_node"]) (sc := defScope s__law_partner) (by decide +kernel)) (fun _ _ _ _ _ => (pg_name (i := 12) sc__law_partner.nd rfl (Or.inl rfl))) (fun _ _ _ _ _ => (pts_one (PW.pt (pw_or (pt_cmpR op_eq (pv 4) pe_str (nomark _)) (pw_or1 (pt_cmpR op_isN (pe_ix (r := rIxT K) ix_tup (pv 12) pe_int (fun _ _ => rfl)) pe_non (nomark _))))))) (fun _ _ _ _ _ => (pv 12))) pa_nil)))
  (pss_cons (ps_if (pt_cmpR op_ge (pv 8) (pe_callB (r := rLenA K) call_len (by rfl) T.len (by decide +kernel) (pa_cons (pv 7) pa_nil)) (nomark _)) (pss_one (ps_ret pe_non)) pss_nil)
  (pss_cons (ps_set (i := 9) sc__law_partner.nd rfl (Or.inl rfl) (pe_ix (r := rIxL K) ix_list (pv 7) (pv 8) (fun _ _ => rfl)))
  (pss_cons (ps_if (PW.pt (pw_and (pt_cmpR op_isN (pe_ix (r := rIxT K) ix_tup (pe_ix (r := rIxL K) ix_list (pv 0) (pv 9) (fun _ _ => rfl)) pe_int (fun _ _ => rfl)) pe_non (nomark _)) (pw_and1 (pt_cmpR op_eq (pe_ix (r := rIxT K) ix_tup (pe_ix (r := rIxL K) ix_list (pv 0) (pv 9) (fun _ _ => rfl)) pe_int (fun _ _ => rfl)) (pv 5) (nomark _))))) (pss_one (ps_ret (pv 9))) pss_nil)
  (pss_one (ps_ret pe_non))))))) pss_nil)
  (pss_cons (ps_setLc (i := 10) (own := [("_law_j", 11)]) rfl sc__law_partner.nd rfl rfl (sw_true rfl rfl rfl (by decide +kernel)) (pi_range1 (by rfl) T.range (pa_cons (pe_callB (r := rLenA K) call_len (by rfl) T.len (by decide +kernel) (pa_cons (pv 0) pa_nil)) pa_nil)) (blkOk_by (own := [("_law_j", 11)]) (N := ["_law_old", "_law_taken", "_law_new", "_law_k", "_law_place", "_law_kind", "_law_key", "_law_counted", "_law_number", "_law_found", "_law_free", "_law_j", "_law_node"]) (sc := defScope s__law_partner) (by decide +kernel)) (fun _ _ _ _ _ => (pg_name (i := 11) sc__law_partner.nd rfl (Or.inl rfl))) (fun _ _ _ _ _ => (pts_one (PW.pt (pw_and (pt_cmpR (r := rIn K true) op_notIn_seq (pv 11) (pv 1) (by rfl)) (pw_and (pt_cmpR (r := rEqK) (op_eqK (hu20 hr)) (pe_ix (r := rIxT K) ix_tup (pe_ix (r := rIxL K) ix_list (pv 0) (pv 11) (fun _ _ => rfl)) pe_int (fun _ _ => rfl)) (pv 6) (nomark _)) (pw_and1 (pt_cmpR op_eq (pe_ix (r := rIxT K) ix_tup (pe_ix (r := rIxL K) ix_list (pv 0) (pv 11) (fun _ _ => rfl)) pe_int (fun _ _ => rfl)) (pv 5) (nomark _)))))))) (fun _ _ _ _ _ => (pv 11)))
  (pss_cons (ps_if (show PT _ _ (tTruA K _) from pt_truth (pv 10) (by intro _; rfl)) (pss_one (ps_ret (pe_ix (r := rIxL K) ix_list (pv 10) pe_int (fun _ _ => rfl)))) pss_nil)
  (pss_one (ps_ret pe_non))))))), ?_⟩
    obtain ⟨xs, ho, lx, ax⟩ := node_at ro nds
    obtain ⟨ys, hnw, ly, ay⟩ := node_at rn nes
    have ndk := (nd_at nes ik).2
    obtain ⟨t, kv, kyv, ov, ba, nn, hy, ht, rk, rq, _, _⟩ := ay i ik
    refine Evl.q_asg (v := kv) (Evl.ev_op (Evl.ev_op (Evl.ev_var rfl) (Evl.ev_var rfl) (Evl.rv_ixL (Evl.sq_of hnw) (atI_nat hy))) Evl.ev_c (Evl.rv_ixT (Evl.st_of ht) (atI_nat (j := 0) rfl))) fun H1 e1 => ?_
    refine Evl.q_asg (v := kyv) (Evl.ev_op (Evl.ev_op (Evl.ev_var rfl) (Evl.ev_var rfl) (Evl.rv_ixL (Evl.sq_of (e1 _ _ hnw)) (atI_nat hy))) Evl.ev_c (Evl.rv_ixT (Evl.st_of (e1 _ _ ht)) (atI_nat (j := 1) rfl))) fun H2 e2 => ?_
    have e02 := e1.trans e2
    have lenO : ∀ {σ : L2.St} {Hx : Hp}, Ex H Hx → σ[0]? = some (some (.ref o)) → Ev (tCB (rLenA K) (tCons (tVar 0) tNil)) σ Hx (.int (ds.length : Int)) := fun {σ Hx} ex s0 => Evl.ev_is (ev_lenL (Evl.ev_var s0) (.inl (Evl.sq_of (ex _ _ ho)))) (by rw [lx])
    -- a part of a node of old
    have part : ∀ {σ : L2.St} {Hx : Hp} {te : TE} {j c : Nat} {t : Addr} {ws : List V} {z : V}, Ex H Hx → σ[0]? = some (some (.ref o)) → Ev te σ Hx (.int (j : Int)) → xs[j]? = some (.ref t) → H t = some (.tup ws) → ws[c]? = some z → Ev (tOp (rIxT K) (tOp (rIxL K) (tVar 0) te) (tC (.int (c : Int)))) σ Hx z := fun {σ Hx te j c t ws z} ex s0 hj hx ht hz => Evl.ev_op (Evl.ev_op (Evl.ev_var s0) hj (Evl.rv_ixL (Evl.sq_of (ex _ _ ho)) (atI_nat hx))) Evl.ev_c (Evl.rv_ixT (Evl.st_of (ex _ _ ht)) (atI_nat hz))
    refine Evl.q_when (b := isNon (keyOf (es.getD i .non))) (Evl.et_is (Evl.et_test (Evl.ev_op (Evl.ev_var rfl) Evl.ev_c rv_isN)) (isN_rep rq)) (fun hb H3 e3 => ?_) fun hb H3 e3 => ?_
    · have e03 := e02.trans e3
      rw [← seekN_eq nds nes ik hb] at k
      refine Evl.q_asgL (xs := Evl.given (ds.length : Int).toNat (amongP pl ds) fun j => V.int (j : Int)) (Evl.el_lcR1 (amongP pl ds) (fun j => .int (j : Int)) (Evl.ea_cons (lenO e03 rfl) Evl.ea_nil) ⟨by omega, by omega⟩ (fun _ => rfl) (fun j H4 e4 hj => ?_) (fun j H4 e4 hj hf => Evl.ev_var rfl)) fun pc H4 hpc e4 hc => ?_
      · obtain ⟨tj, kvj, kyvj, _, _, nj, hxj, htj, rkj, rqj, _, _⟩ := ax j (by omega)
        refine Evl.et_is (Evl.et_or (a := decide (V.str pl = V.str "all")) (b := isNon (keyOf (ds.getD j .non))) (Evl.et_test (Evl.ev_op (Evl.ev_var rfl) Evl.ev_c (Evl.rv_eq rfl))) fun _ => Evl.et_is (Evl.et_test (Evl.ev_op (part (c := 1) (e03.trans e4) rfl (Evl.ev_var rfl) hxj htj rfl) Evl.ev_c rv_isN)) (isN_rep rqj)) ?_
        rw [str_dec]; rfl
      rw [Int.toNat_natCast] at hc
      have hc : H4 pc = some (.lst (((List.range ds.length).filter (amongP pl ds)).map fun j : Nat => V.int (j : Int))) := hc
      have e04 := e03.trans e4
      refine Evl.q_asg (v := .int (((List.range i).filter (amongP pl es)).length : Int)) ?_ fun H5 e5 => ?_
      · have sl := Evl.el_sl (K := K) (H := H4) (te := tVar 2) (th := tPart (tVar 3)) (σ := [some (.ref o), some (.ref tk), some (.ref nw), some (.int (i : Int)), some (.str pl), some kv, some kyv, some (.ref pc), none, none, none, none, none]) (Evl.ev_var rfl) Evl.eo_none (Evl.eo_some (Evl.ev_var rfl)) (Evl.sq_of (e04 _ _ hnw))
        rw [cut_take] at sl
        have lt : (ys.take i).length = i := by rw [List.length_take]; omega
        have tkx : ∀ {j : Nat} {x : V}, (ys.take i)[j]? = some x → j < i ∧ ys[j]? = some x := fun {j x} hx => by
          rw [List.getElem?_take] at hx
          by_cases c : j < i
          · rw [if_pos c] at hx; exact ⟨c, hx⟩
          · rw [if_neg c] at hx; cases hx
        have lc := Evl.el_lcNL (K := K) (te := tVar 12) (j := 12) (vs := [12]) (t := tOr (tTest (tOp rEq (tVar 4) (tC (.str "all")))) (tTest (tOp (fun x y H Q => y = .non ∧ Q (.bl (decide (x = .non))) H) (tOp (rIxT K) (tVar 12) (tC (.int 1))) (tC .non)))) (amongP pl es) (fun j => ys.getD j .non) sl (by omega) (fun _ => rfl) (fun j x H6 e6 hx => ?_) fun j x H6 e6 hx _ => Evl.ev_is (Evl.ev_var rfl) (by
          rw [List.getD_eq_getElem?_getD, (tkx hx).2]; rfl)
        · rw [lt] at lc
          intro H6 e6 Q q
          show tLc _ _ _ _ _ _ H6 (fun v H7 => ∃ x n, [v] = [x] ∧ LenV K x H7 n ∧ Q (.int n) H7)
          refine lc H6 e6 _ fun p H7 hp e7 hp7 => ⟨.ref p, _, rfl, .inl ⟨_, Evl.sq_of hp7, rfl⟩, ?_⟩
          have := q H7 e7
          rw [given_len2]; exact this
        · obtain ⟨ji, hxj'⟩ := tkx hx
          obtain ⟨tj, kvj, kyvj, _, _, nj, hxj, htj, rkj, rqj, _, _⟩ := ay j (by omega)
          rw [hxj'] at hxj; cases hxj
          refine Evl.et_is (Evl.et_or (a := decide (V.str pl = V.str "all")) (b := isNon (keyOf (es.getD j .non))) (Evl.et_test (Evl.ev_op (Evl.ev_var rfl) Evl.ev_c (Evl.rv_eq rfl))) fun _ => Evl.et_is (Evl.et_test (Evl.ev_op (Evl.ev_op (Evl.ev_var rfl) Evl.ev_c (Evl.rv_ixT (Evl.st_of ((e04.trans e6) _ _ htj)) (atI_nat (j := 1) rfl))) Evl.ev_c rv_isN)) (isN_rep rqj)) ?_
          rw [str_dec]; rfl
      have e05 := e04.trans e5
      have hc5 := e5 _ _ hc
      refine Evl.q_when (b := decide (((((List.range ds.length).filter (amongP pl ds)).map fun j : Nat => V.int (j : Int)).length : Int) ≤ (((List.range i).filter (amongP pl es)).length : Int))) (Evl.et_test (Evl.ev_op (Evl.ev_var rfl) (ev_lenL (Evl.ev_var rfl) (.inl (Evl.sq_of hc5))) Evl.rv_I0)) (fun hb6 H6 e6 => ?_) fun hb6 H6 e6 => ?_
      · have hl := of_decide_eq_true hb6
        rw [List.length_map] at hl
        have : seekN pl ds es i = none := by
          unfold seekN
          rw [List.getElem?_eq_none (by omega)]
        rw [this] at k
        exact Evl.s_ret Evl.ev_c fun H7 e7 => k H7 (e05.trans (e6.trans e7))
      · have hl := of_decide_eq_false hb6
        rw [List.length_map] at hl
        have hlt : ((List.range i).filter (amongP pl es)).length < ((List.range ds.length).filter (amongP pl ds)).length := by omega
        obtain ⟨j, hj⟩ : ∃ j, ((List.range ds.length).filter (amongP pl ds))[((List.range i).filter (amongP pl es)).length]? = some j := ⟨_, List.getElem?_eq_getElem hlt⟩
        obtain ⟨jl, _, _⟩ := filt_at.mp hj
        have hs : seekN pl ds es i = if (isNon (keyOf (ds.getD j .non)) && decide (nkD (kindOf (ds.getD j .non)) = nkD (kindOf (es.getD i .non)))) = true then some j else none := by
          unfold seekN
          rw [hj]
        rw [hs] at k
        refine Evl.q_asg (v := .int (j : Int)) (Evl.ev_op (Evl.ev_var rfl) (Evl.ev_var rfl) (Evl.rv_ixL (Evl.sq_of (e6 _ _ hc5)) (atI_nat (by rw [List.getElem?_map, hj]; rfl)))) fun H7 e7 => ?_
        have e07 := e05.trans (e6.trans e7)
        obtain ⟨tj, kvj, kyvj, _, _, nj, hxj, htj, rkj, rqj, _, _⟩ := ax j jl
        obtain ⟨f1, ke⟩ := kind_eq (nd_kk (nd_at nds jl).2).1 (nd_kk ndk).1 rkj rk
        refine Evl.q_when (b := isNon (keyOf (ds.getD j .non)) && decide (nkD (kindOf (ds.getD j .non)) = nkD (kindOf (es.getD i .non)))) (Evl.et_and (Evl.et_is (Evl.et_test (Evl.ev_op (part (c := 1) e07 rfl (Evl.ev_var rfl) hxj htj rfl) Evl.ev_c rv_isN)) (isN_rep rqj)) fun _ => Evl.et_is (Evl.et_test (Evl.ev_op (part (c := 0) e07 rfl (Evl.ev_var rfl) hxj htj rfl) (Evl.ev_var rfl) (Evl.rv_eq f1))) (by rw [Bool.eq_iff_iff, decide_eq_true_eq, decide_eq_true_eq]; exact ke)) (fun hb8 H8 e8 => ?_) fun hb8 H8 e8 => ?_
        · rw [if_pos hb8] at k
          exact Evl.s_ret (Evl.ev_var rfl) fun H9 e9 => k H9 (e07.trans (e8.trans e9))
        · rw [if_neg (by rw [hb8]; decide)] at k
          exact Evl.s_ret Evl.ev_c fun H9 e9 => k H9 (e07.trans (e8.trans e9))
    · have e03 := e02.trans e3
      rw [← seekK_eq nds nes ik hb] at k
      obtain ⟨lk, hlk⟩ : ∃ l, keyOf (es.getD i .non) = .tup l := by
        rcases (nd_kk ndk).2.2 with h | h
        · rw [h] at hb; cases hb
        · exact h
      refine Evl.q_asgL (xs := Evl.given (ds.length : Int).toNat (fun j => decide (j ∉ (List.range i).filterMap (findD pl ds es)) && (decide (nkD (keyOf (ds.getD j .non)) = nkD (keyOf (es.getD i .non))) && decide (nkD (kindOf (ds.getD j .non)) = nkD (kindOf (es.getD i .non))))) fun j => V.int (j : Int)) (Evl.el_lcR1 _ (fun j => .int (j : Int)) (Evl.ea_cons (lenO e03 rfl) Evl.ea_nil) ⟨by omega, by omega⟩ (fun _ => rfl) (fun j H4 e4 hj => ?_) (fun j H4 e4 hj hf => Evl.ev_var rfl)) fun pc H4 hpc e4 hc => ?_
      · obtain ⟨tj, kvj, kyvj, _, _, nj, hxj, htj, rkj, rqj, _, _⟩ := ax j (by omega)
        have ndj := (nd_at nds (show j < ds.length by omega)).2
        obtain ⟨f1, ke⟩ := kind_eq (nd_kk ndj).1 (nd_kk ndk).1 rkj rk
        have e34 := e03.trans e4
        refine Evl.et_and (Evl.et_is (Evl.et_test (Evl.ev_op (Evl.ev_var rfl) (Evl.ev_var rfl) (Evl.rv_niL (Evl.sq_of (e34 _ _ htk)) rfl flat_ints))) (by show (!inV _ _) = _; rw [inV_int, decide_not])) fun _ => Evl.et_and (Evl.et_test (Evl.ev_op (part (c := 1) e34 rfl (Evl.ev_var rfl) hxj htj rfl) (Evl.ev_var rfl) fun H6 e6 Q q => ?_)) fun _ => Evl.et_is (Evl.et_test (Evl.ev_op (part (c := 0) e34 rfl (Evl.ev_var rfl) hxj htj rfl) (Evl.ev_var rfl) (Evl.rv_eq f1))) (by rw [Bool.eq_iff_iff, decide_eq_true_eq, decide_eq_true_eq]; exact ke)
        have kj := (nd_kk ndj).2
        have ki := (nd_kk ndk).2
        rw [hlk] at ki rq
        refine ⟨keyOf (ds.getD j .non), lk, ⟨kd_le (by decide) kj.1, kj.2, nj, S1, rep_ex (e34.trans e6) rqj⟩, ⟨kd_le (by decide) ki.1, .inr ⟨_, rfl⟩, nn, S2, rep_ex (e34.trans e6) rq⟩, ?_⟩
        rw [← hlk]
        exact q H6 (Ex.refl _)
      rw [Int.toNat_natCast] at hc
      have e04 := e03.trans e4
      have hd : ∀ {l : List Nat} {p : Nat → Bool}, l.find? p = (l.filter p)[0]? := fun {l p} => by rw [← List.head?_filter, List.head?_eq_getElem?]
      unfold seekK at k
      rw [hd] at k
      have hc : H4 pc = some (.lst (((List.range ds.length).filter fun j => decide (j ∉ (List.range i).filterMap (findD pl ds es)) && (decide (nkD (keyOf (ds.getD j .non)) = nkD (keyOf (es.getD i .non))) && decide (nkD (kindOf (ds.getD j .non)) = nkD (kindOf (es.getD i .non))))).map fun j : Nat => V.int (j : Int))) := hc
      generalize ((List.range ds.length).filter fun j => decide (j ∉ (List.range i).filterMap (findD pl ds es)) && (decide (nkD (keyOf (ds.getD j .non)) = nkD (keyOf (es.getD i .non))) && decide (nkD (kindOf (ds.getD j .non)) = nkD (kindOf (es.getD i .non))))) = fr at k hc
      refine Evl.q_when (et_truL (Evl.ev_var rfl) hc) (fun hb5 H5 e5 => ?_) fun hb5 H5 e5 => ?_
      · cases fr with
        | nil => cases hb5
        | cons j fr => exact Evl.s_ret (v := .int (j : Int)) (Evl.ev_op (Evl.ev_var rfl) Evl.ev_c (Evl.rv_ixL (Evl.sq_of (e5 _ _ hc)) (atI_nat (j := 0) rfl))) fun H9 e9 => k H9 (e04.trans (e5.trans e9))
      · cases fr with
        | cons j fr => cases hb5
        | nil => exact Evl.s_ret Evl.ev_c fun H9 e9 => k H9 (e04.trans (e5.trans e9))
end
end Pk

namespace Pk
open PySem PySem.Spec PyProof.Rows L2 Ssb
open Evl (Ex Ev EvT EvL EvA EvU)
/-! ### the pairs as the law makes them -/
def PairL (H : Hp) (p : D × D) (z : V) : Prop := ∃ (t ta tb : Addr) (ka qa oa ba kb qb ob bb : V), z = .ref t ∧ H t = some (.tup [.ref ta, .ref tb]) ∧ H ta = some (.tup [ka, qa, oa, ba]) ∧ H tb = some (.tup [kb, qb, ob, bb]) ∧ Rep H 4 Fs (ownD p.1) oa ∧ Rep H 4 Fs (ownD p.2) ob ∧ decide (ka = .non) = isNon (kindOf p.1)
theorem PairL.nl {H H' : Hp} {p : D × D} {z : V} (e : Nl H H') (h : PairL H p z) : PairL H' p z := by
  obtain ⟨t, ta, tb, ka, qa, oa, ba, kb, qb, ob, bb, h1, h2, h3, h4, h5, h6, h7⟩ := h
  exact ⟨t, ta, tb, ka, qa, oa, ba, kb, qb, ob, bb, h1, e _ _ h2 (fun _ z => nomatch z), e _ _ h3 (fun _ z => nomatch z), e _ _ h4 (fun _ z => nomatch z), rep_nl e h5, rep_nl e h6, h7⟩
section
variable {P : Program} {w : World} {K : PySem.W.Frag} {mg : Str → Option Value} {base : Heap} {C_Node C_Rule C_InvalidRule : Addr}
def spPairs : Nat → Sp
  | 0 => fun _ _ _ _ => False
  | m + 1 => fun vs H Q _ => ∃ (o nw : Addr) (n1 n2 : Nat) (pl : Str) (S1 S2 : Addr → Prop) (ds es : List D), vs = [.ref o, .ref nw, .str pl] ∧ Rep H n1 S1 (.lst ds) (.ref o) ∧ Rep H n2 S2 (.lst es) (.ref nw) ∧ (∀ d ∈ ds, NdD m d) ∧ (∀ d ∈ es, NdD m d) ∧ ds.length ≤ 24 ∧ es.length ≤ 24 ∧ bnd m ≤ 30000 ∧
    ∀ H' q zs, Ex H H' → H q = none → H' q = some (.lst zs) → Paired (fun p z => PairL H' p z) (pairsD pl m ds es) zs → Q (.ref q) H'
theorem ok__law_pairs (T : Txt K mg C_Node C_Rule C_InvalidRule) (R : Prg K mg C_Node C_Rule C_InvalidRule) : ∀ m, ∃ f fd, Fn P w K mg base "_law_pairs" (m + 2) ["_law_old", "_law_new", "_law_place"] (spPairs m) f fd
  | 0 => by
    obtain ⟨f, fd, at_, F, kp⟩ := R._law_pairs
    exact ⟨f, fd, F.ok sc__law_pairs (fun vs H Q E h => h.elim) (fun cdv A outer s H vs Q E hr h => h.elim), at_, kp, F.binds (fun _ _ _ _ _ _ us hl => match us, hl with | [_, _, _], _ => rfl)⟩
  | m + 1 => by
    obtain ⟨_, _, G__law_pairs⟩ := ok__law_pairs T R m
    obtain ⟨_, _, G__law_partner⟩ := ok__law_partner (P := P) (w := w) (base := base) T R
    obtain ⟨f, fd, at_, F, kp⟩ := R._law_pairs
    refine ⟨f, fd, F.ok sc__law_pairs (fun vs H Q E h => ?_) (fun cdv A outer s H vs Q E hr h => ?_), at_, kp, F.binds (fun _ _ _ _ _ _ us hl => match us, hl with | [_, _, _], _ => rfl)⟩
    · obtain ⟨o, nw, n1, n2, pl, S1, S2, ds, es, rfl, _⟩ := h; rfl
    · obtain ⟨o, nw, n1, n2, pl, S1, S2, ds, es, rfl, ro, rn, nds, nes, l1, l2, hb, k⟩ := h
      refine ⟨_, (pss_cons (ps_set (i := 3) sc__law_pairs.nd rfl (Or.inl rfl) (pe_lst pa_nil))
  (pss_cons (ps_set (i := 4) sc__law_pairs.nd rfl (Or.inl rfl) (pe_lst pa_nil))
  (pss_cons (ps_for PassesOwn.never rfl (pi_range1 (by rfl) T.range (pa_cons (pe_callB (r := rLenA K) call_len (by rfl) T.len (by decide +kernel) (pa_cons (pv 1) pa_nil)) pa_nil)) (pg_name (i := 5) sc__law_pairs.nd rfl (Or.inl rfl))
    (pss_cons (ps_set (i := 6) sc__law_pairs.nd rfl (Or.inl rfl) (pcl G__law_partner hr (pa_cons (pv 0) (pa_cons (pv 4) (pa_cons (pv 1) (pa_cons (pv 5) (pa_cons (pv 2) pa_nil)))))))
  (pss_one (ps_if (pt_cmpR op_notN (pv 6) pe_non (nomark _)) (pss_cons (ps_expr (show PE _ _ (tBM K _ _ _ _) from pe_bm PySem.F.plainAttrs_list PySem.F.slot_list_append PySem.F.type_list_append mt_append (pv 4) (pa_cons (pv 6) pa_nil)))
  (pss_cons (ps_expr (show PE _ _ (tBM K _ _ _ _) from pe_bm PySem.F.plainAttrs_list PySem.F.slot_list_append PySem.F.type_list_append mt_append (pv 3) (pa_cons (pe_tup (pa_cons (pe_ix (r := rIxL K) ix_list (pv 0) (pv 6) (fun _ _ => rfl)) (pa_cons (pe_ix (r := rIxL K) ix_list (pv 1) (pv 5) (fun _ _ => rfl)) pa_nil))) pa_nil)))
  (pss_one (ps_set (i := 3) sc__law_pairs.nd rfl (Or.inl rfl) (pe_op op_cat (pv 3) (pcl G__law_pairs hr (pa_cons (pe_ix (r := rIxT K) ix_tup (pe_ix (r := rIxL K) ix_list (pv 0) (pv 6) (fun _ _ => rfl)) pe_int (fun _ _ => rfl)) (pa_cons (pe_ix (r := rIxT K) ix_tup (pe_ix (r := rIxL K) ix_list (pv 1) (pv 5) (fun _ _ => rfl)) pe_int (fun _ _ => rfl)) (pa_cons (pv 2) pa_nil))))))))) pss_nil))))
  (pss_one (ps_ret (pv 3)))))), ?_⟩
      obtain ⟨xs, ho, lx, ax⟩ := node_at ro nds
      obtain ⟨ys, hnw, ly, ay⟩ := node_at rn nes
      refine Evl.q_asgL (xs := []) (Evl.el_lst Evl.ea_nil (Nat.zero_le _)) fun q0 H1 hq0 e1 hq1 => ?_
      refine Evl.q_asgL (xs := []) (Evl.el_lst Evl.ea_nil (Nat.zero_le _)) fun tk H2 htk0 e2 htk => ?_
      have e02 := e1.trans e2
      refine Evl.q_forR1 (n := (es.length : Int)) (Evl.ea_cons (Evl.ev_is (ev_lenL (Evl.ev_var rfl) (.inl (Evl.sq_of (e02 _ _ hnw)))) (by rw [ly])) Evl.ea_nil) ⟨by omega, by omega⟩ (fun i σ' Hx => ∃ (q : Addr) (zs : List V) (o5 o6 : Option V), σ' = [some (.ref o), some (.ref nw), some (.str pl), some (.ref q), some (.ref tk), o5, o6] ∧ Ex H Hx ∧ H q = none ∧ q ≠ tk ∧ Hx q = some (.lst zs) ∧ Hx tk = some (.lst (((List.range i).filterMap (findD pl ds es)).map fun j : Nat => V.int (j : Int))) ∧ Paired (fun p z => PairL Hx p z) ((List.range i).flatMap fun k => pairAt (pairsD pl (m - 1)) ds es k (findD pl ds es k)) zs ∧ zs.length ≤ i * (1 + bnd (m - 1)))
        (fun Hx ex => ⟨q0, [], _, _, rfl, e02.trans ex, hq0, fun e => (by rw [← e, hq1] at htk0; cases htk0), ex _ _ (e2 _ _ hq1), ex _ _ htk, .nil, Nat.zero_le _⟩) (fun i σ' Hx hi pv => ?_) fun σ' Hx pv => ?_
      · obtain ⟨q, zs, o5, o6, rfl, ex, hq, qtk, hqx, htkx, pz, lz⟩ := pv
        have il : i < es.length := by omega
        have htkH : H tk = none := Evl.fresh_back e1 htk0
        refine q_go ⟨_, rfl, _, rfl, _, rfl, _, rfl, _, rfl, o, tk, nw, i, n1, n2, m, pl, S1, S2, ds, es, rfl, rep_ex ex ro, rep_ex ex rn, htkx, nds, nes, il, l1, l2, fun H3 e3 => ?_⟩
        have e03 := ex.trans e3
        have hq3 := e3 _ _ hqx
        have htk3 := e3 _ _ htkx
        cases hf : findD pl ds es i with
        | none =>
          refine Evl.s_when (b := false) (Evl.et_is (Evl.et_test (Evl.ev_op (Evl.ev_var rfl) Evl.ev_c rv_notN)) (by rfl)) (fun h => nomatch h) fun _ H4 e4 => ?_
          refine ⟨q, zs, _, _, rfl, e03.trans e4, hq, qtk, e4 _ _ hq3, ?_, ?_, Nat.le_trans lz (Nat.mul_le_mul_right _ (Nat.le_succ i))⟩
          · rw [List.range_succ, List.filterMap_append, List.filterMap_cons, hf, List.filterMap_nil, List.append_nil]
            exact e4 _ _ htk3
          · rw [List.range_succ, List.flatMap_append, List.flatMap_cons, List.flatMap_nil, hf]
            show Paired _ (_ ++ []) zs
            rw [List.append_nil]
            exact pair_imp pz fun a b h => h.nl (Nl.of (e3.trans e4))
        | some j =>
          refine Evl.s_when (b := true) (Evl.et_is (Evl.et_test (Evl.ev_op (Evl.ev_var rfl) Evl.ev_c rv_notN)) (by rfl)) (fun _ H4 e4 => ?_) fun h => nomatch h
          obtain ⟨jl, _⟩ := slotIx_lt hf
          have ndj := (nd_at nds jl).2
          have ndi := (nd_at nes il).2
          cases m with
          | zero => exact ndj.elim
          | succ m =>
          obtain ⟨bl1, bn1⟩ := nd_below ndj
          obtain ⟨bl2, bn2⟩ := nd_below ndi
          obtain ⟨tj, kj, qj, oj, bj, nj, hxj, htj, rkj, _, roj, rbj⟩ := ax j jl
          obtain ⟨ti, ki, qi, oi, bi, ni, hyi, hti, _, _, roi, rbi⟩ := ay i il
          have e04 := e03.trans e4
          have hq4 := e4 _ _ hq3
          have htk4 := e4 _ _ htk3
          have b1 : (1 + bnd m) * 24 ≤ 30000 := by have : bnd (m + 1) = 24 * (1 + bnd m) := rfl; omega
          have lz0 : zs.length ≤ i * (1 + bnd m) := lz
          have lz' : zs.length ≤ 30000 := Nat.le_trans lz0 (Nat.le_trans (Nat.mul_le_mul_right _ (show i ≤ 24 by omega)) (by omega))
          have lt : (((List.range i).filterMap (findD pl ds es)).map fun j : Nat => V.int (j : Int)).length ≤ 24 := by
            rw [List.length_map]
            have := List.length_filterMap_le (findD pl ds es) (List.range i)
            rw [List.length_range] at this
            omega
          refine q_seq ⟨_, rfl, .inl ⟨rfl, _, Evl.sq_of htk4⟩, _, rfl, tk, _, .int (j : Int), rfl, rfl, htk4, Evl.sz_lt (by omega), ?_⟩
          have nl5 := (Nl.of (e3.trans e4)).trans (Nl.upd (o := .lst ((((List.range i).filterMap (findD pl ds es)).map fun j : Nat => V.int (j : Int)) ++ [.int (j : Int)])) htk4)
          have e05 := Ex.mut (o := .lst ((((List.range i).filterMap (findD pl ds es)).map fun j : Nat => V.int (j : Int)) ++ [.int (j : Int)])) e04 htkH
          have hq5 : (upd H4 tk (.lst ((((List.range i).filterMap (findD pl ds es)).map fun j : Nat => V.int (j : Int)) ++ [.int (j : Int)]))) q = some (.lst zs) := by rw [upd_ne qtk]; exact hq4
          have htk5 : (upd H4 tk (.lst ((((List.range i).filterMap (findD pl ds es)).map fun j : Nat => V.int (j : Int)) ++ [.int (j : Int)]))) tk = some (.lst ((((List.range i).filterMap (findD pl ds es)).map fun j : Nat => V.int (j : Int)) ++ [.int (j : Int)])) := upd_same
          generalize (upd H4 tk (.lst ((((List.range i).filterMap (findD pl ds es)).map fun j : Nat => V.int (j : Int)) ++ [.int (j : Int)]))) = H5 at nl5 e05 hq5 htk5 ⊢
          refine q_seq ⟨_, rfl, .inl ⟨rfl, _, Evl.sq_of hq5⟩, _, rfl, _, rfl, o, xs, (j : Int), .ref tj, rfl, rfl, Evl.sq_of (e05 _ _ ho), atI_nat hxj, _, rfl, _, rfl, nw, ys, (i : Int), .ref ti, rfl, rfl, Evl.sq_of (e05 _ _ hnw), atI_nat hyi, (by show 2 ≤ sizeLine; decide), fun tp htp => ?_⟩
          have e6 := Ex.new (o := .tup [.ref tj, .ref ti]) htp
          have hq6 := e6 _ _ hq5
          refine ⟨q, zs, .ref tp, rfl, rfl, hq6, Evl.sz_lt (by omega), ?_⟩
          have nl7 := (nl5.trans (Nl.of e6)).trans (Nl.upd (o := .lst (zs ++ [.ref tp])) hq6)
          have e07 := Ex.mut (o := .lst (zs ++ [.ref tp])) (e05.trans e6) hq
          have hq7 : (upd (upd H5 tp (.tup [.ref tj, .ref ti])) q (.lst (zs ++ [.ref tp]))) q = some (.lst (zs ++ [.ref tp])) := upd_same
          have htk7 : (upd (upd H5 tp (.tup [.ref tj, .ref ti])) q (.lst (zs ++ [.ref tp]))) tk = some (.lst ((((List.range i).filterMap (findD pl ds es)).map fun j : Nat => V.int (j : Int)) ++ [.int (j : Int)])) := by rw [upd_ne qtk.symm]; exact e6 _ _ htk5
          have htp7 : (upd (upd H5 tp (.tup [.ref tj, .ref ti])) q (.lst (zs ++ [.ref tp]))) tp = some (.tup [.ref tj, .ref ti]) := by
            rw [upd_ne (fun e => by rw [e, hq5] at htp; cases htp)]; exact upd_same
          generalize (upd (upd H5 tp (.tup [.ref tj, .ref ti])) q (.lst (zs ++ [.ref tp]))) = H7 at nl7 e07 hq7 htk7 htp7 ⊢
          refine ⟨_, rfl, _, rfl, _, rfl, o, xs, (j : Int), .ref tj, rfl, rfl, Evl.sq_of (e07 _ _ ho), atI_nat hxj, tj, _, 3, .ref bj, rfl, rfl, Evl.st_of (e07 _ _ htj), rfl, _, rfl, _, rfl, nw, ys, (i : Int), .ref ti, rfl, rfl, Evl.sq_of (e07 _ _ hnw), atI_nat hyi, ti, _, 3, .ref bi, rfl, rfl, Evl.st_of (e07 _ _ hti), rfl, _, rfl, bj, bi, nj, ni, pl, S1, S2, belowD (ds.getD j .non), belowD (es.getD i .non), rfl, rep_ex e07 rbj, rep_ex e07 rbi, bn1, bn2, bl1, bl2, by omega, fun H8 q8 zs8 e8 hq80 hq8 p8 => ?_⟩
          have lz8 : zs8.length ≤ bnd m := by rw [← pair_len p8]; exact pairs_len bl2 bn2
          refine ⟨q, q8, zs ++ [.ref tp], zs8, rfl, rfl, e8 _ _ hq7, hq8, Evl.sz_of (by rw [List.length_append]; show zs.length + 1 + zs8.length ≤ 100000; omega), fun p hp => ?_⟩
          have e9 := Ex.new (o := .lst ((zs ++ [.ref tp]) ++ zs8)) hp
          have e08 := e07.trans e8
          refine ⟨p, (zs ++ [.ref tp]) ++ zs8, _, _, rfl, e08.trans e9, Evl.fresh_back e08 hp, fun e => (by rw [e, e8 _ _ htk7] at hp; cases hp), upd_same, ?_, ?_, ?_⟩
          · rw [List.range_succ, List.filterMap_append, List.filterMap_cons, hf, List.filterMap_nil, List.map_append]
            exact (e8.trans e9) _ _ htk7
          · rw [List.range_succ, List.flatMap_append, List.flatMap_cons, List.flatMap_nil, List.append_nil, hf, List.append_assoc]
            rw [List.append_assoc] at e9
            refine pair_app (pair_imp pz fun a b h => h.nl ((nl7.trans (Nl.of e8)).trans (Nl.of e9))) (.cons ⟨tp, tj, ti, _, _, _, _, _, _, _, _, rfl, (e8.trans e9) _ _ htp7, (e08.trans e9) _ _ htj, (e08.trans e9) _ _ hti, rep_lv 3 (by decide) (own_kd ndj) (rep_key (own_kd ndj) (rep_ex (e08.trans e9) roj)), rep_lv 3 (by decide) (own_kd ndi) (rep_key (own_kd ndi) (rep_ex (e08.trans e9) roi)), isN_rep rkj⟩ (pair_imp p8 fun a b h => h.nl (Nl.of e9)))
          · rw [List.length_append, List.length_append]
            show zs.length + 1 + zs8.length ≤ (i + 1) * (1 + bnd m)
            rw [Nat.succ_mul]; omega
      · obtain ⟨q, zs, o5, o6, rfl, ex, hq, qtk, hqx, htkx, pz, lz⟩ := pv
        rw [Int.toNat_natCast] at pz
        have e : ((List.range es.length).flatMap fun k => pairAt (pairsD pl (m - 1)) ds es k (findD pl ds es k)) = pairsD pl m ds es := by
          cases m with
          | zero =>
            cases es with
            | nil => rfl
            | cons d es => exact (nes d List.mem_cons_self).elim
          | succ m => rfl
        rw [e] at pz
        exact Evl.s_ret (Evl.ev_var rfl) fun H9 e9 => k H9 q zs (ex.trans e9) hq (e9 _ _ hqx) (pair_imp pz fun a b h => h.nl (Nl.of e9))
end
end Pk

namespace Pk
open PySem PySem.Spec PyProof.Rows L2 Ssb
open Evl (Ex Ev EvT EvL EvA EvU)
/-! ### trees of nodes as the data say -/
theorem kd_kn : ∀ {k n : Nat} {d : D}, kdD k d → kn n d
  | _, 0, .non, _ => trivial
  | _, 0, .int _, _ => trivial
  | _, 0, .str _, _ => trivial
  | _, 0, .tup _, _ => trivial
  | 0, 0, .lst _, h => h.elim
  | _ + 1, 0, .lst _, h => h.elim
  | _, _ + 1, .non, _ => trivial
  | _, _ + 1, .int _, _ => trivial
  | _, _ + 1, .str _, _ => trivial
  | 0, _ + 1, .tup _, h => h.elim
  | k + 1, n + 1, .tup l, h => fun x hx => kd_kn (h x hx)
  | k, _ + 1, .lst _, h => by cases k <;> exact h.elim
  | k, n, .bl _, h => by cases k <;> exact h.elim
  | k, n, .dic _, h => by cases k <;> exact h.elim
section
variable {P : Program} {w : World} {K : PySem.W.Frag} {mg : Str → Option Value} {base : Heap} {C_Node C_Rule C_InvalidRule : Addr}
theorem ty_node (T : Txt K mg C_Node C_Rule C_InvalidRule) {H : Hp} {p dx : Addr} {fs : List (Str × V)} (h : H p = some (.ins C_Node dx fs)) : TyX K H (.ref p) (.ref C_Node) := .base (.ins h T.cl_Node T.kl_Node T.gt_cls T.tk_cls T.km_Node)
def spTSame (C : Addr) (K : PySem.W.Frag) : Nat → Sp
  | 0 => fun _ _ _ _ => False
  | m + 1 => fun vs H Q _ => ∃ (a e n : Addr) (nn : Nat) (S : Addr → Prop) (ds : List D) (ys : List V), vs = [.ref a, .ref e] ∧ H a = some (.lst ys) ∧ Paired (fun d x => NodeR C K H m d x) ds ys ∧ Rep H nn S (.lst ds) (.ref e) ∧ (∀ d ∈ ds, NdD m d) ∧ ds.length ≤ 24 ∧ ∀ H', Ex H H' → Q (.bl true) H'
theorem ok__law_tree_same (T : Txt K mg C_Node C_Rule C_InvalidRule) (R : Prg K mg C_Node C_Rule C_InvalidRule) : ∀ m, ∃ f fd, Fn P w K mg base "_law_tree_same" (m + 7) ["_law_actual", "_law_expected"] (spTSame C_Node K m) f fd
  | 0 => by
    obtain ⟨f, fd, at_, F, kp⟩ := R._law_tree_same
    exact ⟨f, fd, F.ok sc__law_tree_same (fun vs H Q E h => h.elim) (fun cdv A outer s H vs Q E hr h => h.elim), at_, kp, F.binds (fun _ _ _ _ _ _ us hl => match us, hl with | [_, _], _ => rfl)⟩
  | m + 1 => by
    obtain ⟨_, _, G__law_tree_same⟩ := ok__law_tree_same T R m
    obtain ⟨_, _, G__law_same⟩ := ok__law_same (P := P) (w := w) (base := base) T R 5
    obtain ⟨_, _, G_Node_below⟩ := ok_Node_below (P := P) (w := w) (base := base) T R
    obtain ⟨f, fd, at_, F, kp⟩ := R._law_tree_same
    refine ⟨f, fd, F.ok sc__law_tree_same (fun vs H Q E h => ?_) (fun cdv A outer s H vs Q E hr h => ?_), at_, kp, F.binds (fun _ _ _ _ _ _ us hl => match us, hl with | [_, _], _ => rfl)⟩
    · obtain ⟨a, e, n, nn, S, ds, ys, rfl, _⟩ := h; rfl
    · obtain ⟨a, e, _, nn, S, ds, ys, rfl, ha, pr, re, nds, l1, k⟩ := h
      refine ⟨_, (pss_cons (ps_if (PW.pt (pw_or (pt_not (pt_val (pe_callB (r := rIsi K) call_isi (by rfl) T.isinstance (by decide +kernel) (pa_cons (pv 0) (pa_cons (pe_bltn (v := .ty "list") (by rfl) T.list boot_list rfl) pa_nil))))) (pw_or1 (pt_cmpR op_ne (pe_callB (r := rLenA K) call_len (by rfl) T.len (by decide +kernel) (pa_cons (pv 0) pa_nil)) (pe_callB (r := rLenA K) call_len (by rfl) T.len (by decide +kernel) (pa_cons (pv 1) pa_nil)) (nomark _))))) pss_never pss_nil)
  (pss_cons (ps_for PassesOwn.never rfl (pi_range1 (by rfl) T.range (pa_cons (pe_callB (r := rLenA K) call_len (by rfl) T.len (by decide +kernel) (pa_cons (pv 1) pa_nil)) pa_nil)) (pg_name (i := 2) sc__law_tree_same.nd rfl (Or.inl rfl))
    (pss_cons (ps_set (i := 3) sc__law_tree_same.nd rfl (Or.inl rfl) (pe_ix (r := rIxL K) ix_list (pv 0) (pv 2) (fun _ _ => rfl)))
  (pss_cons (ps_if (pt_not (pt_val (pe_callB (r := rIsi K) call_isi (by rfl) T.isinstance (by decide +kernel) (pa_cons (pv 3) (pa_cons (pe_glob (v := .ref C_Node) rfl T.at_Node rfl) pa_nil))))) pss_never pss_nil)
  (pss_cons (ps_if (pt_not (pt_val (pcl G__law_same hr (pa_cons (pe_tup (pa_cons (show PE _ _ (tFld K _ _) from pe_fld (pv 3) rfl) (pa_cons (show PE _ _ (tFld K _ _) from pe_fld (pv 3) rfl) (pa_cons (show PE _ _ (tFld K _ _) from pe_fld (pv 3) rfl) pa_nil)))) (pa_cons (pe_slice (r := rSlT K) sl_tup (pe_ix (r := rIxL K) ix_list (pv 1) (pv 2) (fun _ _ => rfl)) po_none (po_some pe_int)) pa_nil))))) pss_never pss_nil)
  (pss_one (ps_if (pt_not (pt_val (pcl G__law_tree_same hr (pa_cons (pmt0 (pv 3) T.cl_Node G_Node_below hr) (pa_cons (pe_ix (r := rIxT K) ix_tup (pe_ix (r := rIxL K) ix_list (pv 1) (pv 2) (fun _ _ => rfl)) pe_int (fun _ _ => rfl)) pa_nil))))) pss_never pss_nil))))))
  (pss_one (ps_ret pe_bl)))), ?_⟩
      obtain ⟨xs, he, lx, ax⟩ := node_at re nds
      have ly := pair_len pr
      refine Evl.q_when (b := false) (Evl.et_or (a := false) (b := false) (Evl.et_is (Evl.et_not (a := true) (Evl.et_B ?_)) rfl) fun _ => Evl.et_is (Evl.et_test (Evl.ev_op (ev_lenL (Evl.ev_var rfl) (.inl (Evl.sq_of ha))) (ev_lenL (Evl.ev_var rfl) (.inl (Evl.sq_of he))) (Evl.rv_ne rfl))) (by rw [lx, ly, decide_eq_true rfl]; rfl)) (fun h => nomatch h) fun _ H1 e1 => ?_
      · exact ev_isi (Evl.ev_var rfl) (fun H1 e1 => .base (.lst (e1 _ _ ha))) (kit_ty (a := "list") (by decide +kernel))
      refine Evl.q_forR1 (n := (ds.length : Int)) (Evl.ea_cons (Evl.ev_is (ev_lenL (Evl.ev_var rfl) (.inl (Evl.sq_of (e1 _ _ he)))) (by rw [lx])) Evl.ea_nil) ⟨by omega, by omega⟩ (fun i σ' Hx => ∃ o2 o3 : Option V, σ' = [some (.ref a), some (.ref e), o2, o3] ∧ Ex H Hx) (fun Hx ex => ⟨_, _, rfl, e1.trans ex⟩) (fun i σ' Hx hi pv => ?_) fun σ' Hx pv => ?_
      · obtain ⟨o2, o3, rfl, ex⟩ := pv
        have il : i < ds.length := by omega
        obtain ⟨gi, ndi⟩ := nd_at nds il
        obtain ⟨y, hy, ry⟩ := pair_at pr gi
        obtain ⟨t, kv, kyv, ov, ba, n1, hxi, ht, r1, r2, r3, r4⟩ := ax i il
        cases m with
        | zero => exact ndi.elim
        | succ m =>
        obtain ⟨bl1, bn1⟩ := nd_below ndi
        have k3 := own_kd ndi
        obtain ⟨hkd, hky⟩ := nd_kk ndi
        have ry' := ry
        obtain ⟨kd, ky, ow, bl, na, dx, vk, vq, vo, tt, ws, hd, rfl, hna, ⟨m1, s1⟩, ⟨m2, s2⟩, ⟨m3, s3⟩, _⟩ := ry
        rw [hd] at r1 r2 r3 r4 k3 hkd hky
        have r1 : Rep H n1 S kd kv := r1
        have r2 : Rep H n1 S ky kyv := r2
        have r3 : Rep H n1 S ow ov := r3
        have k3 : kdD 3 ow := k3
        have hkd : kd = .non ∨ ∃ s, kd = .str s := hkd
        have hky : KyD ky := hky
        refine Evl.q_asg (Evl.ev_op (Evl.ev_var rfl) (Evl.ev_var rfl) (Evl.rv_ixL (Evl.sq_of (ex _ _ ha)) (atI_nat hy))) fun H2 e2 => ?_
        have e02 := ex.trans e2
        refine Evl.q_when (b := false) (Evl.et_is (Evl.et_not (a := true) (Evl.et_B ?_)) rfl) (fun h => nomatch h) fun _ H3 e3 => ?_
        · exact fun H4 e4 Q q => ⟨_, rfl, .ref na, .ref C_Node, .ref C_Node, .ref C_Node, true, rfl, .own C_Node, ty_node T ((e02.trans e4) _ _ hna), T.se_Node, q H4 (Ex.refl _)⟩
        have e03 := e02.trans e3
        refine Evl.q_when (b := false) (Evl.et_is (Evl.et_not (a := true) (Evl.et_B ?_)) rfl) (fun h => nomatch h) fun _ H4 e4 => ?_
        · intro H4 e4 Q q
          have e04 := e03.trans e4
          refine ⟨_, rfl, na, C_Node, dx, _, vk, rfl, e04 _ _ hna, T.cl_Node, T.no_Node_kind, rfl, _, rfl, na, C_Node, dx, _, vq, rfl, e04 _ _ hna, T.cl_Node, T.no_Node_key, rfl, _, rfl, na, C_Node, dx, _, vo, rfl, e04 _ _ hna, T.cl_Node, T.no_Node_owner, rfl, (by show 3 ≤ sizeLine; decide), fun t1 h1 => ?_⟩
          have e5 := Ex.new (o := .tup [vk, vq, vo]) h1
          have e05 := e04.trans e5
          refine ⟨_, rfl, _, rfl, e, xs, (i : Int), .ref t, rfl, rfl, Evl.sq_of (e05 _ _ he), atI_nat hxi, 3, rfl, t, _, rfl, Evl.st_of (e05 _ _ ht), (by show ¬ (HT.sIx 4 0 none = 0 ∧ HT.sIx 4 4 (some 3) = 4); decide), fun t2 h2 => ?_⟩
          have e6 := Ex.new (o := .tup (cutV [kv, kyv, ov, V.ref ba] none (some 3))) h2
          have e06 := e05.trans e6
          refine ⟨.ref t1, .ref t2, Fs, Fs, .tup [kd, ky, ow], rfl, ⟨t1, _, rfl, e6 _ _ upd_same, by show 3 ≤ 100000; decide, .cons ?_ (.cons ?_ (.cons ?_ .nil))⟩, ⟨t2, _, rfl, upd_same, by show 3 ≤ 100000; decide, .cons ?_ (.cons ?_ (.cons ?_ .nil))⟩, fun b h => h.elim, fun x hx => ?_, fun H7 e7 => q H7 ((e5.trans e6).trans e7)⟩
          · exact rep_lv 3 (by decide) (kindK hkd) (rep_ex e06 s1)
          · exact rep_lv 3 (by decide) hky.1 (rep_ex e06 s2)
          · exact rep_lv 3 (by decide) k3 (rep_ex e06 s3)
          · exact rep_lv 3 (by decide) (kindK hkd) (rep_key (kindK hkd) (rep_ex e06 r1))
          · exact rep_lv 3 (by decide) hky.1 (rep_key hky.1 (rep_ex e06 r2))
          · exact rep_lv 3 (by decide) k3 (rep_key k3 (rep_ex e06 r3))
          · rcases List.mem_cons.mp hx with rfl | hx
            · exact kd_kn (kindK hkd)
            rcases List.mem_cons.mp hx with rfl | hx
            · exact kd_kn hky.1
            · rw [List.mem_singleton.mp hx]; exact kd_kn k3
        have e04 := e03.trans e4
        refine Evl.s_when (b := false) (Evl.et_is (Evl.et_not (a := true) (Evl.et_B ?_)) rfl) (fun h => nomatch h) fun _ H5 e5 => ⟨_, _, rfl, e04.trans e5⟩
        intro H5 e5 Q q
        have e05 := e04.trans e5
        refine ⟨_, rfl, na, dx, _, rfl, e05 _ _ hna, rfl, .ref na, m, ds.getD i .non, rfl, NodeR.ex e05 ry', fun H6 q6 ys6 e6 hq60 hq6 p6 => ?_⟩
        have e06 := e05.trans e6
        refine ⟨_, rfl, _, rfl, e, xs, (i : Int), .ref t, rfl, rfl, Evl.sq_of (e06 _ _ he), atI_nat hxi, t, _, 3, .ref ba, rfl, rfl, Evl.st_of (e06 _ _ ht), rfl, q6, ba, q6, n1, S, belowD (ds.getD i .non), ys6, rfl, hq6, p6, rep_ex e06 (by rw [hd]; exact r4), bn1, bl1, fun H7 e7 => q H7 (e6.trans e7)⟩
      · obtain ⟨o2, o3, rfl, ex⟩ := pv
        exact Evl.s_ret Evl.ev_c fun H9 e9 => k H9 (ex.trans e9)
end
end Pk

/-! key != tuple; key not in a list of keys. -/
namespace Ssb
open PySem PySem.Spec PyProof.Rows L2
theorem nk_rcNe {A : Around} {s : Shared} {x : NestedKey} {ys : List NestedKey} {a b : Value} (hx : NKey s.heap x a) (hy : NestedIs s.heap (.tup ys) b) (dy : (NestedKey.tup ys).depth ≤ 8) (hu : A.units + 10 < cLine) : PySem.SeqAt.RcNeAt A s a b (!decide (x = .tup ys)) := by
  cases hy with
  | @tup l' o' vs' n' _ k1 k2 k3 k4 =>
  have hl' : s.heap.IsTuple l' vs' := ⟨_, k1, k2, _, k3⟩
  rcases hx with ⟨hx, dx, np⟩
  cases hx with
  | none => rw [decide_eq_false (fun e => nomatch e)]; exact PySem.SeqAt.RcNeAt.none_tuple hl' (by omega)
  | bool e => rcases np with h | ⟨_, h⟩ <;> cases h
  | int i t => rcases np with h | ⟨_, h⟩ <;> cases h
  | text z t => rcases np with h | ⟨_, h⟩ <;> cases h
  | @tup l o vs n xs h1 h2 h3 h4 =>
    have hl : s.heap.IsTuple l vs := ⟨_, h1, h2, _, h3⟩
    have n1 : vs.size = xs.length := by simpa using NestedAll.length _ _ h4
    have n2 : vs'.size = ys.length := by simpa using NestedAll.length _ _ k4
    rw [NestedKey.decide_eq]
    show PySem.SeqAt.RcNeAt A s (.ref l) (.ref l') (!NestedKey.beqAll xs ys)
    rw [← beqAll_eq xs ys, ← n1, ← n2]
    refine PySem.SeqAt.RcNeAt.tuples hl hl' (by omega) fun j j1 j2 => ?_
    have dx : NestedKey.depthAll xs + 1 ≤ 8 := dx
    have := eqAt_keys xs ys A.in1 s vs.toList vs'.toList h4 k4 (by show A.units + 1 + _ < cLine; omega) j (by simpa using j1) (by simpa using j2)
    simpa using this
def rNeK : R2 := fun x y H Q => ∃ d l, KeyV H d x ∧ KeyV H (.tup l) y ∧ Q (.bl (!decide (nkD d = nkD (.tup l)))) H
def rNInLK : R2 := fun x y H Q => ∃ d b ds ys, y = .ref b ∧ KeyV H d x ∧ H b = some (.lst ys) ∧ Paired (fun d v => KeyV H d v) ds ys ∧ Q (.bl (!ds.any fun e => decide (nkD e = nkD d))) H
section
variable {X : Cx}
theorem op_neK (hu : X.A.units + 20 < cLine) : OpR X (compareOp .NotEq) rNeK := by
  intro pins s σ H x y xv yv Q I rx ry ⟨d, l, kx, ky, q⟩
  have hx := key_n I.hok kx rx
  have hy := key_n I.hok ky ry
  have e : nkD (.tup l) = .tup (nkL l) := by rw [nkD]
  rw [e] at hy q
  exact nk_rcNe hx hy.1 hy.2.1 (by omega) _ _ _ _ ⟨.bl _, H, I, rfl, q⟩
theorem op_ninLK (hu : X.A.units + 20 < cLine) : OpR X (compareOp .NotIn) rNInLK := by
  intro pins s σ H x y xv yv Q I rx ry ⟨d, b, ds, ys, ey, kx, hb, pr, q⟩
  cases ey
  obtain rfl : yv = Value.ref b := ry
  obtain ⟨_, its, n, rv, hg⟩ := (show ObjOk X.prog X.w H s.heap b (.lst ys) from I.hok b _ hb)
  have hx := key_n I.hok kx rx
  have key : ∀ {ds : List D} {ys : List V} {its : List Value}, Paired (fun d v => KeyV H d v) ds ys → Vals ys its → ∃ zs : List (D × Value), zs.map (·.1) = ds ∧ zs.map (·.2) = its ∧ ∀ z ∈ zs, NKey s.heap (nkD z.1) z.2 := by
    intro ds
    induction ds with
    | nil => intro ys its p v; cases p; cases v; exact ⟨[], rfl, rfl, fun _ h => nomatch h⟩
    | cons d ds ih =>
      intro ys its p v
      cases p with
      | cons p1 p =>
      cases v with
      | cons v1 v =>
      obtain ⟨zs, h1, h2, h3⟩ := ih p v
      refine ⟨(d, _) :: zs, by rw [List.map_cons, h1], by rw [List.map_cons, h2], fun z hz => ?_⟩
      rcases List.mem_cons.mp hz with rfl | hz
      · exact key_n I.hok p1 v1
      · exact h3 z hz
  obtain ⟨zs, h1, h2, h3⟩ := key pr rv
  have inj : ∀ z ∈ zs, ∀ z' ∈ zs, z.2 = z'.2 → nkD z.1 = nkD z'.1 := fun z hz z' hz' e => by
    have a1 := (h3 z hz).1
    rw [e] at a1
    exact NestedIs.inj _ _ _ a1 (h3 z' hz').1
  classical
  refine PySem.SeqAt.notIn_listAt (items := its.toArray) (fun v => decide (∃ z ∈ zs, z.2 = v ∧ nkD z.1 = nkD d)) ⟨_, hg, rfl, n, rfl⟩ (fun v hv => ?_) ⟨.bl _, H, I, rfl, ?_⟩
  · have hv : v ∈ its := by simpa using hv
    rw [← h2] at hv
    obtain ⟨z, hz, rfl⟩ := List.mem_map.mp hv
    have := nk_eq (A := X.A.in1) (s := s) (h3 z hz) hx (by show X.A.units + 1 + 10 < cLine; omega)
    have e : decide (∃ z' ∈ zs, z'.2 = z.2 ∧ nkD z'.1 = nkD d) = decide (nkD z.1 = nkD d) := by
      rw [Bool.eq_iff_iff, decide_eq_true_eq, decide_eq_true_eq]
      exact ⟨fun ⟨z', hz', e1, e2⟩ => (inj z hz z' hz' e1.symm).trans e2, fun e => ⟨z, hz, rfl, e⟩⟩
    rw [e]; exact this
  · have e : its.toArray.any (fun v => decide (∃ z ∈ zs, z.2 = v ∧ nkD z.1 = nkD d)) = ds.any fun e => decide (nkD e = nkD d) := by
      rw [List.any_toArray, ← h1, ← h2, Bool.eq_iff_iff, List.any_eq_true, List.any_eq_true]
      constructor
      · rintro ⟨v, hv, hh⟩
        obtain ⟨z, hz, _, e2⟩ := of_decide_eq_true hh
        exact ⟨z.1, List.mem_map.mpr ⟨z, hz, rfl⟩, decide_eq_true e2⟩
      · rintro ⟨x, hx', hh⟩
        obtain ⟨z, hz, rfl⟩ := List.mem_map.mp hx'
        exact ⟨z.2, List.mem_map.mpr ⟨z, hz, rfl⟩, decide_eq_true ⟨z, hz, rfl, of_decide_eq_true hh⟩⟩
    rw [e]; exact q
end
end Ssb

namespace Pk
open PySem PySem.Spec PyProof.Rows L2 Ssb
open Evl (Ex Ev EvT EvL EvA EvU)
open Ssp (GPar GFr Beh behL behL_app behL_go behL_done behL_out GFnP GMt RwRy GSsp gss_consp gs_yld gs_forg gs_yf gss_nilp PEp pgm0 tThen tYld tForG tYF tNx)
/-! ### going through the nodes -/
theorem rr_nl : RwRy Nl Ex := ⟨fun H b o h _ => h, fun _ _ _ a b => a.trans b, fun H => Ex.refl H, fun _ _ _ a b => a.trans b, fun _ _ e => Nl.of e, fun H H1 b e hb => by
  cases q : H b with
  | none => exact absurd q hb
  | some o => rw [e b o q]; exact fun z => nomatch z⟩
/-- x and the nodes below it, in order -/
def WalkL (C : Addr) (K : PySem.W.Frag) (H : Hp) : Nat → V → List V → Prop
  | 0, _, _ => False
  | m + 1, x, xs => ∃ a dx vk vq vo t ys yss, x = .ref a ∧ H a = some (.ins C dx (nodeF vk vq vo (.ref t))) ∧ SqT K H t ys ∧ Paired (fun y zs => WalkL C K H m y zs) ys yss ∧ xs = x :: yss.flatten
theorem sqT_nl {K : PySem.W.Frag} {H H' : Hp} {a : Addr} {xs : List V} (e : Nl H H') (h : SqT K H a xs) : SqT K H' a xs := by
  rcases h with (h | ⟨o, h⟩) | h
  · exact .inl (.inl (e _ _ h (fun _ z => nomatch z)))
  · exact .inl (.inr ⟨o, e _ _ h (fun _ z => nomatch z)⟩)
  · exact .inr h
theorem WalkL.nl {C : Addr} {K : PySem.W.Frag} {H H' : Hp} (e : Nl H H') : ∀ {m : Nat} {x : V} {xs : List V}, WalkL C K H m x xs → WalkL C K H' m x xs
  | 0, _, _, h => h.elim
  | m + 1, x, xs, h => by
    obtain ⟨a, dx, vk, vq, vo, t, ys, yss, h1, h2, h3, h4, h5⟩ := h
    exact ⟨a, dx, vk, vq, vo, t, ys, yss, h1, e _ _ h2 (fun _ z => nomatch z), sqT_nl e h3, pair_imp h4 fun _ _ r => WalkL.nl e r, h5⟩
def spWalk (C : Addr) (K : PySem.W.Frag) (m : Nat) : List V → Hp → Beh → Prop := fun vs H b => ∃ x xs, vs = [x] ∧ WalkL C K H m x xs ∧ b = behL xs

/-! ### the nodes of a tree, each before those below it; the owners of its parts -/
def nodesD : Nat → List D → List D
  | 0, _ => []
  | m + 1, ds => ds.flatMap fun d => d :: nodesD m (belowD d)
def isPart (d : D) : Bool := !isNon (kindOf d)
def partsD (m : Nat) (ds : List D) : List D := ((nodesD m ds).filter isPart).map ownD
/-- v is the node of d -/
def NodV (C : Addr) (H : Hp) (d : D) (v : V) : Prop := ∃ a dx vk vq vo t, v = .ref a ∧ H a = some (.ins C dx (nodeF vk vq vo (.ref t))) ∧ decide (vk = .non) = isNon (kindOf d) ∧ kdD 3 (ownD d) ∧ Rep H 4 Fs (ownD d) vo
theorem NodV.ex {C : Addr} {H H' : Hp} {d : D} {v : V} (e : Ex H H') (h : NodV C H d v) : NodV C H' d v :=
  let ⟨a, dx, vk, vq, vo, t, h1, h2, h3, h4, h5⟩ := h; ⟨a, dx, vk, vq, vo, t, h1, e _ _ h2, h3, h4, rep_ex e h5⟩
theorem nodV_of {C : Addr} {K : PySem.W.Frag} {H : Hp} {m : Nat} {d : D} {x : V} (hn : NdD (m + 1) d) (h : NodeR C K H (m + 1) d x) : NodV C H d x := by
  have k3 := own_kd hn
  obtain ⟨kd, ky, ow, bl, a, dx, vk, vq, vo, t, ys, rfl, rfl, ha, ⟨n1, rk⟩, _, ⟨_, ro⟩, _⟩ := h
  refine ⟨a, dx, vk, vq, vo, t, rfl, ha, ?_, k3, rep_lv 3 (by decide) k3 ro⟩
  exact isN_rep rk
theorem walks_of {C : Addr} {K : PySem.W.Frag} {H : Hp} : ∀ {m : Nat} {bl : List D} {ys : List V}, (∀ d ∈ bl, NdD m d) → Paired (fun d x => NodeR C K H m d x) bl ys →
    ∃ yss, Paired (fun y zs => WalkL C K H m y zs) ys yss ∧ Paired (NodV C H) (nodesD m bl) yss.flatten
  | 0, _, _, hn, .nil => ⟨[], .nil, .nil⟩
  | 0, d :: _, _, hn, .cons h _ => h.elim
  | m + 1, _, _, hn, .nil => ⟨[], .nil, .nil⟩
  | m + 1, d :: bl, y :: ys, hn, .cons h t => by
    have nd := hn d List.mem_cons_self
    have nv := nodV_of nd h
    obtain ⟨kd, ky, ow, bd, a, dx, vk, vq, vo, t1, ys1, rfl, rfl, ha, _, _, _, ht, pb⟩ := h
    obtain ⟨zss, h1, h2⟩ := walks_of (nd_below nd).2 pb
    obtain ⟨yss, h3, h4⟩ := walks_of (fun x hx => hn x (List.mem_cons_of_mem _ hx)) t
    refine ⟨(.ref a :: zss.flatten) :: yss, .cons ⟨a, dx, vk, vq, vo, t1, ys1, zss, rfl, ha, ht, h1, rfl⟩ h3, ?_⟩
    exact .cons nv (pair_app h2 h4)
theorem nodes_one {m : Nat} {d : D} : nodesD (m + 1) [d] = d :: nodesD m (belowD d) := by
  show List.flatMap _ [d] = _
  rw [List.flatMap_cons, List.flatMap_nil, List.append_nil]
theorem nodes_app {m : Nat} {xs ys : List D} : nodesD m (xs ++ ys) = nodesD m xs ++ nodesD m ys := by
  cases m with
  | zero => rfl
  | succ m => exact List.flatMap_append
theorem owns_nodes : ∀ {m : Nat} {ds : List D}, ownsD m ds = (nodesD m ds).map ownD
  | 0, _ => rfl
  | m + 1, ds => by
    show ds.flatMap (fun d => ownD d :: ownsD m (belowD d)) = (ds.flatMap fun d => d :: nodesD m (belowD d)).map ownD
    rw [List.map_flatMap]
    congr 1
    funext d
    rw [List.map_cons, owns_nodes]
theorem parts_app {m : Nat} {xs ys : List D} : partsD m (xs ++ ys) = partsD m xs ++ partsD m ys := by
  unfold partsD
  rw [nodes_app, List.filter_append, List.map_append]
def cntD : Nat → Nat
  | 0 => 0
  | m + 1 => 24 * (1 + cntD m)
theorem nodes_len : ∀ {m : Nat} {ds : List D}, ds.length ≤ 24 → (∀ d ∈ ds, NdD m d) → (nodesD m ds).length ≤ cntD m
  | 0, _, _, _ => Nat.zero_le _
  | m + 1, ds, hl, hn => by
    have key : ∀ (l : List D), (∀ d ∈ l, NdD (m + 1) d) → (l.flatMap fun d => d :: nodesD m (belowD d)).length ≤ l.length * (1 + cntD m) := by
      intro l
      induction l with
      | nil => intro _; exact Nat.zero_le _
      | cons d l ih =>
        intro h
        rw [List.flatMap_cons, List.length_append, List.length_cons, List.length_cons, Nat.succ_mul]
        have h1 := ih fun x hx => h x (List.mem_cons_of_mem _ hx)
        obtain ⟨b1, b2⟩ := nd_below (h d List.mem_cons_self)
        have h2 := nodes_len b1 b2
        omega
    exact Nat.le_trans (key ds hn) (Nat.mul_le_mul_right _ hl)
section
variable {P : Program} {w : World} {K : PySem.W.Frag} {mg : Str → Option Value} {base : Heap} {C_Node C_Rule C_InvalidRule : Addr}
theorem ok_walk (T : Txt K mg C_Node C_Rule C_InvalidRule) (R : Prg K mg C_Node C_Rule C_InvalidRule) : ∀ m, ∃ f fd, GMt P w K mg base C_Node "walk" (3 * m) ["self"] Nl Ex (spWalk C_Node K m) f fd
  | 0 => by
    obtain ⟨f, fd, F, fi, isf, kp⟩ := R.Node_walk
    exact ⟨f, fd, ⟨fun vs H b h => by obtain ⟨x, xs, rfl, _⟩ := h; rfl, fun A outer s H args us vs b hr he hb hv hs => by obtain ⟨x, xs, _, h, _⟩ := hs; exact h.elim⟩, ⟨fi, isf, kp⟩, F.binds (fun _ _ _ _ _ _ us hl => match us, hl with | [_], _ => rfl)⟩
  | m + 1 => by
    obtain ⟨_, _, G_walk⟩ := ok_walk T R m
    obtain ⟨f, fd, F, fi, isf, kp⟩ := R.Node_walk
    have Fb := F.binds (ps := ["self"]) (fun _ _ _ _ _ _ us hl => match us, hl with | [_], _ => rfl)
    obtain ⟨oc, od, kV, doc, pm, an, cdv0, ct, osl, rfl, lk, hcd⟩ := F.ex
    refine ⟨f, _, Ssp.gfn_ofP rr_nl lk hcd sc_Node_walk nc_Node_walk (fun vs H b h => by obtain ⟨x, xs, rfl, _⟩ := h; rfl) (fun outer lo L g vs H b hsp gok rok => ?_), ⟨fi, isf, kp⟩, Fb⟩
    refine ⟨_, gss_consp (gs_yld gok rok (fun A sw Hw pn hr => PEp.up (pv 0)) rfl rfl) (gss_consp (gs_forg rok (fun A sw Hw pn hr => show L2.PI _ _ _ (iTup K _) from pi_tup (show PE _ _ (tFld K _ _) from pe_fld (pv 0) rfl)) (fun A sw Hw pn hr => pg_name (i := 1) sc_Node_walk.nd rfl (Or.inl rfl)) (gss_consp (gs_yf (k1 := 3 * m) gok rok (Nat.le_refl _) (fun A sw Hw pn hr => pgm0 (PEp.up (pv 1)) T.cl_Node G_walk (hr.deeper _) (by show 3 * m + 1 ≤ 3 * (m + 1); omega)) rfl) gss_nilp) (fun x => rfl)) gss_nilp), fun H2 hw => ?_⟩
    obtain ⟨x, xs, rfl, hx, rfl⟩ := hsp
    obtain ⟨a, dx, vk, vq, vo, t, ys, yss, rfl, ha, ht, pw, rfl⟩ := hx.nl hw
    have ly := pair_len pw
    refine ⟨.ref a, rfl, Ex.refl _, fun v _ => v = .ref a, behL yss.flatten, rfl, rfl, .inr fun H3 hw3 => ?_⟩
    refine ⟨.ref a, rfl, a, C_Node, dx, _, .ref t, rfl, hw3 _ _ ha (fun _ z => nomatch z), T.cl_Node, T.no_Node_inside, rfl, t, rfl, ⟨ys, sqT_nl hw3 ht⟩, fun i n b σ H' Hw => n = ys.length - i ∧ i ≤ ys.length ∧ b = behL (yss.drop i).flatten ∧ (∃ o1, σ = [some (.ref a), o1]) ∧ Nl H2 H' ∧ Ex Hw H', ⟨_, rfl, Nat.zero_le _, rfl, ⟨_, rfl⟩, hw3, Ex.refl _⟩, ?_⟩
    rintro i n b σ H4 Hw4 ⟨rfl, hi, rfl, ⟨o1, rfl⟩, e24, ew⟩
    by_cases hlt : i < ys.length
    · obtain ⟨y, hy⟩ : ∃ y, ys[i]? = some y := ⟨ys[i], List.getElem?_eq_getElem hlt⟩
      obtain ⟨zs, hz, wz⟩ := pair_at pw hy
      refine .inr ⟨⟨ys, y, sqT_nl e24 ht, hy⟩, fun b' σ' H' Hw' => b' = behL (yss.drop (i + 1)).flatten ∧ (∃ o1, σ' = [some (.ref a), o1]) ∧ Nl H2 H' ∧ Ex Hw' H', fun b' σ' H' Hw' ⟨q1, q2, q3, q4⟩ => ⟨ys.length - (i + 1), by omega, rfl, hlt, q1, q2, q3, q4⟩, fun x H' yl => ?_⟩
      obtain ⟨rfl, yl⟩ := yl
      have hx := yl ys (sqT_nl e24 ht)
      rw [hy] at hx
      cases hx
      have wz4 := wz.nl e24
      cases m with
      | zero => exact wz4.elim
      | succ m =>
      obtain ⟨a2, dx2, vk2, vq2, vo2, t2, ys2, yss2, rfl, ha2, _⟩ := id wz4
      have dr : (yss.drop i).flatten = zs ++ (yss.drop (i + 1)).flatten := by
        rw [← List.getElem_cons_drop (as := yss) (i := i) (by rw [← ly]; exact hlt), List.flatten_cons]
        congr 1
        have := List.getElem?_eq_getElem (l := yss) (i := i) (by rw [← ly]; exact hlt)
        rw [hz] at this
        exact (Option.some.inj this).symm
      refine ⟨.ref a2, rfl, a2, dx2, _, rfl, ha2, rfl, behL zs, ⟨.ref a2, zs, rfl, wz4, rfl⟩, behL_go, ew, behL (yss.drop (i + 1)).flatten, by rw [dr, behL_app], fun H5 Hw5 r5 y5 => ⟨rfl, ⟨_, rfl⟩, e24.trans r5, y5⟩⟩
    · have e : i = ys.length := by omega
      subst e
      exact .inl ⟨⟨ys, sqT_nl e24 ht, Nat.le_refl _⟩, by rw [List.drop_of_length_le (by omega)]; rfl, ew⟩
end
end Pk

namespace Pk
open PySem PySem.Spec PyProof.Rows L2 Ssb
open Evl (Ex Ev EvT EvL EvA EvU)
open Ssp (Beh behL behL_app behL_go behL_done behL_out GMt RwRy PEp PTp PSsp PSp PAp PTsp PWp PIp pgm0 pe_lc2G pe_callBP pa_consP pa_nilP ps_retP pss_oneP pss_consP ps_ifP pt_notP pt_valP pw_orP pw_or1P pclG pclQ FnQ FnP)
/-! ### the owners of the parts -/
theorem walk_one {C : Addr} {K : PySem.W.Frag} {H : Hp} {m : Nat} {d : D} {x : V} (hn : NdD m d) (h : NodeR C K H m d x) : ∃ ws, WalkL C K H m x ws ∧ Paired (NodV C H) (nodesD m [d]) ws := by
  obtain ⟨yss, h1, h2⟩ := walks_of (bl := [d]) (ys := [x]) (fun z hz => by rw [List.mem_singleton.mp hz]; exact hn) (.cons h .nil)
  cases h1 with
  | cons w t =>
  cases t
  rw [List.flatten_cons, List.flatten_nil, List.append_nil] at h2
  exact ⟨_, w, h2⟩
section
variable {P : Program} {w : World} {K : PySem.W.Frag} {mg : Str → Option Value} {base : Heap} {C_Node C_Rule C_InvalidRule : Addr}
theorem cx0 : ∀ (outer : List Env) (H : Hp) (s : Shared) (E : XK) (e : Value) (s2 : Shared) (G : Array GenState), CX0 outer H s E e s2 → (AllBare s2.gens → AllBare G) → CX0 outer H s E e { s2 with gens := G } := fun _ _ _ _ _ _ _ h _ => h
def spPO (C : Addr) (K : PySem.W.Frag) (m : Nat) : Sp := fun vs H Q _ => ∃ (l : Addr) (ds : List D) (xs : List V), vs = [.ref l] ∧ H l = some (.lst xs) ∧ Paired (fun d x => NodeR C K H m d x) ds xs ∧ (∀ d ∈ ds, NdD m d) ∧ ds.length ≤ 24 ∧ cntD m ≤ 30000 ∧
  ∀ H' q zs, Ex H H' → H q = none → H' q = some (.lst zs) → Paired (fun d z => Rep H' 4 Fs d z) (partsD m ds) zs → Q (.ref q) H'
theorem ok_part_owners (T : Txt K mg C_Node C_Rule C_InvalidRule) (R : Prg K mg C_Node C_Rule C_InvalidRule) (m : Nat) : ∃ f fd, FnQ P w K mg base "part_owners" (3 * m + 5) ["nodes"] (spPO C_Node K m) f fd := by
  obtain ⟨_, _, G_walk⟩ := ok_walk (P := P) (w := w) (base := base) T R m
  obtain ⟨f, fd, at_, F, kp⟩ := R.part_owners
  have Fb := F.binds (ps := ["nodes"]) (fun _ _ _ _ _ _ us hl => match us, hl with | [_], _ => rfl)
  obtain ⟨oc, od, kV, doc, pm, an, cdv0, ct, osl, rfl, lk, hcd⟩ := F.ex
  refine ⟨f, _, Ssp.fn_ofP (k := 3 * m + 4) cx0 lk hcd sc_part_owners (fun vs H Q E h => by obtain ⟨l, ds, xs, rfl, _⟩ := h; rfl) (fun A outer s H vs Q E hr hsp => ?_), at_, kp, Fb⟩
  refine ⟨_, pss_oneP (ps_retP (pe_lc2G (X := cxOf CX0 P w K mg base ["nodes", "top", "node"] "part_owners" (defScope s_part_owners) f cdv0 A outer s H E) (k := 3 * m) (own := [("top", 1), ("node", 2)]) (vs1 := [2]) rr_nl rfl sc_part_owners.nd (hr.mono (by omega))
    (PIp.up (show PI _ _ _ (iList K _) from pi_list (pv 0))) (blkOk_by (own := [("top", 1), ("node", 2)]) (N := ["nodes", "top", "node"]) (sc := defScope s_part_owners) (by decide +kernel)) (by decide)
    (fun _ _ _ _ _ => pg_name (i := 1) sc_part_owners.nd rfl (Or.inl rfl)) (fun _ _ _ _ _ => PTsp.up pts_nil) (fun _ _ _ _ _ => pgm0 (PEp.up (pv 1)) T.cl_Node G_walk hr (by omega)) (fun _ _ _ _ _ => pg_name (i := 2) sc_part_owners.nd rfl (Or.inl rfl))
    (fun _ _ _ _ _ => PTsp.up (pts_one (pt_cmpR op_notN (show PE _ _ (tFld K _ _) from pe_fld (pv 2) rfl) pe_non (nomark _)))) (fun _ _ _ _ _ => PEp.up (show PE _ _ (tFld K _ _) from pe_fld (pv 2) rfl)))), ?_⟩
  obtain ⟨l, ds, xs, rfl, hl, pr, nds, ld, hc, k⟩ := hsp
  have lx := pair_len pr
  have nl := nodes_len ld nds
  refine ⟨_, rfl, l, rfl, ⟨xs, Evl.sq_of hl⟩, fun D hD => ⟨fun i n H' => n = xs.length - i ∧ i ≤ xs.length ∧ Ex H H' ∧ ∃ zs, H' D = some (.lst zs) ∧ Paired (fun d z => Rep H' 4 Fs d z) (partsD m (ds.take i)) zs, ⟨_, rfl, Nat.zero_le _, Ex.new hD, [], upd_same, ?_⟩, ?_⟩⟩
  · have : partsD m (ds.take 0) = [] := by cases m <;> rfl
    rw [this]; exact .nil
  rintro i n H1 ⟨rfl, hi, e1, zs, hz, pz⟩
  have sq1 := Evl.sq_of (K := K) (e1 _ _ hl)
  by_cases hlt : i < xs.length
  · obtain ⟨x, hx⟩ : ∃ x, xs[i]? = some x := ⟨xs[i], List.getElem?_eq_getElem hlt⟩
    refine .inr ⟨⟨xs, x, sq1, hx⟩, fun H' => Ex H H' ∧ ∃ zs, H' D = some (.lst zs) ∧ Paired (fun d z => Rep H' 4 Fs d z) (partsD m (ds.take (i + 1))) zs, fun H' ⟨a, b⟩ => ⟨xs.length - (i + 1), by omega, rfl, hlt, a, b⟩, fun x' H' yl => ?_⟩
    obtain ⟨rfl, yl⟩ := yl
    have hx' := yl xs sq1
    rw [hx] at hx'
    cases hx'
    obtain ⟨d, hd, rn⟩ := pair_back pr hx
    have ndd := nds d (List.mem_of_getElem? hd)
    obtain ⟨ws, wl, nv⟩ := walk_one ndd rn
    have lw := pair_len nv
    have tk : ds.take (i + 1) = ds.take i ++ [d] := by rw [List.take_add_one, hd]; rfl
    refine gname_go ⟨rfl, ?_⟩
    dsimp only [tYes]
    rw [if_pos rfl]
    cases m with
    | zero => exact rn.elim
    | succ m =>
    obtain ⟨kd, ky, ow, bl, a, dx, vk, vq, vo, t, ys, hde, rfl, ha, _⟩ := id rn
    have wl1 : WalkL C_Node K H' (m + 1) (.ref a) ws := wl.nl (Nl.of e1)
    refine ⟨.ref a, rfl, a, dx, _, rfl, e1 _ _ ha, rfl, behL ws, ⟨.ref a, ws, rfl, wl1, rfl⟩, fun b H5 Hy => ∃ j acc, b = behL (ws.drop j) ∧ j ≤ ws.length ∧ Ex H H5 ∧ H5 D = some (.lst acc) ∧ Paired (fun d z => Rep H5 4 Fs d z) (partsD (m + 1) (ds.take i) ++ (((nodesD (m + 1) [d]).take j).filter isPart).map ownD) acc ∧ Nl Hy H5, ⟨0, zs, rfl, Nat.zero_le _, e1, hz, by rw [List.take_zero, List.filter_nil, List.map_nil, List.append_nil]; exact pz, Nl.of (Ex.refl _)⟩, ?_⟩
    rintro b H5 Hy ⟨j, acc, rfl, hj, e5, hz5, pz5, nl5⟩
    refine ⟨nl5, behL_go, fun hdn H6 e6 => ?_, fun y b' ho v H6 e6 hv => ?_⟩
    · have hj' : ws.length ≤ j := List.drop_eq_nil_iff.mp (behL_done hdn)
      have tkw : (nodesD (m + 1) [d]).take j = nodesD (m + 1) [d] := List.take_of_length_le (by omega)
      rw [tkw] at pz5
      refine ⟨e5.trans e6, acc, e6 _ _ hz5, ?_⟩
      rw [tk, parts_app]
      exact pair_imp pz5 fun _ _ h => rep_ex e6 h
    · obtain ⟨v', rs, hrs, rfl, rfl⟩ := behL_out ho
      subst hv
      have hlj : j < ws.length := by
        rcases Nat.lt_or_ge j ws.length with h | h
        · exact h
        · rw [List.drop_of_length_le h] at hrs; cases hrs
      have hv : ws[j]? = some v := by
        have := congrArg List.head? hrs
        rw [List.head?_drop] at this; exact this
      have hr' : ws.drop (j + 1) = rs := by
        have := congrArg List.tail hrs
        rw [List.tail_drop] at this; exact this
      obtain ⟨dv, hdv, a2, dx2, vk2, vq2, vo2, t2, rfl, ha2, hk2, k3, ro⟩ := pair_back nv hv
      have e56 := e5.trans e6
      have tkj : (nodesD (m + 1) [d]).take (j + 1) = (nodesD (m + 1) [d]).take j ++ [dv] := by rw [List.take_add_one, hdv]; rfl
      refine gname_go ⟨rfl, ?_⟩
      refine Evl.et_test (b := isPart dv) (Evl.ev_is (Evl.ev_op (ev_fld (Evl.ev_var rfl) (e56 _ _ ha2) T.cl_Node T.no_Node_kind rfl) Evl.ev_c rv_notN) (by rw [hk2]; rfl)) H6 (Ex.refl _) _ fun H7 e7 => ?_
      have e67 := e6.trans e7
      have e57 := e5.trans e67
      have pz7 := pair_imp pz5 fun _ _ h => rep_ex e67 h
      by_cases hp : isPart dv = true
      · rw [if_pos hp]
        refine ⟨.ref a2, rfl, a2, C_Node, dx2, _, vo2, rfl, e57 _ _ ha2, T.cl_Node, T.no_Node_owner, rfl, acc, e67 _ _ hz5, ?_, j + 1, acc ++ [vo2], by rw [hr'], hlj, Ex.mut e57 hD, upd_same, ?_, (Nl.of e7).trans (Nl.upd (e67 _ _ hz5))⟩
        · have la := pair_len pz5
          refine Evl.sz_lt ?_
          rw [← la, List.length_append, List.length_map]
          have l1 : (((nodesD (m + 1) [d]).take j).filter isPart).length ≤ cntD (m + 1) := by
            refine Nat.le_trans (List.length_filter_le _ _) (Nat.le_trans (by rw [List.length_take]; omega) (nodes_len (m := m + 1) (ds := [d]) (by show 1 ≤ 24; decide) (fun z hz => by rw [List.mem_singleton.mp hz]; exact ndd)))
          have l2 : (partsD (m + 1) (ds.take i)).length ≤ cntD (m + 1) := by
            unfold partsD
            rw [List.length_map]
            exact Nat.le_trans (List.length_filter_le _ _) (nodes_len (by rw [List.length_take]; omega) fun z hz => nds z (List.mem_of_mem_take hz))
          omega
        · rw [tkj, List.filter_append, List.map_append, ← List.append_assoc]
          have nl2 : Nl H7 (upd H7 D (.lst (acc ++ [vo2]))) := Nl.upd (e67 _ _ hz5)
          refine pair_app (pair_imp pz7 fun _ _ h => rep_nl nl2 h) ?_
          rw [List.filter_cons_of_pos hp, List.filter_nil]
          exact .cons (rep_nl nl2 (rep_ex e57 ro)) .nil
      · rw [if_neg hp]
        refine ⟨j + 1, acc, by rw [hr'], hlj, e57, e67 _ _ hz5, ?_, Nl.of e7⟩
        rw [tkj, List.filter_append, List.filter_cons_of_neg hp, List.filter_nil, List.append_nil]
        exact pz7
  · have e : i = xs.length := by omega
    subst e
    rw [List.take_of_length_le (by omega)] at pz
    exact .inl ⟨⟨xs, sq1, Nat.le_refl _⟩, k H1 D zs e1 hD hz pz⟩
end
end Pk

/-! Comprehensions on the second machine whose value goes straight into a name; {k: v ..} as a value. -/
namespace Ssp
open PySem PySem.Spec PyProof.Rows Ssg L2 Ssb
open Sem (wp)
section
variable {X : Cx}
/-- what is asked of a block's end -/
def BlkOut (X : Cx) (scope : Scope) (pins : List (Addr × Obj)) (σ : L2.St) (use : Option (Value → Sem Unit)) (Qf : Value → Shared → Prop) (Q : VK) (s : Shared) : Prop := ∀ {D : Addr} {C : Nat} {s' : Shared} {H3 H5 : Hp} {cl : List (Str × Addr)} {s3 : Shared} {fp : List Addr} {bp : List (Addr × Obj)} {σ' : L2.St}, C = s3.heap.objs.size → Inv X pins σ H3 s3 → (∀ b ∈ fp, FpOk X pins H3 b) → Inv (X.blk s3 H3 scope (compEnvC scope cl s3.heap.objs.size X.env) fp) bp σ' H5 s' → Q (.ref D) H5 → Calm s s' → compPost (plus X.prog X.w) X.A (XP X s) use Qf (.ref D) C (.ok .next) s'
theorem out_val {scope : Scope} {pins : List (Addr × Obj)} {σ : L2.St} {Q : VK} {s : Shared} : BlkOut X scope pins σ none (fun v s' => EP X pins σ Q v s' ∧ Calm s s') Q s := fun {D C s' H3 H5 cl s3 fp bp σ'} e I3 f3 I6 q c => by
  subst e
  exact blk_close I3 f3 I6 q c
theorem out_set {scope : Scope} {pins : List (Addr × Obj)} {σ : L2.St} {Dn : Ends} {s : Shared} {i : Nat} {y : Str} {py : Pos} (hN : X.N.Nodup) (hy : X.N[i]? = some y) (hyl : X.env.scope.names.lookup y = some .local) :
    BlkOut X scope pins σ (some (assign (.Name y py) X.env)) (fun _ s' => SP X pins Dn .next s' ∧ Calm s s') (fun x H1 => gName i x σ H1 Dn.nx) s := fun {D C s' H3 H5 cl s3 fp bp σ'} e I3 f3 I6 q c => by
  subst e
  have I7 : Inv X pins σ H5 s' := I3.call' (ch := fp) I6.os I6.base I6.hok I6.bare fun b hb => ⟨(f3 b hb).2.2.2.1, (f3 b hb).2.1, (f3 b hb).2.2.2.2.1, (f3 b hb).2.2.2.2.2⟩
  have nC : H5 s3.heap.objs.size = none := I6.free
  obtain ⟨m, hn, _⟩ := I6.loc
  obtain ⟨z0, z1, z2, z3, z4, z5⟩ := I3.fpOk (Nat.le_refl _) nC
  show wpAny _ _ (assign (.Name y py) X.env (.ref D)) _ _ _
  refine wpAny_mono (Ssp.up (X := X) (R := fun _ t => Inv X pins (σ.set i (some (.ref D))) H5 t ∧ ∃ a, Heap.SameBut a s'.heap t.heap ∧ (a = X.env.locals ∨ X.env.cells.lookup y = some a)) (fun _ _ _ z hb => ⟨inv_gens z.1 (hb z.1.bare), z.2⟩)
    (wpAny_assign_Name (store_ok2 (v := V.ref D) (inv_dead I7) hN hy (.inl hyl) rfl (fun s2 I2 h2 => ⟨I2, h2⟩) (.inr hyl)))) (fun _ s2 ⟨⟨I2, a, sb, ha⟩, c2⟩ => ?_) fun _ _ z => z.from_ c
  have ne : s3.heap.objs.size ≠ a := by
    rcases ha with z | z
    · rw [z]; exact z1
    · exact fun e => z4 y a z e.symm
  have c2 := c.trans c2
  exact ⟨m, hn.sameBut sb ne, fun h3 sb3 => ⟨⟨_, H5, I2.turned (t' := s2.toks) (fun b o hb e => (sb3.2 b hb).trans e) z0 z1 z3 z4 z5, q⟩, ⟨c2.kept, c2.left, c2.size⟩⟩⟩
theorem lcP_core {elt tg iter : Expr} {ifs : List Expr} {scope : Scope} {own : List (Str × Nat)} {pos pos' : Pos} {wi : TI} {g : TG} {tt : TT} {te : TE} {Q : VK} {pins : List (Addr × Obj)} {s : Shared} {σ : L2.St} {H : Hp} {use : Option (Value → Sem Unit)} {Qf : Value → Shared → Prop} (hc : X.calm = true) (hN : X.N.Nodup) (I : Inv X pins σ H s) (hi : PIp X tg iter wi) (ok : BlkOk X.N X.env.scope scope own)
    (hg : AllB X scope fun Y => PG Y tg g) (ht : AllB X scope fun Y => PTsp Y ifs tt) (he : AllB X scope fun Y => PEp Y elt te) (hs : ∀ x, foldedSetIterable iter X.env x = pure x) (h : tLc wi g tt te (own.map (·.2)) σ H Q) (out : BlkOut X scope pins σ use Qf Q s) :
    wpAny (plus X.prog X.w) X.A (comprehension (.ListComp elt [⟨tg, iter, ifs, 0⟩] scope pos) scope X.env pos' (newList []) false (eval iter X.env) use) Qf (XP X s) s := by
  have hfree : ∀ y ∈ scope.names, y.2 = .free → ∃ c, X.env.cells.lookup y.1 = some c := fun y hy e => by
    rcases ok.free y hy e with k | k
    · exact I.ok.has _ (.inl k)
    · exact I.ok.has _ (.inr k)
  refine wpAny_comprehension_free (use := use) rfl hs (closure_ok hfree) ok.kind (fun y hy e => by rw [ok.uniq y hy, e])
    (wpAny_mono (hi.run pins s σ H _ I h) (fun xv s1 hx => wpAny_mono hx (fun itv s2 ⟨⟨it, fp, tn, J, H2, e, I2, T, st2, f2, q⟩, c2⟩ => ?_) fun _ _ z => z) fun _ _ z => z)
  subst e
  refine wpAny_newObj_type (newEnv_comp ?_) (by show 0 ≤ sizeLine; decide)
  obtain ⟨W, ⟨m0, w0⟩, turn⟩ := q s2.heap.objs.size (I2.hok.fresh (Nat.le_refl _))
  generalize hs3 : ({ s2 with heap := s2.heap.push { cls := .type "list", data := .seq ([] : List Value).toArray } } : Shared) = s3
  obtain ⟨I3, I4, st4, f3, c24⟩ := blk_open T I2 st2 f2 ok hN hs3.symm
  generalize hH3 : upd H2 s2.heap.objs.size (.lst []) = H3 at I3 I4 f3 w0
  show codeAny _ _ (.compStart (.ListComp elt [⟨tg, iter, ifs, 0⟩] scope pos) 0 (.ref it) (.ref s2.heap.objs.size) (compEnvC scope (blkCl X s3 scope) s3.heap.objs.size X.env)) (compPost (plus X.prog X.w) X.A (XP X s) use Qf (.ref s2.heap.objs.size) s3.heap.objs.size) (blkS s3 scope)
  have pg := hg s3 H3 s3.heap.objs.size (blkCl X s3 scope) fp
  have pt := ht s3 H3 s3.heap.objs.size (blkCl X s3 scope) fp
  have pe := he s3 H3 s3.heap.objs.size (blkCl X s3 scope) fp
  generalize hY : X.blk s3 H3 scope (compEnvC scope (blkCl X s3 scope) s3.heap.objs.size X.env) fp = Y at I4 pg pt pe
  have xno : ∀ {α : Prop} {u1 u2 : Shared} {e : Value}, XP Y u1 e u2 → α := fun ⟨_, _, _, z, _⟩ => by rw [← hY] at z; exact z.elim
  have c4 := c2.trans c24
  have loop : codeAny (plus X.prog X.w) X.A (.compLoop (.ListComp elt [⟨tg, iter, ifs, 0⟩] scope pos) 0 (.ref it) (.ref s2.heap.objs.size) (compEnvC scope (blkCl X s3 scope) s3.heap.objs.size X.env)) (compPost (plus X.prog X.w) X.A (XP X s) use Qf (.ref s2.heap.objs.size) s3.heap.objs.size) (blkS s3 scope) := by
    subst hY
    refine loop1Q (fun n s' => ∃ i H', Inv (X.blk s3 H3 scope (compEnvC scope (blkCl X s3 scope) s3.heap.objs.size X.env) fp) [] (wipe σ (own.map (·.2))) H' s' ∧ tn i s'.heap ∧ (∀ b ∈ fp, H' b = none) ∧ W i n H' ∧ Calm s s') ?_ m0 ⟨0, H3, I4, st4, fun b hb => (f3 b hb).1, w0, c4⟩
    rintro n s5 ⟨i, H5, I5, st5, n5, w5, c5⟩
    have F5 := blk_fp I5 n5 fun b hb p hp => by cases hp
    rcases turn i n H5 w5 with ⟨stop, qq⟩ | ⟨go, Nx, hNx, step⟩
    · refine wpAny_mono (comp_doneP (X := X.blk s3 H3 scope (compEnvC scope (blkCl X s3 scope) s3.heap.objs.size X.env) fp) T hc I5 F5 st5 stop) (fun r s6 ⟨⟨hr, I6⟩, c6⟩ => ?_) fun _ _ z => xno z
      subst hr
      exact out rfl I3 f3 I6 qq (c5.trans c6)
    · refine wpAny_mono (comp_nextP (X := X.blk s3 H3 scope (compEnvC scope (blkCl X s3 scope) s3.heap.objs.size X.env) fp) T hc I5 F5 st5 go) (fun r s6 ⟨u, hr, h6⟩ => ?_) fun _ _ z => xno z
      subst hr
      refine wpAny_mono h6 (fun _ s7 ⟨⟨x, H7, I7, r7, y7, st7, n7⟩, c7⟩ => ?_) fun _ _ z => xno z
      have I7' := I7.pinned (blk_fp I7 n7 fun b hb p hp => by cases hp) (T.obj _ _ st7)
      refine wpAny_mono ((PGp.up pg).run _ s7 _ H7 x u _ I7' r7 (step x H7 y7)) (fun _ s8 ⟨⟨σ8, H8, I8, hw8, q8⟩, c8⟩ => ?_) fun _ _ z => xno z
      refine wpAny_mono (pt.run _ s8 σ8 H8 _ I8 q8) (fun b s9 ⟨⟨H9, I9, q9⟩, c9⟩ => ?_) fun _ _ z => xno z
      have cc := ((c5.trans c7).trans c8).trans c9
      have fin : ∀ {s' : Shared} {H' : Hp}, Inv (X.blk s3 H3 scope (compEnvC scope (blkCl X s3 scope) s3.heap.objs.size X.env) fp) ([] ++ pinsAt fp s7.heap) σ8 H' s' → Nx H' → Calm s9 s' → ∃ m, m < n ∧ ∃ i H', Inv (X.blk s3 H3 scope (compEnvC scope (blkCl X s3 scope) s3.heap.objs.size X.env) fp) [] (wipe σ (own.map (·.2))) H' s' ∧ tn i s'.heap ∧ (∀ b ∈ fp, H' b = none) ∧ W i m H' ∧ Calm s s' := fun {s' H'} I' nx cz => by
        obtain ⟨m', hm, w'⟩ := hNx H' nx
        have pin' : ∀ b ∈ fp, ∀ o, s7.heap.get? b = some o → s'.heap.get? b = some o ∧ H' b = none := fun b hb o e =>
          let z := I'.pin (b, o) (List.mem_append_right _ (List.mem_append_right _ (mem_pinsAt hb e)))
          ⟨z.1, z.2.1⟩
        have hl : (wipe σ (own.map (·.2))).length = σ8.length := by rw [← hw8, wipe_length]
        refine ⟨m', hm, i + 1, H', (I'.unpinned (pins := [])).weak hl (fun j v e => ?_), T.keep _ _ _ st7 fun b hb o e => (pin' b hb o e).1, fun b hb => ?_, w', cc.trans cz⟩
        · rw [← hw8] at e
          exact (wipe_some e).1
        · obtain ⟨o, e, _⟩ := T.obj _ _ st7 b hb
          exact (pin' b hb o e).2
      cases b with
      | false =>
        rw [if_neg Bool.false_ne_true] at q9 ⊢
        exact fin I9 q9 (Calm.refl _)
      | true =>
        rw [if_pos rfl] at q9 ⊢
        refine wpAny_mono (pe.run _ s9 σ8 H9 _ I9 q9) (fun z s10 ⟨⟨yv, H10, I10, r10, acc, hD10, hz10, nx⟩, c10⟩ => ?_) fun _ _ z => xno z
        refine wpAny_mono (Ssp.up (X := X.blk s3 H3 scope (compEnvC scope (blkCl X s3 scope) s3.heap.objs.size X.env) fp) (R := fun _ s' => Inv (X.blk s3 H3 scope (compEnvC scope (blkCl X s3 scope) s3.heap.objs.size X.env) fp) ([] ++ pinsAt fp s7.heap) σ8 (upd H10 s2.heap.objs.size (.lst (acc ++ [yv]))) s') (fun _ _ _ z hb => inv_gens z (hb z.bare)) (app_ok (inv_dead I10) hD10 hz10 r10 fun s11 I11 => I11)) (fun _ s11 ⟨I11, c11⟩ => fin I11 nx (c10.trans c11)) fun _ _ z => xno z
  exact compStartP loop (wpAny_mono (lift_wpAny (T.self X.A 0 { blkS s3 scope with gens := (blkS s3 scope).gens.map dead } (fun v s' => v = .ref it ∧ s' = { blkS s3 scope with gens := (blkS s3 scope).gens.map dead }) (fun _ _ => False) st4 ⟨rfl, rfl⟩)) (fun v s1 ⟨s2', ⟨e1, e2⟩, z⟩ => by
    subst e1
    have es : s1 = blkS s3 scope := by
      have h1 := z.eq
      have h2 := gens_same (G0 := (blkS s3 scope).gens) (G1 := s1.gens) (by rw [e2] at z; exact z.sim)
      rw [h1, e2, h2]
    rw [es]; exact loop) fun e s1 ⟨_, z, _⟩ => z.elim)

/-- name = [e for ..] -/
theorem ps_setLcP {elt tg iter : Expr} {ifs : List Expr} {scope : Scope} {own : List (Str × Nat)} {pos : Pos} {wi : TI} {g : TG} {tt : TT} {te : TE} {i : Nat} {y : Str} {py spos : Pos} (hc : X.calm = true) (hN : X.N.Nodup) (hy : X.N[i]? = some y) (hyl : X.env.scope.names.lookup y = some .local) (hsw : swapsWith (.ListComp elt [⟨tg, iter, ifs, 0⟩] scope pos) (some (.Name y py)) spos.line X.env = pure true)
    (hi : PIp X tg iter wi) (ok : BlkOk X.N X.env.scope scope own) (hg : AllB X scope fun Y => PG Y tg g) (ht : AllB X scope fun Y => PTsp Y ifs tt) (he : AllB X scope fun Y => PEp Y elt te)
    (hs : ∀ x, foldedSetIterable iter X.env x = pure x := by intro _; rfl) : PSp X (.Assign [.Name y py] (.ListComp elt [⟨tg, iter, ifs, 0⟩] scope pos) spos) (tAsg (tLc wi g tt te (own.map (·.2))) (gName i)) := by
  refine ⟨fun pins s σ H D I h => ?_⟩
  rw [exec_Assign_Name_used _ _ _ _ hsw]
  have h : tLc wi g tt te (own.map (·.2)) σ H (fun x H1 => gName i x σ H1 D.nx) := h
  refine wpAny_bind (wpAny_standAt (wpAny_bind ?_))
  show wpAny _ X.A (do let _ ← comprehension (.ListComp elt [⟨tg, iter, ifs, 0⟩] scope pos) scope X.env (firstIterPos [⟨tg, iter, ifs, 0⟩] pos) (newList []) false (eval iter X.env) (some (assign (.Name y py) X.env))) _ _ s
  exact wpAny_bind (wpAny_mono (lcP_core (Qf := fun _ s' => SP X pins D .next s' ∧ Calm s s') hc hN I hi ok hg ht he hs h (out_set hN hy hyl)) (fun _ s' hq => wpAny_pure (wpAny_pure hq)) fun _ _ z => z)
theorem pe_dnP {kx vx tg iter : Expr} {ifs : List Expr} {scope : Scope} {own : List (Str × Nat)} {pos : Pos} {wi : TI} {g : TG} {tt : TT} {tk tv : TE} (hu : X.A.units + 20 < cLine) (hc : X.calm = true) (hN : X.N.Nodup) (hi : PIp X tg iter wi) (ok : BlkOk X.N X.env.scope scope own)
    (hg : AllB X scope fun Y => PG Y tg g) (ht : AllB X scope fun Y => PTsp Y ifs tt) (hk : AllB X scope fun Y => PEp Y kx tk) (he : AllB X scope fun Y => PEp Y vx tv) (hs : ∀ x, foldedSetIterable iter X.env x = pure x := by intro _; rfl) :
    PEp X (.DictComp kx vx [⟨tg, iter, ifs, 0⟩] scope pos) (tDn X.w wi g tt tk tv (own.map (·.2))) := by
  refine ⟨fun pins s σ H Q I h => ?_⟩
  rw [arm_eval_DictComp]
  exact dcP_core hu hc hN I hi ok hg ht hk he hs h out_val
end
end Ssp

namespace Pk
open PySem PySem.Spec PyProof.Rows L2 Ssb
open Evl (Ex Ev EvT EvL EvA EvU)
/-! ### tables of pairs of owners -/
/-- an entry that says what goes with a key -/
def EnP (H : Hp) (p : D × D) (e : XEnt) : Prop := e.1 = p.1 ∧ KeyV H e.1 e.2.1 ∧ Rep H 5 Fs p.2 e.2.2
theorem EnP.ex {H H' : Hp} {p : D × D} {e : XEnt} (x : Ex H H') (h : EnP H p e) : EnP H' p e := ⟨h.1, h.2.1.ex x, rep_ex x h.2.2⟩
theorem EnP.upd {H : Hp} {w : World} {q : Addr} {xs : List XEnt} {u : HO} {p : D × D} {e : XEnt} (hq : H q = some (DkO w q xs)) (h : EnP H p e) : EnP (L2.upd H q u) p e :=
  have no : ∀ ys, DkO w q xs ≠ .tup ys := fun ys z => by unfold DkO at z; cases z
  ⟨h.1, h.2.1.tk (Tk.upd hq no), rep_upd hq no (fun b z => z.elim) h.2.2⟩
theorem putX_none {xs : List XEnt} {d : D} {a v : V} (h : valX xs d = none) : putX xs d a v = xs ++ [(d, a, v)] := by
  unfold putX
  rw [if_neg (by rw [h]; exact fun z => nomatch z)]
theorem valX_at {xs : List XEnt} (nd : ((xs.map xk).map (·.1)).Nodup) {j : Nat} {e : XEnt} (h : xs[j]? = some e) : valX xs e.1 = some e.2.2 := valN_at (y := xk e) nd (by rw [List.getElem?_map, h]; rfl)
theorem valX_none {xs : List XEnt} {d : D} (h : ∀ y ∈ xs, nkD y.1 ≠ nkD d) : valX xs d = none := valN_none.mpr fun y hy e => by
  obtain ⟨x, hx, rfl⟩ := List.mem_map.mp hy
  exact h x hx e
/-- keys that may be owners -/
def OwnK (d : D) : Prop := kdD 3 d ∧ ∃ l, d = .tup l
section
variable {H : Hp} {ts : List (D × D)} {es : List XEnt}
theorem en_keys (h : Paired (EnP H) ts es) : Keys H es := fun e he => by
  obtain ⟨p, _, r⟩ := Paired.mem2 h e he
  exact r.2.1
theorem en_nd (h : Paired (EnP H) ts es) (hk : ∀ p ∈ ts, OwnK p.1) (nd : (ts.map (·.1)).Nodup) : ((es.map xk).map (·.1)).Nodup := by
  have e : (es.map xk).map (·.1) = (ts.map (·.1)).map nkD := by
    clear hk nd
    induction h with
    | nil => rfl
    | cons h0 t ih =>
      rw [List.map_cons, List.map_cons, List.map_cons, List.map_cons, ih]
      show nkD _ :: _ = _
      rw [h0.1]
  rw [e, List.Nodup, List.pairwise_map]
  refine List.Pairwise.imp_of_mem ?_ nd
  intro a b ha hb ne z
  obtain ⟨p, hp, rfl⟩ := List.mem_map.mp ha
  obtain ⟨q, hq, rfl⟩ := List.mem_map.mp hb
  exact ne (nk_inj (hk p hp).1 (hk q hq).1 z)
theorem en_of (h : Paired (EnP H) ts es) (hk : ∀ p ∈ ts, OwnK p.1) (nd : (ts.map (·.1)).Nodup) {a b : D} (hm : (a, b) ∈ ts) : ∃ v, valX es a = some v ∧ Rep H 5 Fs b v := by
  obtain ⟨i, hi⟩ := List.mem_iff_getElem?.mp hm
  obtain ⟨e, he, r⟩ := pair_at h hi
  exact ⟨e.2.2, by rw [show a = e.1 from r.1.symm]; exact valX_at (en_nd h hk nd) he, r.2.2⟩
theorem en_val (h : Paired (EnP H) ts es) (hk : ∀ p ∈ ts, OwnK p.1) {a : D} {n : Nat} (ka : kdD n a) {v : V} (hv : valX es a = some v) : ∃ b, (a, b) ∈ ts ∧ Rep H 5 Fs b v := by
  obtain ⟨e, he, e1, e2⟩ : ∃ e ∈ es, nkD e.1 = nkD a ∧ e.2.2 = v := by
    unfold valX valN at hv
    cases hf : (es.map xk).find? fun x => decide (x.1 = nkD a) with
    | none => rw [hf] at hv; cases hv
    | some y =>
      rw [hf] at hv
      obtain ⟨e, he, rfl⟩ := List.mem_map.mp (List.mem_of_find?_eq_some hf)
      have := List.find?_some hf
      exact ⟨e, he, of_decide_eq_true this, Option.some.inj hv⟩
  obtain ⟨p, hp, r⟩ := Paired.mem2 h e he
  obtain ⟨p1, p2⟩ := p
  have e3 : e.1 = p1 := r.1
  have : p1 = a := nk_inj (hk _ hp).1 ka (by rw [← e3]; exact e1)
  subst this
  exact ⟨p2, hp, e2 ▸ r.2.2⟩
end
theorem ownK_nd {n : Nat} {d : D} (h : NdD n d) : OwnK (ownD d) := by
  cases n with
  | zero => exact h.elim
  | succ n =>
    obtain ⟨kd, ky, ow, bl, rfl, _, _, ⟨l, e, h⟩, _⟩ := h
    exact ⟨h, l, e⟩
theorem ts_ok {pl : Str} {m : Nat} {A B : List D} (hA : ∀ d ∈ A, NdD m d) (hB : ∀ d ∈ B, NdD m d) : ∀ p ∈ tsD pl m A B, OwnK p.1 ∧ OwnK p.2 := fun p hp => by
  obtain ⟨q, hq, rfl⟩ := List.mem_map.mp hp
  obtain ⟨n, d1, d2⟩ := pairs_nd hA hB q hq
  exact ⟨ownK_nd d1, ownK_nd d2⟩

/-! ### what faults there are -/
def lostP (ts : List (D × D)) (pres : List D) (o : D) : Bool := (pres.any fun e => decide (nkD e = nkD o)) && !((ts.map fun p => D.tup [p.1, p.2]).any fun e => decide (nkD e = nkD (.tup [o, o])))
def mixP (p : D × D) : Bool := !decide (nkD p.1 = nkD p.2)
def faultsD (ts : List (D × D)) (pres owners : List D) : List D := (owners.filter (lostP ts pres)).map (fun o => D.tup [.str "lost", o]) ++ (ts.filter mixP).map fun p => D.tup [.str "mixed", p.1, p.2]
def tsP (pl : Str) (m : Nat) (A B : List D) : List (D × D) := ((pairsD pl m A B).filter fun p => isPart p.1).map ownP
theorem pairs_kind {pl : Str} : ∀ {m : Nat} {ds es : List D}, (∀ d ∈ ds, NdD m d) → (∀ d ∈ es, NdD m d) → ∀ p ∈ pairsD pl m ds es, isPart p.1 = isPart p.2
  | 0, _, _, _, _, p, hp => by cases hp
  | m + 1, ds, es, hd, he, p, hp => by
    obtain ⟨k, hk, hp⟩ := List.mem_flatMap.mp hp
    have hk := List.mem_range.mp hk
    cases hf : findD pl ds es k with
    | none => rw [hf] at hp; cases hp
    | some j =>
      rw [hf] at hp
      obtain ⟨jl, se⟩ := slotIx_lt hf
      obtain ⟨_, n1⟩ := nd_at hd jl
      obtain ⟨_, n2⟩ := nd_at he hk
      rcases List.mem_cons.mp hp with rfl | hp
      · show isPart _ = isPart _
        unfold isPart
        rw [((slot_eq n1 n2).mp se).1]
      · exact pairs_kind (nd_below n1).2 (nd_below n2).2 p hp
theorem tsP_sub {pl : Str} {m : Nat} {A B : List D} : (tsP pl m A B).Sublist (tsD pl m A B) := List.Sublist.map _ List.filter_sublist
theorem tsP_ok {pl : Str} {m : Nat} {A B : List D} (hA : ∀ d ∈ A, NdD m d) (hB : ∀ d ∈ B, NdD m d) : ∀ p ∈ tsP pl m A B, OwnK p.1 ∧ OwnK p.2 := fun p hp => ts_ok hA hB p (tsP_sub.subset hp)
theorem tsP_nd {pl : Str} {m : Nat} {A B : List D} (hA : ∀ d ∈ A, NdD m d) (hB : ∀ d ∈ B, NdD m d) (uA : (ownsD m A).Nodup) (uB : (ownsD m B).Nodup) : ((tsP pl m A B).map (·.1)).Nodup := (ts_nd hA hB uA uB).1.sublist (tsP_sub.map _)
theorem nodes_nd : ∀ {m : Nat} {ds : List D}, (∀ d ∈ ds, NdD m d) → ∀ x ∈ nodesD m ds, ∃ n, NdD n x
  | 0, _, _, x, hx => by cases hx
  | m + 1, ds, hn, x, hx => by
    obtain ⟨d, hd, hx⟩ := List.mem_flatMap.mp hx
    rcases List.mem_cons.mp hx with rfl | hx
    · exact ⟨_, hn _ hd⟩
    · exact nodes_nd (nd_below (hn d hd)).2 x hx
theorem parts_ok {m : Nat} {ds : List D} (hn : ∀ d ∈ ds, NdD m d) : ∀ o ∈ partsD m ds, OwnK o := fun o ho => by
  obtain ⟨x, hx, rfl⟩ := List.mem_map.mp ho
  obtain ⟨n, h⟩ := nodes_nd hn x (List.mem_filter.mp hx).1
  exact ownK_nd h
theorem self_pairs {pl : Str} : ∀ {m : Nat} {B : List D}, (∀ d ∈ B, NdD m d) → pairsD pl m B B = (nodesD m B).map fun d => (d, d)
  | 0, _, _ => rfl
  | m + 1, B, hB => by
    show (List.range B.length).flatMap _ = (B.flatMap fun d => d :: nodesD m (belowD d)).map _
    rw [List.map_flatMap]
    have key : ∀ {l : List Nat}, (∀ k ∈ l, k < B.length) → (l.flatMap fun k => pairAt (pairsD pl m) B B k (findD pl B B k)) = l.flatMap fun k => (fun d => (d :: nodesD m (belowD d)).map fun d => (d, d)) (B.getD k .non) := fun {l} => by
      induction l with
      | nil => exact fun _ => rfl
      | cons k l ih =>
        intro h
        have hk := h k List.mem_cons_self
        rw [List.flatMap_cons, List.flatMap_cons, ih fun x hx => h x (List.mem_cons_of_mem _ hx), findD_of hB hk rfl]
        congr 1
        show (B.getD k .non, B.getD k .non) :: pairsD pl m _ _ = _
        rw [self_pairs (nd_below (nd_at hB hk).2).2]
        rfl
    rw [key fun k hk => List.mem_range.mp hk]
    have fm : ∀ {β : Type} {g : D → List β} {ds : List D}, (List.range ds.length).flatMap (fun i => g (ds.getD i .non)) = ds.flatMap g := fun {β g ds} => by
      have : (List.range ds.length).map (fun i => ds.getD i .non) = ds := by
        apply List.ext_getElem?
        intro i
        rw [List.getElem?_map]
        by_cases h : i < ds.length
        · rw [List.getElem?_range h, List.getElem?_eq_getElem h]
          show some (ds.getD i .non) = _
          rw [List.getD_eq_getElem?_getD, List.getElem?_eq_getElem h]; rfl
        · rw [List.getElem?_eq_none (by rw [List.length_range]; omega), List.getElem?_eq_none (by omega)]; rfl
      rw [← List.flatMap_map, this]
    exact fm (g := fun d => (d :: nodesD m (belowD d)).map fun d => (d, d))
theorem self_ts {pl : Str} {m : Nat} {B : List D} (hB : ∀ d ∈ B, NdD m d) : tsP pl m B B = (partsD m B).map fun o => (o, o) := by
  unfold tsP partsD
  rw [self_pairs hB, List.filter_map, List.map_map, List.map_map]
  rfl
theorem self_faults {pl : Str} {m : Nat} {B : List D} (hB : ∀ d ∈ B, NdD m d) : faultsD (tsP pl m B B) (partsD m B) (partsD m B) = [] := by
  unfold faultsD
  rw [self_ts hB]
  have h1 : (partsD m B).filter (lostP ((partsD m B).map fun o => (o, o)) (partsD m B)) = [] := List.filter_eq_nil_iff.mpr fun o ho => by
    unfold lostP
    have : (((((partsD m B).map fun o => (o, o)).map fun p => D.tup [p.1, p.2]).any fun e => decide (nkD e = nkD (.tup [o, o])))) = true := List.any_eq_true.mpr ⟨.tup [o, o], List.mem_map.mpr ⟨(o, o), List.mem_map.mpr ⟨o, ho, rfl⟩, rfl⟩, decide_eq_true rfl⟩
    rw [this]; simp
  have h2 : ((partsD m B).map fun o => (o, o)).filter mixP = [] := List.filter_eq_nil_iff.mpr fun p hp => by
    obtain ⟨o, _, rfl⟩ := List.mem_map.mp hp
    unfold mixP; simp
  rw [h1, h2]; rfl
/-- partners.get(o) != o, as the law asks it -/
theorem lost_get {H : Hp} {ts : List (D × D)} {es : List XEnt} {o : D} (h : Paired (EnP H) ts es) (hk : ∀ p ∈ ts, OwnK p.1 ∧ OwnK p.2) (nd : (ts.map (·.1)).Nodup) (ho : OwnK o) :
    ∃ d, KeyV H d ((valX es o).getD .non) ∧ (!decide (nkD d = nkD o)) = !((ts.map fun p => D.tup [p.1, p.2]).any fun e => decide (nkD e = nkD (.tup [o, o]))) := by
  have hk1 : ∀ p ∈ ts, OwnK p.1 := fun p hp => (hk p hp).1
  have anyI : ((ts.map fun p => D.tup [p.1, p.2]).any fun e => decide (nkD e = nkD (.tup [o, o]))) = true ↔ (o, o) ∈ ts := by
    rw [List.any_eq_true]
    constructor
    · rintro ⟨e, he, hh⟩
      obtain ⟨p, hp, rfl⟩ := List.mem_map.mp he
      have q := of_decide_eq_true hh
      rw [nk_tup, nk_tup] at q
      injection q with q
      have q1 := List.head_eq_of_cons_eq q
      have q2 := List.head_eq_of_cons_eq (List.tail_eq_of_cons_eq q)
      have e1 := nk_inj (hk p hp).1.1 ho.1 q1
      have e2 := nk_inj (hk p hp).2.1 ho.1 q2
      rw [← e1]
      have : p = (p.1, p.2) := rfl
      rw [e1] at *
      rw [this, e2] at hp
      rw [← e1]
      rw [e1]
      rw [e1] at hp
      exact hp
    · intro hm
      exact ⟨.tup [o, o], List.mem_map.mpr ⟨(o, o), hm, rfl⟩, decide_eq_true rfl⟩
  cases hv : valX es o with
  | none =>
    refine ⟨.non, ⟨trivial, .inl rfl, 1, Fs, rfl⟩, ?_⟩
    obtain ⟨l, rfl⟩ := ho.2
    have n : ¬ ((D.tup l, D.tup l) ∈ ts) := fun hm => by
      obtain ⟨v, hv2, _⟩ := en_of h hk1 nd hm
      rw [hv] at hv2; cases hv2
    rw [Bool.eq_false_iff.mpr fun z => n (anyI.mp z)]
    rw [decide_eq_false (fun z => by rw [nk_tup] at z; rw [nkD] at z; cases z)]
  | some v =>
    obtain ⟨b, hb, rb⟩ := en_val h hk1 ho.1 hv
    refine ⟨b, ⟨kd_le (by decide) (hk _ hb).2.1, .inr (hk _ hb).2.2, 5, Fs, rb⟩, ?_⟩
    congr 1
    rw [Bool.eq_iff_iff, decide_eq_true_eq, anyI]
    constructor
    · intro e
      have := nk_inj (hk _ hb).2.1 ho.1 e
      have : b = o := this
      rw [this] at hb; exact hb
    · intro hm
      rw [nd_in nd hb hm]
end Pk

namespace Pk
open PySem PySem.Spec PyProof.Rows L2 Ssb
open Evl (Ex Ev EvT EvL EvA EvU)
/-! ### pairs of owners, filtered -/
def PrR (H : Hp) (p : D × D) (z : V) : Prop := ∃ t u v, z = .ref t ∧ H t = some (.tup [u, v]) ∧ Rep H 4 Fs p.1 u ∧ Rep H 4 Fs p.2 v
theorem PrR.ex {H H' : Hp} {p : D × D} {z : V} (e : Ex H H') (h : PrR H p z) : PrR H' p z := let ⟨t, u, v, h1, h2, h3, h4⟩ := h; ⟨t, u, v, h1, e _ _ h2, rep_ex e h3, rep_ex e h4⟩
theorem PrR.nl {H H' : Hp} {p : D × D} {z : V} (e : Nl H H') (h : PrR H p z) : PrR H' p z := let ⟨t, u, v, h1, h2, h3, h4⟩ := h; ⟨t, u, v, h1, e _ _ h2 (fun _ z => nomatch z), rep_nl e h3, rep_nl e h4⟩
theorem filt_snoc {α β : Type} {f : α → Bool} {g : α → β} {l : List α} {c : Nat} {x : α} (h : l[c]? = some x) : ((l.take (c + 1)).filter f).map g = ((l.take c).filter f).map g ++ (if f x = true then [g x] else []) := by
  rw [take_snoc h, List.filter_append, List.map_append]
  congr 1
  cases hf : f x with
  | true => rw [List.filter_cons_of_pos hf]; rfl
  | false => rw [List.filter_cons_of_neg (by rw [hf]; decide)]; rfl
theorem filt_le {α : Type} {f : α → Bool} {l : List α} {c : Nat} : ((l.take c).filter f).length ≤ l.length := Nat.le_trans (List.length_filter_le _ _) (by rw [List.length_take]; omega)
theorem lc_ownF {K : PySem.W.Frag} {a : Addr} {ps : List V} {ts : List (D × D)} {tT : TT} {tA tB : TE} {vs : List Nat} {σ : L2.St} {H1 : Hp} {i j : Nat} {Q : Addr → Hp → Prop} (pF : D × D → Bool) (ha : H1 a = some (.lst ps)) (hw : ∀ x y, wipe (((wipe σ vs).set i (some x)).set j (some y)) vs = wipe σ vs)
    (pr : Paired (fun p z => ∃ t x y u v, z = .ref t ∧ H1 t = some (.tup [x, y]) ∧ Rep H1 4 Fs (ownD p.1) u ∧ Rep H1 4 Fs (ownD p.2) v ∧ EvT tT (((wipe σ vs).set i (some x)).set j (some y)) H1 (pF p) ∧ Ev tA (((wipe σ vs).set i (some x)).set j (some y)) H1 u ∧ Ev tB (((wipe σ vs).set i (some x)).set j (some y)) H1 v) ts ps) (l : ps.length ≤ 40000)
    (k : ∀ H' L zs, Ex H1 H' → H1 L = none → H' L = some (.lst zs) → Paired (PrR H') ((ts.filter pF).map ownP) zs → Q L H') :
    ∀ Dl, H1 Dl = none → ∃ W : Nat → Nat → Hp → Prop, (∃ m, W 0 m (upd H1 Dl (.lst []))) ∧ ∀ c m H, W c m H → ((Itl K a).stop c H ∧ Q Dl H) ∨ ((Itl K a).go c H ∧ ∃ Nx : Hp → Prop, (∀ H', Nx H' → ∃ m', m' < m ∧ W (c + 1) m' H') ∧ ∀ x H', (Itl K a).yld c H x H' → gTup K 2 (gCons (gName i) (gCons (gName j) gNil)) x (wipe σ vs) H' fun σ2 H2 => wipe σ2 vs = wipe σ vs ∧ tT σ2 H2 fun b H3 =>
        if b = true then tTup (tCons tA (tCons tB tNil)) σ2 H3 fun y H4 => ∃ acc, H4 Dl = some (.lst acc) ∧ acc.length < sizeLine ∧ Nx (upd H4 Dl (.lst (acc ++ [y]))) else Nx H3) := fun Dl hD => by
  refine lc_list (xs := ps) (fun c H' => Ex H1 H' ∧ ∃ zs, H' Dl = some (.lst zs) ∧ Paired (PrR H') (((ts.take c).filter pF).map ownP) zs) ⟨Ex.new hD, [], upd_same, .nil⟩ (fun c H' _ p => Evl.sq_of (p.1 _ _ ha)) (fun c x H' hx pv => ?_) fun H' pv => ?_
  · obtain ⟨ex, zs, hzs, pz⟩ := pv
    obtain ⟨p, hp, t, x1, y1, u, v, rfl, ht, ru, rv, et, eu, ev⟩ := pair_back pr hx
    refine ⟨t, [x1, y1], rfl, Evl.st_of (ex _ _ ht), rfl, _, _, rfl, _, _, rfl, rfl, hw _ _, ?_⟩
    refine et H' ex _ fun H2 e2 => ?_
    by_cases c0 : pF p = true
    · rw [if_pos c0]
      refine eu H2 (ex.trans e2) _ fun H3 e3 => ev H3 ((ex.trans e2).trans e3) _ fun H4 e4 => ⟨(by show 2 ≤ sizeLine; decide), fun tp htp => ?_⟩
      have e5 := Ex.new (o := .tup [u, v]) htp
      have e35 := (e2.trans e3).trans (e4.trans e5)
      have hz5 := e35 _ _ hzs
      have lz : zs.length ≤ 40000 := by
        have := pair_len pz
        rw [List.length_map] at this
        have := pair_len pr
        have := filt_le (f := pF) (l := ts) (c := c)
        omega
      have n5 : Nl (upd H4 tp (.tup [u, v])) (upd (upd H4 tp (.tup [u, v])) Dl (.lst (zs ++ [.ref tp]))) := Nl.upd hz5
      refine ⟨zs, hz5, Evl.sz_lt (by omega), Ex.mut (ex.trans e35) hD, zs ++ [.ref tp], upd_same, ?_⟩
      rw [filt_snoc hp, if_pos c0]
      refine pair_snoc (pair_imp pz fun d z r => PrR.nl n5 (PrR.ex e35 r)) (PrR.nl n5 ⟨tp, u, v, rfl, upd_same, rep_ex (ex.trans e35) ru, rep_ex (ex.trans e35) rv⟩)
    · rw [if_neg c0]
      refine ⟨ex.trans e2, zs, e2 _ _ hzs, ?_⟩
      rw [filt_snoc hp, if_neg c0, List.append_nil]
      exact pair_imp pz fun d z r => r.ex e2
  · obtain ⟨ex, zs, hzs, pz⟩ := pv
    rw [List.take_of_length_le (by have := pair_len pr; omega)] at pz
    exact k H' Dl zs ex hD hzs pz
/-- the entries of dict(pairs) -/
theorem ent_of {H : Hp} : ∀ {ts : List (D × D)} {zs : List V}, (∀ p ∈ ts, OwnK p.1) → Paired (PrR H) ts zs → ∃ es : List XEnt, Paired (EnP H) ts es ∧ PrAt H es zs
  | [], _, _, .nil => ⟨[], .nil, .nil⟩
  | p :: ts, _ :: _, hk, .cons h t => by
    obtain ⟨es, h1, h2⟩ := ent_of (fun q hq => hk q (List.mem_cons_of_mem _ hq)) t
    obtain ⟨tt, u, v, rfl, ht, ru, rv⟩ := h
    have k := hk p List.mem_cons_self
    have ky : KeyV H p.1 u := ⟨kd_le (by decide) k.1, .inr k.2, 4, Fs, ru⟩
    exact ⟨(p.1, u, v) :: es, .cons ⟨rfl, ky, rep_le (by decide) rv⟩ h1, .cons ⟨tt, rfl, ht, ky⟩ h2⟩
theorem putAll_nd {es : List XEnt} (nd : ((es.map xk).map (·.1)).Nodup) : putAll es = es := by
  have key : ∀ (l acc : List XEnt), (((acc ++ l).map xk).map (·.1)).Nodup → l.foldl (fun acc e => putX acc e.1 e.2.1 e.2.2) acc = acc ++ l := fun l => by
    induction l with
    | nil => intro acc _; exact (List.append_nil _).symm
    | cons e l ih =>
      intro acc h
      have hv : valX acc e.1 = none := valX_none fun y hy z => by
        rw [List.map_append, List.map_append, List.nodup_append] at h
        exact h.2.2 (nkD y.1) (List.mem_map.mpr ⟨xk y, List.mem_map.mpr ⟨y, hy, rfl⟩, rfl⟩) (nkD e.1) (List.mem_map.mpr ⟨xk e, List.mem_map.mpr ⟨e, List.mem_cons_self, rfl⟩, rfl⟩) z
      rw [List.foldl_cons, putX_none hv, ih (acc ++ [(e.1, e.2.1, e.2.2)]) (by rw [List.append_assoc]; exact h), List.append_assoc]
      rfl
  exact key es [] nd
end Pk

namespace Pk
open PySem PySem.Spec PyProof.Rows L2 Ssb
open Evl (Ex Ev EvT EvL EvA EvU)
open Ssp (PEp PTp PSsp PSp PAp PTsp PWp PIp pi_listP pe_dnP ps_setLcP ps_setP ps_retP pss_oneP pss_consP pclQ FnQ FnP)
/-! ### faults -/
section
variable {P : Program} {w : World} {K : PySem.W.Frag} {mg : Str → Option Value} {base : Heap} {C_Node C_Rule C_InvalidRule : Addr}
def spFaults (CN CR : Addr) (K : PySem.W.Frag) (m : Nat) : Sp := fun vs H Q _ => ∃ (r o n : Addr) (pl : Str) (ds es : List D) (xs ys : List V), vs = [.ref r, .ref o, .ref n] ∧ RuleAt CR H r pl ∧ H o = some (.lst xs) ∧ H n = some (.lst ys) ∧ Paired (fun d x => NodeR CN K H m d x) ds xs ∧ Paired (fun d x => NodeR CN K H m d x) es ys ∧ (∀ d ∈ ds, NdD m d) ∧ (∀ d ∈ es, NdD m d) ∧ ds.length ≤ 24 ∧ es.length ≤ 24 ∧ bnd m ≤ 30000 ∧ cntD m ≤ 30000 ∧ (ownsD m ds).Nodup ∧ (ownsD m es).Nodup ∧
    ∀ H' q zs, Ex H H' → H q = none → H' q = some (.lst zs) → Paired (fun d z => Rep H' 5 Fs d z) (faultsD (tsP pl m ds es) (partsD m es) (partsD m ds)) zs → Q (.ref q) H'
abbrev fN : List Str := ["rule", "old", "new", "pairs", "partners", "staying", "lost", "before", "after", "owner"]
theorem ok_faults (T : Txt K mg C_Node C_Rule C_InvalidRule) (R : Prg K mg C_Node C_Rule C_InvalidRule) (m : Nat) : ∃ f fd, FnQ P w K mg base "faults" (3 * m + 10) ["rule", "old", "new"] (spFaults C_Node C_Rule K m) f fd := by
  obtain ⟨_, _, G_matched⟩ := ok_matched (P := P) (w := w) (base := base) T R (m + 1)
  obtain ⟨_, _, G_part_owners⟩ := ok_part_owners (P := P) (w := w) (base := base) T R m
  obtain ⟨f, fd, at_, F, kp⟩ := R.faults
  have Fb := F.binds (ps := ["rule", "old", "new"]) (fun _ _ _ _ _ _ us hl => match us, hl with | [_, _, _], _ => rfl)
  obtain ⟨oc, od, kV, doc, pm, an, cdv0, ct, osl, rfl, lk, hcd⟩ := F.ex
  refine ⟨f, _, Ssp.fn_ofP (k := 3 * m + 9) cx0 lk hcd sc_faults (fun vs H Q E h => by obtain ⟨r, o, n, pl, ds, es, xs, ys, rfl, _⟩ := h; rfl) (fun A outer s H vs Q E hr hsp => ?_), at_, kp, Fb⟩
  refine ⟨_, pss_consP (.up (ps_setLc (i := 3) (own := [("before", 7), ("after", 8)]) rfl sc_faults.nd rfl rfl (sw_true rfl rfl rfl (by decide +kernel)) (show PI _ _ _ (iList K _) from pi_list (pcl G_matched hr (pa_cons (pv 0) (pa_cons (pv 1) (pa_cons (pv 2) pa_nil))))) (blkOk_by (own := [("before", 7), ("after", 8)]) (N := fN) (sc := defScope s_faults) (by decide +kernel)) (fun _ _ _ _ _ => (show PG _ _ (gTup K 2 _) from pg_tup (n := 2) rfl (pgs_cons (pg_name (i := 7) sc_faults.nd rfl (Or.inl rfl)) (pgs_cons (pg_name (i := 8) sc_faults.nd rfl (Or.inl rfl)) pgs_nil)))) (fun _ _ _ _ _ => (pts_one (pt_cmpR op_notN (show PE _ _ (tFld K _ _) from pe_fld (pv 8) rfl) pe_non (nomark _)))) (fun _ _ _ _ _ => (pe_tup (pa_cons (show PE _ _ (tFld K _ _) from pe_fld (pv 7) rfl) (pa_cons (show PE _ _ (tFld K _ _) from pe_fld (pv 8) rfl) pa_nil))))))
    (pss_consP (.up (ps_set (i := 4) sc_faults.nd rfl (Or.inr rfl) (pe_callTy (r := rDictN w) (call_dict_n (hu20 hr) rfl) (by rfl) T.dict (by decide +kernel) (pa_cons (pv 3) pa_nil))))
    (pss_consP (ps_setP (i := 5) sc_faults.nd rfl (Or.inr rfl) (pe_dnP (own := [("owner", 9)]) (hu20 hr) rfl sc_faults.nd (pi_listP (pclQ G_part_owners hr (PAp.up (pa_cons (pv 2) pa_nil)))) (blkOk_by (own := [("owner", 9)]) (N := fN) (sc := defScope s_faults) (by decide +kernel)) (fun _ _ _ _ _ => pg_name (i := 9) sc_faults.nd rfl (Or.inl rfl)) (fun _ _ _ _ _ => PTsp.up pts_nil) (fun _ _ _ _ _ => PEp.up (pv 9)) (fun _ _ _ _ _ => PEp.up pe_bl)))
    (pss_consP (ps_setLcP (i := 6) (own := [("owner", 9)]) rfl sc_faults.nd rfl rfl (sw_true rfl rfl rfl (by decide +kernel)) (pi_listP (pclQ G_part_owners hr (PAp.up (pa_cons (pv 1) pa_nil)))) (blkOk_by (own := [("owner", 9)]) (N := fN) (sc := defScope s_faults) (by decide +kernel)) (fun _ _ _ _ _ => pg_name (i := 9) sc_faults.nd rfl (Or.inl rfl))
      (fun _ _ _ _ _ => PTsp.up (pts_one (PW.pt (pw_and (pt_cmpR (r := rNIn w) (op_nin (hu20 hr)) (pv 9) (pv 5) (by rfl)) (pw_and1 (pt_cmpR (r := rNeK) (op_neK (hu20 hr)) (show PE _ _ (tNGet1 w _ _) from pe_nget1 (hu20 hr) (pv 4) (pa_cons (pv 9) pa_nil)) (pv 9) (nomark _)))))))
      (fun _ _ _ _ _ => PEp.up (pe_tup (pa_cons pe_str (pa_cons (pv 9) pa_nil)))))
    (pss_oneP (.up (ps_ret (pe_op op_cat (pv 6) (pe_lc (own := [("before", 7), ("after", 8)]) rfl sc_faults.nd (show PI _ _ _ (iList K _) from pi_list (pv 3)) (blkOk_by (own := [("before", 7), ("after", 8)]) (N := fN) (sc := defScope s_faults) (by decide +kernel)) (fun _ _ _ _ _ => (show PG _ _ (gTup K 2 _) from pg_tup (n := 2) rfl (pgs_cons (pg_name (i := 7) sc_faults.nd rfl (Or.inl rfl)) (pgs_cons (pg_name (i := 8) sc_faults.nd rfl (Or.inl rfl)) pgs_nil)))) (fun _ _ _ _ _ => (pts_one (pt_cmpR (r := rNeK) (op_neK (hu20 hr)) (pv 7) (pv 8) (nomark _)))) (fun _ _ _ _ _ => (pe_tup (pa_cons pe_str (pa_cons (pv 7) (pa_cons (pv 8) pa_nil))))))))))))), ?_⟩
  obtain ⟨r, o, n, pl, ds, es, xs, ys, rfl, hr1, ho, hn, prx, pry, nds, nes, l1, l2, hb, hcn, uA, uB, k⟩ := hsp
  -- the pairs
  refine q_go ⟨_, rfl, _, rfl, _, rfl, r, o, n, pl, ds, es, xs, ys, rfl, hr1, ho, hn, prx, pry, nds, nes, l1, l2, hb, fun H1 q ps e1 hq0 hq pps => ⟨q, rfl, ⟨ps, Evl.sq_of hq⟩, ?_⟩⟩
  have lps : ps.length ≤ 30000 := by
    rw [← pair_len pps]
    exact Nat.le_trans (pairs_len l2 nes) hb
  refine lc_ownF (K := K) (tT := tTest (tOp (fun x y H Q => y = .non ∧ Q (.bl (!decide (x = .non))) H) (tFld K (tVar 8) "kind") (tC .non))) (tA := tFld K (tVar 7) "owner") (tB := tFld K (tVar 8) "owner") (i := 7) (j := 8) (vs := [7, 8]) (σ := [some (.ref r), some (.ref o), some (.ref n), none, none, none, none, none, none, none]) (ts := pairsD pl m ds es) (fun p => isPart p.1) hq (fun _ _ => rfl) (pair_impM pps fun p z hp _ h => ?_) (by omega) fun H2 L zs e2 hL0 hL pz => ?_
  · obtain ⟨t, x, y, n1, rfl, ht, r1, r2⟩ := h
    obtain ⟨n2, d1, d2⟩ := pairs_nd nds nes p hp
    have kn := pairs_kind nds nes p hp
    cases n1 with
    | zero => exact r1.elim
    | succ n1 =>
    have k1 := own_kd d1
    have k2 := own_kd d2
    obtain ⟨p1, p2⟩ := p
    obtain ⟨_, _, ow1, _, a1, dx1, _, _, vo1, _, _, rfl, rfl, h1, _, _, ⟨_, ro1⟩, _⟩ := r1
    obtain ⟨kd2, _, ow2, _, a2, dx2, vk2, _, vo2, _, _, rfl, rfl, h2, ⟨_, rk2⟩, _, ⟨_, ro2⟩, _⟩ := r2
    refine ⟨t, .ref a1, .ref a2, vo1, vo2, rfl, ht, rep_lv 3 (by decide) k1 ro1, rep_lv 3 (by decide) k2 ro2, ?_, ev_fld (Evl.ev_var rfl) h1 T.cl_Node T.no_Node_owner rfl, ev_fld (Evl.ev_var rfl) h2 T.cl_Node T.no_Node_owner rfl⟩
    refine Evl.et_is (Evl.et_test (b := !decide (vk2 = .non)) (Evl.ev_op (ev_fld (Evl.ev_var rfl) h2 T.cl_Node T.no_Node_kind rfl) Evl.ev_c rv_notN)) ?_
    rw [isN_rep rk2]
    exact kn.symm
  have e02 := e1.trans e2
  -- the partners
  have tok := tsP_ok (pl := pl) nds nes
  have tnd := tsP_nd (pl := pl) nds nes uA uB
  have pz : Paired (PrR H2) (tsP pl m ds es) zs := pz
  have lts : (tsP pl m ds es).length ≤ 30000 := by
    unfold tsP
    rw [List.length_map]
    exact Nat.le_trans (List.length_filter_le _ _) (Nat.le_trans (pairs_len l2 nes) hb)
  obtain ⟨ens, pe, pa⟩ := ent_of (fun p hp => (tok p hp).1) pz
  have lens := pair_len pe
  refine q_go ⟨_, rfl, L, zs, ens, rfl, hL, pa, Evl.sz_of (by omega), fun d hd => ?_⟩
  rw [putAll_nd (en_nd pe (fun p hp => (tok p hp).1) tnd)]
  have e3 := Ex.new (o := DkO w d ens) hd
  have hd3 : (upd H2 d (DkO w d ens)) d = some (DkO w d ens) := upd_same
  generalize (upd H2 d (DkO w d ens)) = H3 at e3 hd3 ⊢
  have e03 := e02.trans e3
  have pe3 := pair_imp pe fun _ _ h => EnP.ex e3 h
  have hL3 := e3 _ _ hL
  have pz3 := pair_imp pz fun _ _ h => PrR.ex e3 h
  -- those that stay
  have pok := parts_ok nes
  have lp1 : (partsD m es).length ≤ 30000 := by
    unfold partsD
    rw [List.length_map]
    exact Nat.le_trans (List.length_filter_le _ _) (Nat.le_trans (nodes_len l2 nes) hcn)
  have lp2 : (partsD m ds).length ≤ 30000 := by
    unfold partsD
    rw [List.length_map]
    exact Nat.le_trans (List.length_filter_le _ _) (Nat.le_trans (nodes_len l1 nds) hcn)
  refine q_go ⟨_, rfl, n, es, ys, rfl, e03 _ _ hn, pair_imp pry fun a b h => NodeR.ex e03 h, nes, l2, hcn, fun H4 q4 zs4 e4 hq40 hq4 pz4 => ⟨q4, rfl, ⟨zs4, Evl.sq_of hq4⟩, fun D hD => ⟨fun i n H' => n = zs4.length - i ∧ i ≤ zs4.length ∧ Ex H4 H' ∧ ∃ tab, H' D = some (DkO w D tab) ∧ Keys H' tab ∧ tab.length ≤ i ∧ ∀ q : Ssb.D, (valX tab q).isSome = ((partsD m es).take i).any fun e => decide (nkD e = nkD q), ⟨_, rfl, Nat.zero_le _, Ex.new hD, [], upd_same, (fun x h => nomatch h), Nat.le_refl _, fun q => rfl⟩, ?_⟩⟩⟩
  have lz4 := pair_len pz4
  rintro i n5 H5 ⟨rfl, hi, e5, tab, hD5, hks, hlt, hval⟩
  have sq5 := Evl.sq_of (K := K) (e5 _ _ hq4)
  by_cases hlt : i < zs4.length
  · obtain ⟨x, hx⟩ : ∃ x, zs4[i]? = some x := ⟨zs4[i], List.getElem?_eq_getElem hlt⟩
    refine .inr ⟨⟨zs4, x, sq5, hx⟩, fun H' => Ex H4 H' ∧ ∃ tab, H' D = some (DkO w D tab) ∧ Keys H' tab ∧ tab.length ≤ i + 1 ∧ ∀ q : Ssb.D, (valX tab q).isSome = ((partsD m es).take (i + 1)).any fun e => decide (nkD e = nkD q), fun H' ⟨a, b⟩ => ⟨zs4.length - (i + 1), by omega, rfl, hlt, a, b⟩, fun x' H' yl => ?_⟩
    obtain ⟨rfl, yl⟩ := yl
    have hx' := yl zs4 sq5
    rw [hx] at hx'
    cases hx'
    obtain ⟨od, hod, ro⟩ := pair_back pz4 hx
    have ok := pok od (List.mem_of_getElem? hod)
    have ky : KeyV H' od x := ⟨kd_le (by decide) ok.1, .inr ok.2, 4, Fs, rep_ex e5 ro⟩
    refine gname_go ⟨rfl, ?_⟩
    dsimp only [tYes]
    rw [if_pos rfl]
    refine ⟨x, rfl, tab, od, hD5, hks, ky, Evl.sz_lt (by omega), Ex.mut e5 hD, putX tab od x (.bl true), upd_same, (putX_keys hks ky).tk (Tk.upd hD5 fun _ z => by unfold DkO at z; cases z), Nat.le_trans putX_len (by omega), fun q => ?_⟩
    rw [valX_put, take_snoc hod, List.any_append, ← hval q, List.any_cons, List.any_nil, Bool.or_false]
    by_cases c : nkD q = nkD od
    · rw [if_pos c, decide_eq_true c.symm, Bool.or_true]; rfl
    · rw [if_neg c, decide_eq_false (fun z => c z.symm), Bool.or_false]
  refine .inl ⟨⟨zs4, sq5, by omega⟩, ?_⟩
  have hval : ∀ q : Ssb.D, (valX tab q).isSome = (partsD m es).any fun e => decide (nkD e = nkD q) := fun q => by rw [hval q, List.take_of_length_le (by omega)]
  have e35 := e4.trans e5
  have e05 := e03.trans e35
  have hL5 := e35 _ _ hL3
  have pz5 := pair_imp pz3 fun _ _ h => PrR.ex e35 h
  have hd5 := e35 _ _ hd3
  have pe5 := pair_imp pe3 fun _ _ h => EnP.ex e35 h
  clear sq5
  refine gname_go ?_
  -- the lost ones
  refine q_go ⟨_, rfl, o, ds, xs, rfl, e05 _ _ ho, pair_imp prx fun a b h => NodeR.ex e05 h, nds, l1, hcn, fun H6 q6 zs6 e6 hq60 hq6 pz6 => ⟨q6, rfl, ⟨zs6, Evl.sq_of hq6⟩, fun D6 hD6 => ?_⟩⟩
  have lz6 := pair_len pz6
  have po6 := parts_ok nds
  refine lc_list (xs := zs6) (fun c H' => Ex H6 H' ∧ ∃ acc, H' D6 = some (.lst acc) ∧ Paired (fun d z => Rep H' 5 Fs d z) ((((partsD m ds).take c).filter (lostP (tsP pl m ds es) (partsD m es))).map fun o => Ssb.D.tup [.str "lost", o]) acc) ⟨Ex.new hD6, [], upd_same, .nil⟩ (fun c H' _ p => Evl.sq_of (p.1 _ _ hq6)) (fun c x H' hx pv => ?_) fun H7 pv => ?_
  · obtain ⟨ex, acc, hacc, pacc⟩ := pv
    obtain ⟨od, hod, ro⟩ := pair_back pz6 hx
    have ok := po6 od (List.mem_of_getElem? hod)
    have roX := rep_ex ex ro
    have exx := e6.trans ex
    have ky : ∀ {Hx : Hp}, Ex H' Hx → KeyV Hx od x := fun e => ⟨kd_le (by decide) ok.1, .inr ok.2, 4, Fs, rep_ex e roX⟩
    have hDx := exx _ _ hD5
    have hdx := exx _ _ hd5
    have pex := pair_imp pe5 fun _ _ h => EnP.ex exx h
    refine gname_go ⟨rfl, ?_⟩
    have t1 : EvT (tTest (tOp (rNIn w) (tVar 9) (tVar 5))) [some (.ref r), some (.ref o), some (.ref n), some (.ref L), some (.ref d), some (.ref D), none, none, none, some x] H' ((partsD m es).any fun e => decide (nkD e = nkD od)) := by
      refine Evl.et_is (Evl.et_test (Evl.ev_op (Evl.ev_var rfl) (Evl.ev_var rfl) (fun Hy ey Q q' => ⟨D, _, rfl, ⟨tab, od, .inl (ey _ _ hDx), (hks.tk (Tk.of exx)).tk (Tk.of ey), ky ey, rfl⟩, q' Hy (Ex.refl _)⟩))) (hval od)
    have t2 : EvT (tTest (tOp rNeK (tNGet1 w (tVar 4) (tCons (tVar 9) tNil)) (tVar 9))) [some (.ref r), some (.ref o), some (.ref n), some (.ref L), some (.ref d), some (.ref D), none, none, none, some x] H' (!(((tsP pl m ds es).map fun p => Ssb.D.tup [p.1, p.2]).any fun e => decide (nkD e = nkD (.tup [od, od])))) := by
      refine Evl.et_test fun Hy ey Q q' => ?_
      have pey := pair_imp pex fun _ _ h => EnP.ex ey h
      obtain ⟨g, kg, eg⟩ := lost_get pey tok tnd ok
      obtain ⟨lo, rfl⟩ := ok.2
      rw [← eg] at q'
      exact ⟨_, rfl, ⟨d, rfl, ens, .inl (ey _ _ hdx), en_keys pey⟩, _, rfl, d, _, _, rfl, rfl, ⟨ens, _, .inl (ey _ _ hdx), en_keys pey, ky ey, rfl⟩, _, rfl, g, lo, kg, ky ey, q' Hy (Ex.refl _)⟩
    refine (Evl.et_and t1 fun _ => t2) H' (Ex.refl _) _ fun H8 e8 => ?_
    have h8 := e8 _ _ hacc
    have pacc8 := pair_imp pacc fun _ _ h => rep_ex e8 h
    by_cases c0 : lostP (tsP pl m ds es) (partsD m es) od = true
    · rw [show ((((partsD m es).any fun e => decide (nkD e = nkD od)) && !(((tsP pl m ds es).map fun p => Ssb.D.tup [p.1, p.2]).any fun e => decide (nkD e = nkD (.tup [od, od]))))) = true from c0, if_pos rfl]
      refine ⟨_, rfl, (by show 2 ≤ sizeLine; decide), fun tp htp => ?_⟩
      have e9 := Ex.new (o := .tup [.str "lost", x]) htp
      have la : acc.length ≤ 30000 := by
        have := pair_len pacc
        rw [List.length_map] at this
        have := filt_le (f := lostP (tsP pl m ds es) (partsD m es)) (l := partsD m ds) (c := c)
        omega
      refine ⟨acc, e9 _ _ h8, Evl.sz_lt (by omega), Ex.mut ((ex.trans e8).trans e9) hD6, acc ++ [.ref tp], upd_same, ?_⟩
      have nl := Nl.upd (o := .lst (acc ++ [.ref tp])) (e9 _ _ h8)
      rw [filt_snoc hod, if_pos c0]
      exact pair_snoc (pair_imp pacc8 fun _ _ h => rep_nl nl (rep_ex e9 h)) (rep_nl nl ⟨tp, _, rfl, upd_same, (by show 2 ≤ 100000; decide), .cons rfl (.cons (rep_ex (e8.trans e9) roX) .nil)⟩)
    · rw [show ((((partsD m es).any fun e => decide (nkD e = nkD od)) && !(((tsP pl m ds es).map fun p => Ssb.D.tup [p.1, p.2]).any fun e => decide (nkD e = nkD (.tup [od, od]))))) = false from Bool.eq_false_iff.mpr c0, if_neg Bool.false_ne_true]
      refine ⟨ex.trans e8, acc, h8, ?_⟩
      rw [filt_snoc hod, if_neg c0, List.append_nil]
      exact pacc8
  obtain ⟨e7, acc, hacc, pacc⟩ := pv
  rw [List.take_of_length_le (by omega)] at pacc
  have e57 := e6.trans e7
  have pz7 := pair_imp pz5 fun _ _ h => PrR.ex e57 h
  -- the mixed ones
  refine ⟨_, rfl, _, rfl, L, rfl, ⟨zs, Evl.sq_of (e57 _ _ hL5)⟩, fun D8 hD8 => ?_⟩
  refine lc_list (xs := zs) (fun c H' => Ex H7 H' ∧ ∃ mx, H' D8 = some (.lst mx) ∧ Paired (fun d z => Rep H' 5 Fs d z) ((((tsP pl m ds es).take c).filter mixP).map fun p => Ssb.D.tup [.str "mixed", p.1, p.2]) mx) ⟨Ex.new hD8, [], upd_same, .nil⟩ (fun c H' _ p => Evl.sq_of (p.1 _ _ (e57 _ _ hL5))) (fun c x H' hx pv => ?_) fun H9 pv => ?_
  · obtain ⟨ex, mx, hmx, pmx⟩ := pv
    obtain ⟨p, hp, t, u, v, rfl, ht, ru, rv⟩ := pair_back pz7 hx
    obtain ⟨k1, k2⟩ := tok p (List.mem_of_getElem? hp)
    obtain ⟨lo, hlo⟩ := k2.2
    have ruX := rep_ex ex ru
    have rvX := rep_ex ex rv
    refine ⟨t, [u, v], rfl, Evl.st_of (ex _ _ ht), rfl, _, _, rfl, _, _, rfl, rfl, rfl, ?_⟩
    have t1 : EvT (tTest (tOp rNeK (tVar 7) (tVar 8))) [some (.ref r), some (.ref o), some (.ref n), some (.ref L), some (.ref d), some (.ref D), some (.ref D6), some u, some v, none] H' (mixP p) := by
      refine Evl.et_test (Evl.ev_op (Evl.ev_var rfl) (Evl.ev_var rfl) fun Hy ey Q q' => ?_)
      refine ⟨p.1, lo, ⟨kd_le (by decide) k1.1, .inr k1.2, 4, Fs, rep_ex ey ruX⟩, ?_, ?_⟩
      · rw [← hlo]; exact ⟨kd_le (by decide) k2.1, .inr k2.2, 4, Fs, rep_ex ey rvX⟩
      · rw [← hlo]; exact q' Hy (Ex.refl _)
    refine t1 H' (Ex.refl _) _ fun H8 e8 => ?_
    have h8 := e8 _ _ hmx
    have pmx8 := pair_imp pmx fun _ _ h => rep_ex e8 h
    by_cases c0 : mixP p = true
    · rw [if_pos c0]
      refine ⟨_, rfl, _, rfl, (by show 3 ≤ sizeLine; decide), fun tp htp => ?_⟩
      have e9 := Ex.new (o := .tup [.str "mixed", u, v]) htp
      have la : mx.length ≤ 30000 := by
        have := pair_len pmx
        rw [List.length_map] at this
        have := filt_le (f := mixP) (l := tsP pl m ds es) (c := c)
        omega
      refine ⟨mx, e9 _ _ h8, Evl.sz_lt (by omega), Ex.mut ((ex.trans e8).trans e9) hD8, mx ++ [.ref tp], upd_same, ?_⟩
      have nl := Nl.upd (o := .lst (mx ++ [.ref tp])) (e9 _ _ h8)
      rw [filt_snoc hp, if_pos c0]
      exact pair_snoc (pair_imp pmx8 fun _ _ h => rep_nl nl (rep_ex e9 h)) (rep_nl nl ⟨tp, _, rfl, upd_same, (by show 3 ≤ 100000; decide), .cons rfl (.cons (rep_ex (e8.trans e9) ruX) (.cons (rep_ex (e8.trans e9) rvX) .nil))⟩)
    · rw [if_neg c0]
      refine ⟨ex.trans e8, mx, h8, ?_⟩
      rw [filt_snoc hp, if_neg c0, List.append_nil]
      exact pmx8
  obtain ⟨e9, mx, hmx, pmx⟩ := pv
  rw [List.take_of_length_le (by have := pair_len pz7; omega)] at pmx
  have lacc := pair_len pacc
  have lmx := pair_len pmx
  rw [List.length_map] at lacc lmx
  have la1 := List.length_filter_le (lostP (tsP pl m ds es) (partsD m es)) (partsD m ds)
  have la2 := List.length_filter_le mixP (tsP pl m ds es)
  refine ⟨D6, D8, acc, mx, rfl, rfl, e9 _ _ hacc, hmx, Evl.sz_of (by omega), fun p hp => ?_⟩
  have e10 := Ex.new (o := .lst (acc ++ mx)) hp
  have e0F := e05.trans (e57.trans e9)
  exact k _ p (acc ++ mx) (e0F.trans e10) (Evl.fresh_back e0F hp) upd_same (pair_app (pair_imp pacc fun _ _ h => rep_ex (e9.trans e10) h) (pair_imp pmx fun _ _ h => rep_ex e10 h))
end
end Pk

namespace Pk
open PySem PySem.Spec PyProof.Rows L2 Ssb
open Evl (Ex Ev EvT EvL EvA EvU)
/-! ### the faults as the law finds them -/
def RowV (H : Hp) (d : D) (z : V) : Prop := ∃ (t : Addr) (kv kyv ov bv : V), z = .ref t ∧ H t = some (.tup [kv, kyv, ov, bv]) ∧ decide (kv = .non) = isNon (kindOf d) ∧ kdD 3 (ownD d) ∧ Rep H 4 Fs (ownD d) ov
theorem RowV.nl {H H' : Hp} {d : D} {z : V} (e : Nl H H') (h : RowV H d z) : RowV H' d z := let ⟨t, kv, kyv, ov, bv, h1, h2, h3, h4, h5⟩ := h; ⟨t, kv, kyv, ov, bv, h1, e _ _ h2 (fun _ z => nomatch z), h3, h4, rep_nl e h5⟩
theorem RowV.ex {H H' : Hp} {d : D} {z : V} (e : Ex H H') (h : RowV H d z) : RowV H' d z := h.nl (Nl.of e)
section
variable {P : Program} {w : World} {K : PySem.W.Frag} {mg : Str → Option Value} {base : Heap} {C_Node C_Rule C_InvalidRule : Addr}
def spWalked : Nat → Sp
  | 0 => fun _ _ _ _ => False
  | m + 1 => fun vs H Q _ => ∃ (a : Addr) (n : Nat) (S : Addr → Prop) (ds : List D), vs = [.ref a] ∧ Rep H n S (.lst ds) (.ref a) ∧ (∀ x ∈ ds, NdD m x) ∧ ds.length ≤ 24 ∧ cntD m ≤ 30000 ∧ ∀ H' q zs, Ex H H' → H q = none → H' q = some (.lst zs) → Paired (fun d z => RowV H' d z) (nodesD m ds) zs → Q (.ref q) H'
theorem ok__law_walked (T : Txt K mg C_Node C_Rule C_InvalidRule) (R : Prg K mg C_Node C_Rule C_InvalidRule) : ∀ m, ∃ f fd, Fn P w K mg base "_law_walked" (m + 2) ["_law_nodes"] (spWalked m) f fd
  | 0 => by
    obtain ⟨f, fd, at_, F, kp⟩ := R._law_walked
    exact ⟨f, fd, F.ok sc__law_walked (fun vs H Q E h => h.elim) (fun cdv A outer s H vs Q E hr h => h.elim), at_, kp, F.binds (fun _ _ _ _ _ _ us hl => match us, hl with | [_], _ => rfl)⟩
  | m + 1 => by
    obtain ⟨_, _, G__law_walked⟩ := ok__law_walked T R m
    obtain ⟨f, fd, at_, F, kp⟩ := R._law_walked
    refine ⟨f, fd, F.ok sc__law_walked (fun vs H Q E h => ?_) (fun cdv A outer s H vs Q E hr h => ?_), at_, kp, F.binds (fun _ _ _ _ _ _ us hl => match us, hl with | [_], _ => rfl)⟩
    · obtain ⟨a, n, S, ds, rfl, _⟩ := h; rfl
    · obtain ⟨a, n, S, ds, rfl, hv, nds, l1, hb, k⟩ := h
      refine ⟨_, (pss_cons (ps_set (i := 1) sc__law_walked.nd rfl (Or.inl rfl) (pe_lst pa_nil))
  (pss_cons (ps_for PassesOwn.never rfl (show PI _ _ _ (iList K _) from pi_list (pv 0)) (pg_name (i := 2) sc__law_walked.nd rfl (Or.inl rfl))
    (pss_cons (ps_expr (show PE _ _ (tBM K _ _ _ _) from pe_bm PySem.F.plainAttrs_list PySem.F.slot_list_append PySem.F.type_list_append mt_append (pv 1) (pa_cons (pv 2) pa_nil)))
  (pss_one (ps_set (i := 1) sc__law_walked.nd rfl (Or.inl rfl) (pe_op op_cat (pv 1) (pcl G__law_walked hr (pa_cons (pe_ix (r := rIxT K) ix_tup (pv 2) pe_int (fun _ _ => rfl)) pa_nil)))))))
  (pss_one (ps_ret (pv 1))))), ?_⟩
      obtain ⟨xs, ha, lx, ax⟩ := node_at hv nds
      refine Evl.q_asgL (xs := []) (Evl.el_lst Evl.ea_nil (Nat.zero_le _)) fun q0 H1 hq0 e1 hq1 => ?_
      refine ⟨_, rfl, a, rfl, ⟨_, Evl.sq_of (e1 _ _ ha)⟩, for_list (K := K) (a := a) (xs := xs) (fun i σ' H' => ∃ (q : Addr) (zs : List V) (o2 : Option V), σ' = [some (.ref a), some (.ref q), o2] ∧ Ex H H' ∧ H q = none ∧ H' q = some (.lst zs) ∧ Paired (fun d z => RowV H' d z) (nodesD m (ds.take i)) zs) ⟨q0, [], _, rfl, e1, hq0, hq1, by rw [List.take_zero]; cases m <;> exact .nil⟩ (fun i σ' H' _ pv => by obtain ⟨_, _, _, _, e, _⟩ := pv; exact Evl.sq_of (e _ _ ha)) (fun i x σ' H' hx pv => ?_) fun σ' H' pv => ?_⟩
      · obtain ⟨q, zs, o2, rfl, eH, hq, hqx, pz⟩ := pv
        have il : i < ds.length := by rw [← lx]; exact (List.getElem?_eq_some_iff.mp hx).1
        obtain ⟨gi, ndi⟩ := nd_at nds il
        cases m with
        | zero => exact ndi.elim
        | succ m =>
        obtain ⟨t, kv, kyv, ov, ba, n1, hxi, ht, r1, r2, r3, r4⟩ := ax i il
        rw [hx] at hxi
        cases hxi
        obtain ⟨bl1, bn1⟩ := nd_below ndi
        have k3 := own_kd ndi
        have lz : zs.length ≤ cntD (m + 1) := by
          rw [← pair_len pz]
          exact nodes_len (by rw [List.length_take]; omega) fun z hz => nds z (List.mem_of_mem_take hz)
        have hcm : cntD (m + 1) = 24 * (1 + cntD m) := rfl
        refine gname_go ?_
        refine q_seq ⟨_, rfl, .inl ⟨rfl, _, Evl.sq_of hqx⟩, _, rfl, ?_⟩
        refine ⟨q, zs, .ref t, rfl, rfl, hqx, Evl.sz_lt (by omega), ?_⟩
        have nl1 : Nl H' (upd H' q (.lst (zs ++ [.ref t]))) := Nl.upd (o := .lst (zs ++ [.ref t])) hqx
        have e05 := Ex.mut (o := .lst (zs ++ [.ref t])) eH hq
        have hq5 : (upd H' q (.lst (zs ++ [.ref t]))) q = some (.lst (zs ++ [.ref t])) := upd_same
        generalize (upd H' q (.lst (zs ++ [.ref t]))) = H5 at nl1 e05 hq5 ⊢
        refine ⟨_, rfl, _, rfl, t, _, 3, .ref ba, rfl, rfl, Evl.st_of (e05 _ _ ht), rfl, ba, n1, S, belowD (ds.getD i .non), rfl, rep_ex e05 r4, bn1, bl1, by omega, fun H8 q8 zs8 e8 hq80 hq8 p8 => ?_⟩
        have lz8 : zs8.length ≤ cntD m := by rw [← pair_len p8]; exact nodes_len bl1 bn1
        refine ⟨q, q8, zs ++ [.ref t], zs8, rfl, rfl, e8 _ _ hq5, hq8, Evl.sz_of (by rw [List.length_append]; show zs.length + 1 + zs8.length ≤ 100000; omega), fun p hp => ?_⟩
        have e9 := Ex.new (o := .lst ((zs ++ [.ref t]) ++ zs8)) hp
        have e08 := e05.trans e8
        refine ⟨p, (zs ++ [.ref t]) ++ zs8, _, rfl, e08.trans e9, Evl.fresh_back e08 hp, upd_same, ?_⟩
        rw [take_snoc gi, nodes_app, nodes_one]
        rw [List.append_assoc] at e9 ⊢
        refine pair_app (pair_imp pz fun a b h => h.nl ((nl1.trans (Nl.of e8)).trans (Nl.of e9))) ?_
        exact .cons ⟨t, kv, kyv, ov, _, rfl, (e08.trans e9) _ _ ht, isN_rep r1, k3, rep_lv 3 (by decide) k3 (rep_key k3 (rep_ex (e08.trans e9) r3))⟩ (pair_imp p8 fun a b h => h.ex e9)
      · obtain ⟨q, zs, o2, rfl, eH, hq, hqx, pz⟩ := pv
        rw [List.take_of_length_le (by omega)] at pz
        exact Evl.s_ret (Evl.ev_var rfl) fun H9 e9 => k H9 q zs (eH.trans e9) hq (e9 _ _ hqx) (pair_imp pz fun a b h => h.ex e9)
end
end Pk

namespace Pk
open PySem PySem.Spec PyProof.Rows L2 Ssb
open Evl (Ex Ev EvT EvL EvA EvU)
theorem pair_map {α β γ : Type} {f : α → β} {F : β → γ → Prop} : ∀ {l : List α} {m : List γ}, Paired (fun a c => F (f a) c) l m → Paired F (l.map f) m
  | _, _, .nil => .nil
  | _, _, .cons h t => .cons h (pair_map t)
theorem lc_part {K : PySem.W.Frag} {a : Addr} {nds : List D} {ps : List V} {tT : TT} {tA : TE} {vs : List Nat} {σ : L2.St} {H1 : Hp} {j : Nat} {Dl : Addr} {Q : Hp → Prop} (hD : H1 Dl = none) (ha : H1 a = some (.lst ps)) (hw : ∀ x, wipe ((wipe σ vs).set j (some x)) vs = wipe σ vs) (pr : Paired (fun d z => RowV H1 d z) nds ps) (l : ps.length ≤ 40000)
    (hT : ∀ {x : V} {t : Addr} {kv kyv ov bv : V} {H : Hp}, x = .ref t → H t = some (.tup [kv, kyv, ov, bv]) → EvT tT ((wipe σ vs).set j (some x)) H (!decide (kv = .non))) (hA : ∀ {x : V} {t : Addr} {kv kyv ov bv : V} {H : Hp}, x = .ref t → H t = some (.tup [kv, kyv, ov, bv]) → Ev tA ((wipe σ vs).set j (some x)) H ov)
    (k : ∀ H' zs, Ex H1 H' → H' Dl = some (.lst zs) → Paired (fun d z => Rep H' 4 Fs d z) ((nds.filter isPart).map ownD) zs → Q H') :
    ∃ W : Nat → Nat → Hp → Prop, (∃ m, W 0 m (upd H1 Dl (.lst []))) ∧ ∀ c m H, W c m H → ((Itl K a).stop c H ∧ Q H) ∨ ((Itl K a).go c H ∧ ∃ Nx : Hp → Prop, (∀ H', Nx H' → ∃ m', m' < m ∧ W (c + 1) m' H') ∧ ∀ x H', (Itl K a).yld c H x H' → gName j x (wipe σ vs) H' fun σ2 H2 => wipe σ2 vs = wipe σ vs ∧ tT σ2 H2 fun b H3 =>
        if b = true then tA σ2 H3 fun y H4 => ∃ acc, H4 Dl = some (.lst acc) ∧ acc.length < sizeLine ∧ Nx (upd H4 Dl (.lst (acc ++ [y]))) else Nx H3) := by
  refine lc_list (xs := ps) (fun c H' => Ex H1 H' ∧ ∃ zs, H' Dl = some (.lst zs) ∧ Paired (fun d z => Rep H' 4 Fs d z) (((nds.take c).filter isPart).map ownD) zs) ⟨Ex.new hD, [], upd_same, .nil⟩ (fun c H' _ p => Evl.sq_of (p.1 _ _ ha)) (fun c x H' hx pv => ?_) fun H' pv => ?_
  · obtain ⟨ex, zs, hzs, pz⟩ := pv
    obtain ⟨d, hd, t, kv, kyv, ov, bv, rfl, ht, hk, k3, ro⟩ := pair_back pr hx
    refine gname_go ⟨hw _, ?_⟩
    refine hT rfl (ex _ _ ht) H' (Ex.refl _) _ fun H2 e2 => ?_
    rw [show (!decide (kv = .non)) = isPart d by rw [hk]; rfl]
    by_cases c0 : isPart d = true
    · rw [if_pos c0]
      refine hA rfl ((ex.trans e2) _ _ ht) H2 (Ex.refl _) _ fun H3 e3 => ?_
      have hz3 := (e2.trans e3) _ _ hzs
      have lz : zs.length ≤ 40000 := by
        have := pair_len pz
        rw [List.length_map] at this
        have := pair_len pr
        have := filt_le (f := isPart) (l := nds) (c := c)
        omega
      have nl := Nl.upd (o := .lst (zs ++ [ov])) hz3
      refine ⟨zs, hz3, Evl.sz_lt (by omega), Ex.mut ((ex.trans e2).trans e3) hD, zs ++ [ov], upd_same, ?_⟩
      rw [filt_snoc hd, if_pos c0]
      exact pair_snoc (pair_imp pz fun _ _ h => rep_nl nl (rep_ex (e2.trans e3) h)) (rep_nl nl (rep_ex ((ex.trans e2).trans e3) ro))
    · rw [if_neg c0]
      refine ⟨ex.trans e2, zs, e2 _ _ hzs, ?_⟩
      rw [filt_snoc hd, if_neg c0, List.append_nil]
      exact pair_imp pz fun _ _ h => rep_ex e2 h
  · obtain ⟨ex, zs, hzs, pz⟩ := pv
    rw [List.take_of_length_le (by have := pair_len pr; omega)] at pz
    exact k H' zs ex hzs pz
section
variable {P : Program} {w : World} {K : PySem.W.Frag} {mg : Str → Option Value} {base : Heap} {C_Node C_Rule C_InvalidRule : Addr}
def spFaulty (pl : Str) (m : Nat) : Sp := fun vs H Q _ => ∃ (pa o n : Addr) (n1 n2 : Nat) (S1 S2 : Addr → Prop) (ds es : List D) (ps : List V), vs = [.ref pa, .ref o, .ref n] ∧ H pa = some (.lst ps) ∧ Paired (fun p z => PairL H p z) (pairsD pl m ds es) ps ∧ Rep H n1 S1 (.lst ds) (.ref o) ∧ Rep H n2 S2 (.lst es) (.ref n) ∧ (∀ d ∈ ds, NdD m d) ∧ (∀ d ∈ es, NdD m d) ∧ ds.length ≤ 24 ∧ es.length ≤ 24 ∧ bnd m ≤ 30000 ∧ cntD m ≤ 30000 ∧
    ∀ H' q zs, Ex H H' → H q = none → H' q = some (.lst zs) → Paired (fun d z => Rep H' 5 Fs d z) (faultsD (tsP pl m ds es) (partsD m es) (partsD m ds)) zs → Q (.ref q) H'
theorem ok__law_faulty (T : Txt K mg C_Node C_Rule C_InvalidRule) (R : Prg K mg C_Node C_Rule C_InvalidRule) (m : Nat) : ∃ f fd, Fn P w K mg base "_law_faulty" (m + 4) ["_law_pairs_here", "_law_old", "_law_new"] (fun vs H Q E => ∃ pl, spFaulty pl m vs H Q E) f fd := by
  obtain ⟨_, _, G__law_walked⟩ := ok__law_walked (P := P) (w := w) (base := base) T R (m + 1)
  obtain ⟨f, fd, at_, F, kp⟩ := R._law_faulty
  refine ⟨f, fd, F.ok sc__law_faulty (fun vs H Q E h => ?_) (fun cdv A outer s H vs Q E hr h => ?_), at_, kp, F.binds (fun _ _ _ _ _ _ us hl => match us, hl with | [_, _, _], _ => rfl)⟩
  · obtain ⟨pl, pa, o, n, n1, n2, S1, S2, ds, es, ps, rfl, _⟩ := h; rfl
  obtain ⟨pl, pa, o, n, n1, n2, S1, S2, ds, es, ps, rfl, hpa, pps, r1, r2, nds, nes, l1, l2, hb, hcn, k⟩ := h
  refine ⟨_, (pss_cons (ps_set (i := 3) sc__law_faulty.nd rfl (Or.inr rfl) (pe_lc (own := [("_law_one", 7), ("_law_two", 8)]) rfl sc__law_faulty.nd (show PI _ _ _ (iList K _) from pi_list (pv 0)) (blkOk_by (own := [("_law_one", 7), ("_law_two", 8)]) (N := ["_law_pairs_here", "_law_old", "_law_new", "_law_partners", "_law_present", "_law_owners", "_law_found", "_law_one", "_law_two", "_law_node", "_law_owner"]) (sc := defScope s__law_faulty) (by decide +kernel)) (fun _ _ _ _ _ => (show PG _ _ (gTup K 2 _) from pg_tup (n := 2) rfl (pgs_cons (pg_name (i := 7) sc__law_faulty.nd rfl (Or.inl rfl)) (pgs_cons (pg_name (i := 8) sc__law_faulty.nd rfl (Or.inl rfl)) pgs_nil)))) (fun _ _ _ _ _ => (pts_one (pt_cmpR op_notN (pe_ix (r := rIxT K) ix_tup (pv 7) pe_int (fun _ _ => rfl)) pe_non (nomark _)))) (fun _ _ _ _ _ => (pe_tup (pa_cons (pe_ix (r := rIxT K) ix_tup (pv 7) pe_int (fun _ _ => rfl)) (pa_cons (pe_ix (r := rIxT K) ix_tup (pv 8) pe_int (fun _ _ => rfl)) pa_nil))))))
  (pss_cons (ps_set (i := 4) sc__law_faulty.nd rfl (Or.inr rfl) (pe_lc (own := [("_law_node", 9)]) rfl sc__law_faulty.nd (show PI _ _ _ (iList K _) from pi_list (pcl G__law_walked hr (pa_cons (pv 2) pa_nil))) (blkOk_by (own := [("_law_node", 9)]) (N := ["_law_pairs_here", "_law_old", "_law_new", "_law_partners", "_law_present", "_law_owners", "_law_found", "_law_one", "_law_two", "_law_node", "_law_owner"]) (sc := defScope s__law_faulty) (by decide +kernel)) (fun _ _ _ _ _ => (pg_name (i := 9) sc__law_faulty.nd rfl (Or.inl rfl))) (fun _ _ _ _ _ => (pts_one (pt_cmpR op_notN (pe_ix (r := rIxT K) ix_tup (pv 9) pe_int (fun _ _ => rfl)) pe_non (nomark _)))) (fun _ _ _ _ _ => (pe_ix (r := rIxT K) ix_tup (pv 9) pe_int (fun _ _ => rfl)))))
  (pss_cons (ps_setLc (i := 5) (own := [("_law_node", 9)]) rfl sc__law_faulty.nd rfl rfl (sw_true rfl rfl rfl (by decide +kernel)) (show PI _ _ _ (iList K _) from pi_list (pcl G__law_walked hr (pa_cons (pv 1) pa_nil))) (blkOk_by (own := [("_law_node", 9)]) (N := ["_law_pairs_here", "_law_old", "_law_new", "_law_partners", "_law_present", "_law_owners", "_law_found", "_law_one", "_law_two", "_law_node", "_law_owner"]) (sc := defScope s__law_faulty) (by decide +kernel)) (fun _ _ _ _ _ => (pg_name (i := 9) sc__law_faulty.nd rfl (Or.inl rfl))) (fun _ _ _ _ _ => (pts_one (pt_cmpR op_notN (pe_ix (r := rIxT K) ix_tup (pv 9) pe_int (fun _ _ => rfl)) pe_non (nomark _)))) (fun _ _ _ _ _ => (pe_ix (r := rIxT K) ix_tup (pv 9) pe_int (fun _ _ => rfl))))
  (pss_cons (ps_setLc (i := 6) (own := [("_law_owner", 10)]) rfl sc__law_faulty.nd rfl rfl (sw_true rfl rfl rfl (by decide +kernel)) (show PI _ _ _ (iList K _) from pi_list (pv 5)) (blkOk_by (own := [("_law_owner", 10)]) (N := ["_law_pairs_here", "_law_old", "_law_new", "_law_partners", "_law_present", "_law_owners", "_law_found", "_law_one", "_law_two", "_law_node", "_law_owner"]) (sc := defScope s__law_faulty) (by decide +kernel)) (fun _ _ _ _ _ => (pg_name (i := 10) sc__law_faulty.nd rfl (Or.inl rfl))) (fun _ _ _ _ _ => (pts_one (PW.pt (pw_and (pt_cmpR (r := rInLK) (op_inLK (hu20 hr)) (pv 10) (pv 4) (by rfl)) (pw_and1 (pt_cmpR (r := rNInLK) (op_ninLK (hu20 hr)) (pe_tup (pa_cons (pv 10) (pa_cons (pv 10) pa_nil))) (pv 3) (by rfl))))))) (fun _ _ _ _ _ => (pe_tup (pa_cons pe_str (pa_cons (pv 10) pa_nil)))))
  (pss_one (ps_ret (pe_op op_cat (pv 6) (pe_lc (own := [("_law_one", 7), ("_law_two", 8)]) rfl sc__law_faulty.nd (show PI _ _ _ (iList K _) from pi_list (pv 3)) (blkOk_by (own := [("_law_one", 7), ("_law_two", 8)]) (N := ["_law_pairs_here", "_law_old", "_law_new", "_law_partners", "_law_present", "_law_owners", "_law_found", "_law_one", "_law_two", "_law_node", "_law_owner"]) (sc := defScope s__law_faulty) (by decide +kernel)) (fun _ _ _ _ _ => (show PG _ _ (gTup K 2 _) from pg_tup (n := 2) rfl (pgs_cons (pg_name (i := 7) sc__law_faulty.nd rfl (Or.inl rfl)) (pgs_cons (pg_name (i := 8) sc__law_faulty.nd rfl (Or.inl rfl)) pgs_nil)))) (fun _ _ _ _ _ => (pts_one (pt_cmpR (r := rNeK) (op_neK (hu20 hr)) (pv 7) (pv 8) (nomark _)))) (fun _ _ _ _ _ => (pe_tup (pa_cons pe_str (pa_cons (pv 7) (pa_cons (pv 8) pa_nil))))))))))))), ?_⟩
  have lps : ps.length ≤ 30000 := by
    rw [← pair_len pps]
    exact Nat.le_trans (pairs_len l2 nes) hb
  -- the partners
  refine q_go ⟨_, rfl, pa, rfl, ⟨ps, Evl.sq_of hpa⟩, ?_⟩
  refine lc_ownF (i := 7) (j := 8) (vs := [7, 8]) (σ := [some (.ref pa), some (.ref o), some (.ref n), none, none, none, none, none, none, none, none]) (ts := pairsD pl m ds es) (fun p => isPart p.1) hpa (fun _ _ => rfl) (pair_imp pps fun p z h => ?_) (by omega) fun H2 L zs e2 hL0 hL pz => ?_
  · obtain ⟨t, ta, tb, ka, qa, oa, ba, kb, qb, ob, bb, rfl, ht, hta, htb, ra, rb, hk⟩ := h
    refine ⟨t, .ref ta, .ref tb, oa, ob, rfl, ht, ra, rb, ?_, Evl.ev_op (Evl.ev_var rfl) Evl.ev_c (Evl.rv_ixT (Evl.st_of hta) (atI_nat (j := 2) rfl)), Evl.ev_op (Evl.ev_var rfl) Evl.ev_c (Evl.rv_ixT (Evl.st_of htb) (atI_nat (j := 2) rfl))⟩
    refine Evl.et_is (Evl.et_test (b := !decide (ka = .non)) (Evl.ev_op (Evl.ev_op (Evl.ev_var rfl) Evl.ev_c (Evl.rv_ixT (Evl.st_of hta) (atI_nat (j := 0) rfl))) Evl.ev_c rv_notN)) ?_
    rw [hk]; rfl
  have pz : Paired (PrR H2) (tsP pl m ds es) zs := pz
  have lts : (tsP pl m ds es).length ≤ 30000 := by
    unfold tsP
    rw [List.length_map]
    exact Nat.le_trans (List.length_filter_le _ _) (Nat.le_trans (pairs_len l2 nes) hb)
  have tok := tsP_ok (pl := pl) nds nes
  have nl1 := nodes_len l1 nds
  have nl2 := nodes_len l2 nes
  have lp1 : (partsD m es).length ≤ 30000 := by
    unfold partsD
    rw [List.length_map]
    exact Nat.le_trans (List.length_filter_le _ _) (Nat.le_trans nl2 hcn)
  have lp2 : (partsD m ds).length ≤ 30000 := by
    unfold partsD
    rw [List.length_map]
    exact Nat.le_trans (List.length_filter_le _ _) (Nat.le_trans nl1 hcn)
  -- those that are there
  refine q_go ⟨_, rfl, n, n2, S2, es, rfl, rep_ex e2 r2, nes, l2, hcn, fun H3 q3 zs3 e3 hq30 hq3 pz3 => ⟨q3, rfl, ⟨zs3, Evl.sq_of hq3⟩, fun D3 hD3 => ?_⟩⟩
  have lz3 := pair_len pz3
  refine lc_part hD3 hq3 (fun _ => rfl) pz3 (by omega) (fun {x t kv kyv ov bv Hx} e ht => ?_) (fun {x t kv kyv ov bv Hx} e ht => ?_) fun H4 ws e4 hws pws => ?_
  · subst e; exact Evl.et_test (Evl.ev_op (Evl.ev_op (Evl.ev_var rfl) Evl.ev_c (Evl.rv_ixT (Evl.st_of ht) (atI_nat (j := 0) rfl))) Evl.ev_c rv_notN)
  · subst e; exact Evl.ev_op (Evl.ev_var rfl) Evl.ev_c (Evl.rv_ixT (Evl.st_of ht) (atI_nat (j := 2) rfl))
  have pws : Paired (fun d z => Rep H4 4 Fs d z) (partsD m es) ws := pws
  have e24 := e3.trans e4
  -- the old ones
  refine q_go ⟨_, rfl, o, n1, S1, ds, rfl, rep_ex (e2.trans e24) r1, nds, l1, hcn, fun H5 q5 zs5 e5 hq50 hq5 pz5 => ⟨q5, rfl, ⟨zs5, Evl.sq_of hq5⟩, fun D5 hD5 => ?_⟩⟩
  have lz5 := pair_len pz5
  refine lc_part hD5 hq5 (fun _ => rfl) pz5 (by omega) (fun {x t kv kyv ov bv Hx} e ht => ?_) (fun {x t kv kyv ov bv Hx} e ht => ?_) fun H6 us e6 hus pus => ?_
  · subst e; exact Evl.et_test (Evl.ev_op (Evl.ev_op (Evl.ev_var rfl) Evl.ev_c (Evl.rv_ixT (Evl.st_of ht) (atI_nat (j := 0) rfl))) Evl.ev_c rv_notN)
  · subst e; exact Evl.ev_op (Evl.ev_var rfl) Evl.ev_c (Evl.rv_ixT (Evl.st_of ht) (atI_nat (j := 2) rfl))
  have pus : Paired (fun d z => Rep H6 4 Fs d z) (partsD m ds) us := pus
  have e46 := e5.trans e6
  have e26 := e24.trans e46
  have hL6 := e26 _ _ hL
  have pz6 := pair_imp pz fun _ _ h => PrR.ex e26 h
  have hws6 := e46 _ _ hws
  have pws6 := pair_imp pws fun _ _ h => rep_ex e46 h
  have pok := parts_ok nes
  have po6 := parts_ok nds
  have kvR : ∀ {Hx : Hp} {d : Ssb.D} {v : V}, OwnK d → Rep Hx 4 Fs d v → KeyV Hx d v := fun {Hx d v} o r => ⟨kd_le (by decide) o.1, .inr o.2, 4, Fs, r⟩
  -- the lost ones
  refine q_go ⟨_, rfl, D5, rfl, ⟨us, Evl.sq_of hus⟩, fun D7 hD7 => ?_⟩
  have lus := pair_len pus
  refine lc_list (xs := us) (fun c H' => Ex H6 H' ∧ ∃ acc, H' D7 = some (.lst acc) ∧ Paired (fun d z => Rep H' 5 Fs d z) ((((partsD m ds).take c).filter (lostP (tsP pl m ds es) (partsD m es))).map fun o => Ssb.D.tup [.str "lost", o]) acc) ⟨Ex.new hD7, [], upd_same, .nil⟩ (fun c H' _ p => Evl.sq_of (p.1 _ _ hus)) (fun c x H' hx pv => ?_) fun H7 pv => ?_
  · obtain ⟨ex, acc, hacc, pacc⟩ := pv
    obtain ⟨od, hod, ro⟩ := pair_back pus hx
    have ok := po6 od (List.mem_of_getElem? hod)
    have roX := rep_ex ex ro
    refine gname_go ⟨rfl, ?_⟩
    have t1 : EvT (tTest (tOp rInLK (tVar 10) (tVar 4))) [some (.ref pa), some (.ref o), some (.ref n), some (.ref L), some (.ref D3), some (.ref D5), none, none, none, none, some x] H' ((partsD m es).any fun e => decide (nkD e = nkD od)) :=
      Evl.et_test (Evl.ev_op (Evl.ev_var rfl) (Evl.ev_var rfl) fun Hy ey Q q' => ⟨od, D3, partsD m es, ws, rfl, kvR ok (rep_ex ey roX), (ex.trans ey) _ _ hws6, pair_impM pws6 fun a b ha _ h => kvR (pok a ha) (rep_ex (ex.trans ey) h), q' Hy (Ex.refl _)⟩)
    have t2 : EvT (tTest (tOp rNInLK (tTup (tCons (tVar 10) (tCons (tVar 10) tNil))) (tVar 3))) [some (.ref pa), some (.ref o), some (.ref n), some (.ref L), some (.ref D3), some (.ref D5), none, none, none, none, some x] H' (!(((tsP pl m ds es).map fun p => Ssb.D.tup [p.1, p.2]).any fun e => decide (nkD e = nkD (.tup [od, od])))) := by
      refine Evl.et_test fun Hy ey Q q' => ⟨_, rfl, _, rfl, (by show 2 ≤ sizeLine; decide), fun tp htp => ⟨_, rfl, .tup [od, od], L, _, zs, rfl, ?_, ?_, ?_, q' _ (Ex.new htp)⟩⟩
      · have en := Ex.new (o := .tup [x, x]) htp
        refine ⟨fun y hy => ?_, .inr ⟨_, rfl⟩, 5, Fs, tp, [x, x], rfl, upd_same, (by show 2 ≤ 100000; decide), .cons (rep_ex (ey.trans en) roX) (.cons (rep_ex (ey.trans en) roX) .nil)⟩
        rcases List.mem_cons.mp hy with rfl | hy
        · exact kd_le (by decide) ok.1
        · rw [List.mem_singleton.mp hy]; exact kd_le (by decide) ok.1
      · exact ((ex.trans ey).trans (Ex.new htp)) _ _ hL6
      · have en := (ex.trans ey).trans (Ex.new (o := .tup [x, x]) htp)
        refine pair_map (pair_impM pz6 fun p z hp _ h => ?_)
        obtain ⟨k1, k2⟩ := tok p hp
        obtain ⟨t, u, v, rfl, ht, ru, rv⟩ := PrR.ex en h
        refine ⟨fun y hy => ?_, .inr ⟨_, rfl⟩, 5, Fs, t, [u, v], rfl, ht, (by show 2 ≤ 100000; decide), .cons ru (.cons rv .nil)⟩
        rcases List.mem_cons.mp hy with rfl | hy
        · exact kd_le (by decide) k1.1
        · rw [List.mem_singleton.mp hy]; exact kd_le (by decide) k2.1
    refine (Evl.et_and t1 fun _ => t2) H' (Ex.refl _) _ fun H8 e8 => ?_
    have h8 := e8 _ _ hacc
    have pacc8 := pair_imp pacc fun _ _ h => rep_ex e8 h
    by_cases c0 : lostP (tsP pl m ds es) (partsD m es) od = true
    · rw [show ((((partsD m es).any fun e => decide (nkD e = nkD od)) && !(((tsP pl m ds es).map fun p => Ssb.D.tup [p.1, p.2]).any fun e => decide (nkD e = nkD (.tup [od, od]))))) = true from c0, if_pos rfl]
      refine ⟨_, rfl, (by show 2 ≤ sizeLine; decide), fun tp htp => ?_⟩
      have e9 := Ex.new (o := .tup [.str "lost", x]) htp
      have la : acc.length ≤ 30000 := by
        have := pair_len pacc
        rw [List.length_map] at this
        have := filt_le (f := lostP (tsP pl m ds es) (partsD m es)) (l := partsD m ds) (c := c)
        omega
      refine ⟨acc, e9 _ _ h8, Evl.sz_lt (by omega), Ex.mut ((ex.trans e8).trans e9) hD7, acc ++ [.ref tp], upd_same, ?_⟩
      have nl := Nl.upd (o := .lst (acc ++ [.ref tp])) (e9 _ _ h8)
      rw [filt_snoc hod, if_pos c0]
      exact pair_snoc (pair_imp pacc8 fun _ _ h => rep_nl nl (rep_ex e9 h)) (rep_nl nl ⟨tp, _, rfl, upd_same, (by show 2 ≤ 100000; decide), .cons rfl (.cons (rep_ex (e8.trans e9) roX) .nil)⟩)
    · rw [show ((((partsD m es).any fun e => decide (nkD e = nkD od)) && !(((tsP pl m ds es).map fun p => Ssb.D.tup [p.1, p.2]).any fun e => decide (nkD e = nkD (.tup [od, od]))))) = false from Bool.eq_false_iff.mpr c0, if_neg Bool.false_ne_true]
      refine ⟨ex.trans e8, acc, h8, ?_⟩
      rw [filt_snoc hod, if_neg c0, List.append_nil]
      exact pacc8
  obtain ⟨e7, acc, hacc, pacc⟩ := pv
  rw [List.take_of_length_le (by omega)] at pacc
  have pz7 := pair_imp pz6 fun _ _ h => PrR.ex e7 h
  -- the mixed ones
  refine ⟨_, rfl, _, rfl, L, rfl, ⟨zs, Evl.sq_of (e7 _ _ hL6)⟩, fun D8 hD8 => ?_⟩
  refine lc_list (xs := zs) (fun c H' => Ex H7 H' ∧ ∃ mx, H' D8 = some (.lst mx) ∧ Paired (fun d z => Rep H' 5 Fs d z) ((((tsP pl m ds es).take c).filter mixP).map fun p => Ssb.D.tup [.str "mixed", p.1, p.2]) mx) ⟨Ex.new hD8, [], upd_same, .nil⟩ (fun c H' _ p => Evl.sq_of (p.1 _ _ (e7 _ _ hL6))) (fun c x H' hx pv => ?_) fun H9 pv => ?_
  · obtain ⟨ex, mx, hmx, pmx⟩ := pv
    obtain ⟨p, hp, t, u, v, rfl, ht, ru, rv⟩ := pair_back pz7 hx
    obtain ⟨k1, k2⟩ := tok p (List.mem_of_getElem? hp)
    obtain ⟨lo, hlo⟩ := k2.2
    have ruX := rep_ex ex ru
    have rvX := rep_ex ex rv
    refine ⟨t, [u, v], rfl, Evl.st_of (ex _ _ ht), rfl, _, _, rfl, _, _, rfl, rfl, rfl, ?_⟩
    have t1 : EvT (tTest (tOp rNeK (tVar 7) (tVar 8))) [some (.ref pa), some (.ref o), some (.ref n), some (.ref L), some (.ref D3), some (.ref D5), some (.ref D7), some u, some v, none, none] H' (mixP p) := by
      refine Evl.et_test (Evl.ev_op (Evl.ev_var rfl) (Evl.ev_var rfl) fun Hy ey Q q' => ?_)
      refine ⟨p.1, lo, kvR k1 (rep_ex ey ruX), ?_, ?_⟩
      · rw [← hlo]; exact kvR k2 (rep_ex ey rvX)
      · rw [← hlo]; exact q' Hy (Ex.refl _)
    refine t1 H' (Ex.refl _) _ fun H8 e8 => ?_
    have h8 := e8 _ _ hmx
    have pmx8 := pair_imp pmx fun _ _ h => rep_ex e8 h
    by_cases c0 : mixP p = true
    · rw [if_pos c0]
      refine ⟨_, rfl, _, rfl, (by show 3 ≤ sizeLine; decide), fun tp htp => ?_⟩
      have e9 := Ex.new (o := .tup [.str "mixed", u, v]) htp
      have la : mx.length ≤ 30000 := by
        have := pair_len pmx
        rw [List.length_map] at this
        have := filt_le (f := mixP) (l := tsP pl m ds es) (c := c)
        omega
      refine ⟨mx, e9 _ _ h8, Evl.sz_lt (by omega), Ex.mut ((ex.trans e8).trans e9) hD8, mx ++ [.ref tp], upd_same, ?_⟩
      have nl := Nl.upd (o := .lst (mx ++ [.ref tp])) (e9 _ _ h8)
      rw [filt_snoc hp, if_pos c0]
      exact pair_snoc (pair_imp pmx8 fun _ _ h => rep_nl nl (rep_ex e9 h)) (rep_nl nl ⟨tp, _, rfl, upd_same, (by show 3 ≤ 100000; decide), .cons rfl (.cons (rep_ex (e8.trans e9) ruX) (.cons (rep_ex (e8.trans e9) rvX) .nil))⟩)
    · rw [if_neg c0]
      refine ⟨ex.trans e8, mx, h8, ?_⟩
      rw [filt_snoc hp, if_neg c0, List.append_nil]
      exact pmx8
  obtain ⟨e9, mx, hmx, pmx⟩ := pv
  rw [List.take_of_length_le (by have := pair_len pz7; omega)] at pmx
  have lacc := pair_len pacc
  have lmx := pair_len pmx
  rw [List.length_map] at lacc lmx
  have la1 := List.length_filter_le (lostP (tsP pl m ds es) (partsD m es)) (partsD m ds)
  have la2 := List.length_filter_le mixP (tsP pl m ds es)
  refine ⟨D7, D8, acc, mx, rfl, rfl, e9 _ _ hacc, hmx, Evl.sz_of (by omega), fun p hp => ?_⟩
  have e10 := Ex.new (o := .lst (acc ++ mx)) hp
  have e0F := e2.trans (e26.trans (e7.trans e9))
  exact k _ p (acc ++ mx) (e0F.trans e10) (Evl.fresh_back e0F hp) upd_same (pair_app (pair_imp pacc fun _ _ h => rep_ex (e9.trans e10) h) (pair_imp pmx fun _ _ h => rep_ex e10 h))
end
end Pk

namespace Pk
open PySem PySem.Spec PyProof.Rows L2 Ssb
open Evl (Ex Ev EvT EvL EvA EvU)
open Ssp (PEp PTp PSsp PSp PAp PTsp PWp PIp pi_listP ps_forP noX_cx0 ps_setP ps_retP pss_oneP pss_consP ps_ifP pt_notP pt_valP pa_consP pa_nilP pclG pclQ FnQ FnP)
/-! ### the law -/
/-- a rule made of a place -/
theorem mk_rule {C : Addr} {t : TA} {σ : L2.St} {H : Hp} {pl : Str} {Q : VK} (h : EvA t σ H [.str pl]) (hp : pl = "all" ∨ pl = "plain") (k : ∀ H1 p, Ex H H1 → RuleAt C H1 p pl → Q (.ref p) H1) : tMake C (spRInit C) [] E0 t σ H Q :=
  h H (Ex.refl _) _ fun H1 e1 x dx hx hd ne => by
    refine ⟨x, dx, pl, rfl, hp, upd_same, fun H' fr hr => ⟨rfl, k H' x (fun b o hb => ?_) hr⟩⟩
    have hb1 := e1 _ _ hb
    have n1 : b ≠ x := fun z => by rw [z, hx] at hb1; cases hb1
    have n2 : b ≠ dx := fun z => by rw [z, hd] at hb1; cases hb1
    exact fr b o n1 (by rw [upd_ne n1, upd_ne n2]; exact hb1)
section
variable {P : Program} {w : World} {K : PySem.W.Frag} {mg : Str → Option Value} {base : Heap} {C_Node C_Rule C_InvalidRule : Addr}
def spTree3 : Sp := fun vs H Q E => ∃ m, 1 ≤ m ∧ m ≤ 3 ∧ spTree m vs H Q E
theorem ok_tree3 (T : Txt K mg C_Node C_Rule C_InvalidRule) (R : Prg K mg C_Node C_Rule C_InvalidRule) : ∃ f fd, Fn P w K mg base "_law_tree" 6 ["_law_stream_here", "_law_most", "_law_deep", "_law_place"] spTree3 f fd := by
  obtain ⟨f, fd, at_, F, kp⟩ := R._law_tree
  have G := ok_treeF (P := P) (w := w) (base := base) T R at_ F kp
  refine ⟨f, fd, ⟨fun vs H Q E h => ?_, fun A outer s H args us vs Q E hr he hb hv hs => ?_⟩, at_, kp, (G 1).bd⟩
  · obtain ⟨m, h1, h2, h⟩ := h
    exact (G m).ok.len _ _ _ _ h
  · obtain ⟨m, h1, h2, h⟩ := hs
    exact (G m).ok.run A outer s H args us vs Q E (hr.mono (by omega)) he hb hv h
theorem tree_go {Q : VK} {E : XK} {S c pa : Addr} {t : Int} {H : Hp} (ht : 1 ≤ t ∧ t ≤ 3) (st : StAt H S c) (hpa : H pa = some (.tup [])) (k : ∀ H' q ds, Mv S c H H' → Rep H' 11 (fun b => H b = none) (.lst ds) (.ref q) → ds.length ≤ 6 → (∀ x ∈ ds, NdB 6 3 x) → (∀ g, Own g (ownsD 3 ds)) → Q (.ref q) H') : spTree3 [.ref S, .int 5, .int t, .ref pa] H Q E := by
  obtain ⟨m, rfl⟩ : ∃ m : Nat, t = (m : Int) := ⟨t.toNat, by omega⟩
  have h1 : 1 ≤ m := by omega
  have h2 : m ≤ 3 := by omega
  exact ⟨m, h1, h2, S, c, pa, 5, [], rfl, st, by decide, by decide, hpa, by show 0 + 2 * m ≤ 50; omega, h1, fun H' q ds mv r l n pd => k H' q ds mv (rep_le (by omega) r) l (fun x hx => NdB.le (Nat.le_refl _) h2 (n x hx)) fun g => by rw [owns_le h2 n]; exact pl_own pd⟩
end

theorem faults_kd {ts : List (D × D)} {pres owners : List D} (ht : ∀ p ∈ ts, OwnK p.1 ∧ OwnK p.2) (ho : ∀ o ∈ owners, OwnK o) : ∀ x ∈ faultsD ts pres owners, ∃ l, x = .tup l ∧ ∀ y ∈ l, kdD 3 y := fun x hx => by
  rcases List.mem_append.mp hx with hx | hx
  · obtain ⟨o, h, rfl⟩ := List.mem_map.mp hx
    refine ⟨_, rfl, fun y hy => ?_⟩
    rcases List.mem_cons.mp hy with rfl | hy
    · trivial
    · rw [List.mem_singleton.mp hy]; exact (ho o (List.mem_filter.mp h).1).1
  · obtain ⟨p, h, rfl⟩ := List.mem_map.mp hx
    have := ht p (List.mem_filter.mp h).1
    refine ⟨_, rfl, fun y hy => ?_⟩
    rcases List.mem_cons.mp hy with rfl | hy
    · trivial
    rcases List.mem_cons.mp hy with rfl | hy
    · exact this.1.1
    · rw [List.mem_singleton.mp hy]; exact this.2.1
theorem faults_len {pl : Str} {ds es : List D} (nds : ∀ d ∈ ds, NdD 3 d) (nes : ∀ d ∈ es, NdD 3 d) (l1 : ds.length ≤ 24) (l2 : es.length ≤ 24) : (faultsD (tsP pl 3 ds es) (partsD 3 es) (partsD 3 ds)).length ≤ 100000 := by
  unfold faultsD
  rw [List.length_append, List.length_map, List.length_map]
  have h1 := List.length_filter_le (lostP (tsP pl 3 ds es) (partsD 3 es)) (partsD 3 ds)
  have h2 := List.length_filter_le mixP (tsP pl 3 ds es)
  have h3 : (tsP pl 3 ds es).length ≤ 14424 := by
    unfold tsP
    rw [List.length_map]
    exact Nat.le_trans (List.length_filter_le _ _) (Nat.le_trans (pairs_len l2 nes) (by decide))
  have h4 : (partsD 3 ds).length ≤ 14424 := by
    unfold partsD
    rw [List.length_map]
    exact Nat.le_trans (List.length_filter_le _ _) (Nat.le_trans (nodes_len l1 nds) (by decide))
  omega
theorem kd_knL {l : List D} (h : ∀ x ∈ l, ∃ ys, x = .tup ys ∧ ∀ y ∈ ys, kdD 3 y) : ∀ n, kn (n + 2) (.lst l) := fun n x hx => by
  obtain ⟨ys, rfl, hy⟩ := h x hx
  exact fun y h => kd_kn (hy y h)
section
variable {K : PySem.W.Frag} {CN CR : Addr} {σ : L2.St} {H : Hp}
theorem due_go {i1 i2 n1 n2 : Nat} {u1 u2 : Addr} {S1 S2 : Addr → Prop} {pl : Str} {ds es : List D} {Q : VK} (h1 : σ[i1]? = some (some (.ref u1))) (h2 : σ[i2]? = some (some (.ref u2))) (h6 : σ[6]? = some (some (.str pl))) (r1 : Rep H n1 S1 (.lst ds) (.ref u1)) (r2 : Rep H n2 S2 (.lst es) (.ref u2)) (nds : ∀ d ∈ ds, NdD 3 d) (nes : ∀ d ∈ es, NdD 3 d) (l1 : ds.length ≤ 24) (l2 : es.length ≤ 24)
    (k : ∀ H' L zs, Ex H H' → H' L = some (.lst zs) → Paired (fun d z => Rep H' 5 Fs d z) (faultsD (tsP pl 3 ds es) (partsD 3 es) (partsD 3 ds)) zs → Q (.ref L) H') :
    tCall (fun vs H Q E => ∃ pl, spFaulty pl 3 vs H Q E) [] E0 (tCons (tCall (spPairs 4) [] E0 (tCons (tVar i1) (tCons (tVar i2) (tCons (tVar 6) tNil)))) (tCons (tVar i1) (tCons (tVar i2) tNil))) σ H Q := by
  refine ⟨_, h1, _, h2, _, h6, u1, u2, n1, n2, pl, S1, S2, ds, es, rfl, r1, r2, nds, nes, l1, l2, by decide, fun H1 q ps e1 hq0 hq pps => ?_⟩
  exact ⟨_, h1, _, h2, pl, q, u1, u2, n1, n2, S1, S2, ds, es, ps, rfl, hq, pps, rep_ex e1 r1, rep_ex e1 r2, nds, nes, l1, l2, by decide, by decide, fun H2 L zs e2 hL0 hL pz => k H2 L zs (e1.trans e2) hL pz⟩
theorem ask_ev {j1 j2 : Nat} {v1 v2 L : Addr} {pl : Str} {ds es : List D} {xs ys zs : List V} (h1 : σ[j1]? = some (some (.ref v1))) (h2 : σ[j2]? = some (some (.ref v2))) (h6 : σ[6]? = some (some (.str pl))) (h7 : σ[7]? = some (some (.ref L))) (hpl : pl = "all" ∨ pl = "plain") (hv1 : H v1 = some (.lst xs)) (hv2 : H v2 = some (.lst ys))
    (n1 : Paired (fun d x => NodeR CN K H 3 d x) ds xs) (n2 : Paired (fun d x => NodeR CN K H 3 d x) es ys) (nds : ∀ d ∈ ds, NdD 3 d) (nes : ∀ d ∈ es, NdD 3 d) (l1 : ds.length ≤ 24) (l2 : es.length ≤ 24) (uA : (ownsD 3 ds).Nodup) (uB : (ownsD 3 es).Nodup) (hL : H L = some (.lst zs)) (pz : Paired (fun d z => Rep H 5 Fs d z) (faultsD (tsP pl 3 ds es) (partsD 3 es) (partsD 3 ds)) zs) :
    Ev (tCall (spSame 6) [] E0 (tCons (tCall (spFaults CN CR K 3) [] E0 (tCons (tMake CR (spRInit CR) [] E0 (tCons (tVar 6) tNil)) (tCons (tVar j1) (tCons (tVar j2) tNil)))) (tCons (tVar 7) tNil))) σ H (.bl true) := fun H1 e1 Q q => by
  show tMake CR (spRInit CR) [] E0 (tCons (tVar 6) tNil) σ H1 (fun x H2 => (tCons (tVar j1) (tCons (tVar j2) tNil)) σ H2 fun xs H3 => spFaults CN CR K 3 ((x :: xs) ++ []) H3 (fun y H4 => (tCons (tVar 7) tNil) σ H4 fun ys H5 => spSame 6 ((y :: ys) ++ []) H5 Q E0) E0)
  refine mk_rule (Evl.ea_cons (Evl.ev_var h6) Evl.ea_nil) hpl fun H2 p e2 hp => ?_
  have e02 := e1.trans e2
  refine ⟨_, h1, _, h2, p, v1, v2, pl, ds, es, xs, ys, rfl, hp, e02 _ _ hv1, e02 _ _ hv2, pair_imp n1 fun a b h => NodeR.ex e02 h, pair_imp n2 fun a b h => NodeR.ex e02 h, nds, nes, l1, l2, by decide, by decide, uA, uB, fun H3 q3 zs3 e3 hq30 hq3 p3 => ?_⟩
  have e03 := e02.trans e3
  have ne : q3 ≠ L := fun e => by rw [e, e02 _ _ hL] at hq30; cases hq30
  have len := faults_len (pl := pl) nds nes l1 l2
  exact ⟨_, h7, .ref q3, .ref L, (fun b => b = q3), (fun b => b = L), .lst _, rfl, ⟨q3, zs3, rfl, rfl, hq3, len, pair_imp p3 fun d z h => rep_S (fun b hb => hb.elim) h⟩, ⟨L, zs, rfl, rfl, e03 _ _ hL, len, pair_imp pz fun d z h => rep_S (fun b hb => hb.elim) (rep_ex e03 h)⟩, fun b h1 h2 => ne (h1.symm.trans h2), kd_knL (faults_kd (tsP_ok nds nes) (parts_ok nds)) _, fun H4 e4 => q H4 ((e2.trans e3).trans e4)⟩
theorem ask_none {v1 u2 n2 : Nat} {S2 : Addr → Prop} {pl : Str} {es : List D} {xs : List V} (h1 : σ[5]? = some (some (.ref v1))) (h2 : σ[3]? = some (some (.ref u2))) (h6 : σ[6]? = some (some (.str pl))) (hpl : pl = "all" ∨ pl = "plain") (hv1 : H v1 = some (.lst xs))
    (n1 : Paired (fun d x => NodeR CN K H 3 d x) es xs) (r2 : Rep H n2 S2 (.lst es) (.ref u2)) (nes : ∀ d ∈ es, NdD 3 d) (l2 : es.length ≤ 24) (uB : (ownsD 3 es).Nodup) :
    Ev (tCall (spSame 6) [] E0 (tCons (tCall (spFaults CN CR K 3) [] E0 (tCons (tMake CR (spRInit CR) [] E0 (tCons (tVar 6) tNil)) (tCons (tVar 5) (tCons (tCall (spBuilt CN K 3) [] E0 (tCons (tVar 3) tNil)) tNil)))) (tCons (tLst tNil) tNil))) σ H (.bl true) := fun H1 e1 Q q => by
  show tMake CR (spRInit CR) [] E0 (tCons (tVar 6) tNil) σ H1 (fun x H2 => (tCons (tVar 5) (tCons (tCall (spBuilt CN K 3) [] E0 (tCons (tVar 3) tNil)) tNil)) σ H2 fun xs H3 => spFaults CN CR K 3 ((x :: xs) ++ []) H3 (fun y H4 => (tCons (tLst tNil) tNil) σ H4 fun ys H5 => spSame 6 ((y :: ys) ++ []) H5 Q E0) E0)
  refine mk_rule (Evl.ea_cons (Evl.ev_var h6) Evl.ea_nil) hpl fun H2 p e2 hp => ?_
  have e02 := e1.trans e2
  refine ⟨_, h1, _, h2, u2, n2, S2, es, rfl, rep_ex e02 r2, nes, by omega, by decide, fun Hb qb ys eb hqb0 hqb nB => ?_⟩
  have e0b := e02.trans eb
  obtain ⟨dx, hpp⟩ := hp
  refine ⟨p, v1, qb, pl, es, es, xs, ys, rfl, ⟨dx, eb _ _ hpp⟩, e0b _ _ hv1, hqb, pair_imp n1 fun a b h => NodeR.ex e0b h, nB, nes, nes, l2, l2, by decide, by decide, uB, uB, fun H3 q3 zs3 e3 hq30 hq3 p3 => ?_⟩
  rw [self_faults nes] at p3
  cases p3
  refine ⟨(by show 0 ≤ sizeLine; decide), fun L hL => ?_⟩
  have e4 := Ex.new (o := .lst []) hL
  have ne : q3 ≠ L := fun e => by rw [← e, hq3] at hL; cases hL
  exact ⟨.ref q3, .ref L, (fun b => b = q3), (fun b => b = L), .lst [], rfl, ⟨q3, [], rfl, rfl, e4 _ _ hq3, by decide, .nil⟩, ⟨L, [], rfl, rfl, upd_same, by decide, .nil⟩, fun b h1 h2 => ne (h1.symm.trans h2), (fun x h => nomatch h), fun H5 e5 => q H5 (((e2.trans eb).trans e3).trans (e4.trans e5))⟩
end
theorem main_ok {l : PySem.W.OpenLaw} {w : World} {K : PySem.W.Frag} {mg : Str → Option Value} {fa C_Node C_Rule C_InvalidRule : Addr} (T : Txt K mg C_Node C_Rule C_InvalidRule) (R : Prg K mg C_Node C_Rule C_InvalidRule) (hfa : mg "law" = some (.ref fa)) :
    ∃ fd : FuncData, (∀ (s : Shared) (v : Value), BindsTo s fd ⟨[v], []⟩ [("_law_script", v)]) ∧ ∀ base : Heap, K.In base → base.Ns mainGlobals mg → FnP l.prog w K mg base CX0 60 fa fd ["_law_script"] (spLaw K) := by
  obtain ⟨f, fd, at_, F, kp⟩ := R.law
  have e := hfa.symm.trans at_
  cases e
  obtain ⟨oc, od, kV, doc, pm, an, cdv0, ct, osl, rfl, lk, hcd⟩ := F.ex
  refine ⟨PySem.W.fnOf "law" "law" (defArgs s_law) (defBody s_law) (defScope s_law) .none kV doc pm an cdv0 ct, fun s v => .of_eq rfl, fun base _ _ => ?_⟩
  obtain ⟨_, _, G__law_stream⟩ := ok__law_stream (P := l.prog) (w := w) (base := base) T R
  obtain ⟨_, _, G__law_draw⟩ := ok__law_draw (P := l.prog) (w := w) (base := base) T R
  obtain ⟨_, _, G__law_tree⟩ := ok_tree3 (P := l.prog) (w := w) (base := base) T R
  obtain ⟨_, _, G__law_edited⟩ := ok__law_edited (P := l.prog) (w := w) (base := base) T R 4
  obtain ⟨_, _, G__law_built⟩ := ok__law_built (P := l.prog) (w := w) (base := base) T R 3
  obtain ⟨_, _, G__law_pairs⟩ := ok__law_pairs (P := l.prog) (w := w) (base := base) T R 4
  obtain ⟨_, _, G__law_faulty⟩ := ok__law_faulty (P := l.prog) (w := w) (base := base) T R 3
  obtain ⟨_, _, G__law_same⟩ := ok__law_same (P := l.prog) (w := w) (base := base) T R 6
  obtain ⟨_, _, G__law_tree_same⟩ := ok__law_tree_same (P := l.prog) (w := w) (base := base) T R 4
  obtain ⟨_, _, G_faults⟩ := ok_faults (P := l.prog) (w := w) (base := base) T R 3
  obtain ⟨_, _, G_Rule⟩ := ok_Rule_init (P := l.prog) (w := w) (base := base) T R
  refine Ssp.fn_ofP (k := 59) cx0 lk hcd sc_law (fun vs H Q E h => ?_) (fun A outer s H vs Q E hr h => ?_)
  · obtain ⟨a, ns, rfl, _⟩ := h; rfl
  obtain ⟨a, ns, rfl, hs, ns63, k⟩ := h
  refine ⟨_, pss_consP (.up (ps_set (i := 1) sc_law.nd rfl (Or.inl rfl) (pcl G__law_stream hr (pa_cons (pv 0) pa_nil))))
    (pss_consP (.up (ps_set (i := 2) sc_law.nd rfl (Or.inl rfl) (pcl G__law_tree hr (pa_cons (pv 1) (pa_cons pe_int (pa_cons (pe_op op_add pe_int (pcl G__law_draw hr (pa_cons (pv 1) (pa_cons pe_int pa_nil)))) (pa_cons (pe_tup pa_nil) pa_nil)))))))
    (pss_consP (.up (ps_set (i := 3) sc_law.nd rfl (Or.inl rfl) (pcl G__law_edited hr (pa_cons (pv 1) (pa_cons (pv 2) (pa_cons (pe_lst (pa_cons pe_int pa_nil)) pa_nil))))))
    (pss_consP (.up (ps_set (i := 4) sc_law.nd rfl (Or.inl rfl) (pcl G__law_built hr (pa_cons (pv 2) pa_nil))))
    (pss_consP (.up (ps_set (i := 5) sc_law.nd rfl (Or.inl rfl) (pcl G__law_built hr (pa_cons (pv 3) pa_nil))))
    (pss_consP (ps_forP noX_cx0 rfl (show PI _ _ _ (iTup K _) from pi_tup (pe_tup (pa_cons pe_str (pa_cons pe_str pa_nil)))) (pg_name (i := 6) sc_law.nd rfl (Or.inl rfl))
      (pss_consP (.up (ps_set (i := 7) sc_law.nd rfl (Or.inl rfl) (pcl G__law_faulty hr (pa_cons (pcl G__law_pairs hr (pa_cons (pv 2) (pa_cons (pv 3) (pa_cons (pv 6) pa_nil)))) (pa_cons (pv 2) (pa_cons (pv 3) pa_nil))))))
      (pss_consP (ps_ifP (pt_notP (pt_valP (pclG G__law_same hr (pa_consP (pclQ G_faults hr (PAp.up (pa_cons (pmkF G_Rule T.mk_Rule T.kp_Rule T.at_Rule hr (pa_cons (pv 6) pa_nil)) (pa_cons (pv 4) (pa_cons (pv 5) pa_nil))))) (pa_consP (PEp.up (pv 7)) pa_nilP))))) (PSsp.up pss_never) (PSsp.up pss_nil))
      (pss_consP (.up (ps_set (i := 7) sc_law.nd rfl (Or.inl rfl) (pcl G__law_faulty hr (pa_cons (pcl G__law_pairs hr (pa_cons (pv 3) (pa_cons (pv 2) (pa_cons (pv 6) pa_nil)))) (pa_cons (pv 3) (pa_cons (pv 2) pa_nil))))))
      (pss_consP (ps_ifP (pt_notP (pt_valP (pclG G__law_same hr (pa_consP (pclQ G_faults hr (PAp.up (pa_cons (pmkF G_Rule T.mk_Rule T.kp_Rule T.at_Rule hr (pa_cons (pv 6) pa_nil)) (pa_cons (pv 5) (pa_cons (pv 4) pa_nil))))) (pa_consP (PEp.up (pv 7)) pa_nilP))))) (PSsp.up pss_never) (PSsp.up pss_nil))
      (pss_oneP (ps_ifP (pt_notP (pt_valP (pclG G__law_same hr (pa_consP (pclQ G_faults hr (PAp.up (pa_cons (pmkF G_Rule T.mk_Rule T.kp_Rule T.at_Rule hr (pa_cons (pv 6) pa_nil)) (pa_cons (pv 5) (pa_cons (pcl G__law_built hr (pa_cons (pv 3) pa_nil)) pa_nil))))) (pa_consP (PEp.up (pe_lst pa_nil)) pa_nilP))))) (PSsp.up pss_never) (PSsp.up pss_nil))))))))
    (pss_oneP (.up (ps_ret (pe_and (pcl G__law_tree_same hr (pa_cons (pv 4) (pa_cons (pv 2) pa_nil))) (pe_one (pcl G__law_tree_same hr (pa_cons (pv 5) (pa_cons (pv 3) pa_nil))))))))))))), ?_⟩
  refine q_go ⟨_, rfl, a, ns, rfl, hs, fun H1 S c st => ?_⟩
  refine q_go ⟨_, rfl, ?_⟩
  refine dr_go (m := 3) (Evl.ea_cons (Evl.ev_var rfl) (Evl.ea_cons Evl.ev_c Evl.ea_nil)) st (by decide) (by decide) fun H3 z m3 z0 z1 => ⟨_, _, rfl, rfl, (by show 0 ≤ sizeLine; decide), fun pt hpt => ?_⟩
  have m3t := Mv.new (o := .tup []) m3.z hpt
  refine tree_go ⟨by omega, by omega⟩ m3t.z upd_same fun H4 q4 ds m4 rds lds nds ods => ?_
  -- the edited nodes
  refine q_go ⟨_, rfl, _, rfl, (by show 1 ≤ sizeLine; decide), fun pf hpf => ?_⟩
  have e45 := Ex.new (o := .lst [.int 0]) hpf
  have st5 := m4.z.ex e45
  obtain ⟨nS, nc⟩ := m4.z.someS hpf
  have hP : ∀ b, ((upd H3 pt (.tup [])) b = none ∧ H4 b ≠ none) → b ≠ S ∧ b ≠ c ∧ b ≠ pf := fun b hb => ⟨(m3t.z.someS hb.1).1, (m3t.z.someS hb.1).2, fun e => hb.2 (by rw [e]; exact hpf)⟩
  have rds5 := rep_ex e45 (rep_dom rds)
  refine ⟨S, c, pf, q4, 11, _, ds, 6, 0, rfl, ⟨st5, nS, nc, 0, upd_same⟩, upd_same, rds5, hP, nds, lds, by decide, fun H6 q6 es g1 m6 res les nes hf6 tr1 => ?_⟩
  have rds6 := rep_mf m6 hP rds5
  have nds24 : ∀ x ∈ ds, NdD 3 x := fun x hx => NdB.le (by decide) (Nat.le_refl _) (nds x hx)
  have nes24 : ∀ x ∈ es, NdD 3 x := fun x hx => NdB.le (by decide) (Nat.le_refl _) (nes x hx)
  have uA := (ods 0).1
  have uB := (tr1.own (ods 0)).1
  have lds : ds.length ≤ 24 := by omega
  have les : es.length ≤ 24 := by omega
  refine q_go ⟨_, rfl, q4, 11, _, ds, rfl, rds6, nds24, by omega, by decide, fun Ha qa xs ea hqa0 hqa nodesA => ?_⟩
  refine q_go ⟨_, rfl, q6, 11, _, es, rfl, rep_ex ea res, nes24, by omega, by decide, fun Hb qb ys eb hqb0 hqb nodesB => ?_⟩
  have e0b := ea.trans eb
  have roB := rep_ex e0b rds6
  have rnB := rep_ex e0b res
  have hqaB := eb _ _ hqa
  have nodesA := pair_imp nodesA fun a b h => NodeR.ex eb h
  refine q_seq ⟨(by show 2 ≤ sizeLine; decide), fun pp hpp => ⟨pp, rfl, ⟨_, Evl.st_of upd_same⟩, ?_⟩⟩
  have ep := Ex.new (o := .tup [.str "plain", .str "all"]) hpp
  refine for_tup (xs := [.str "plain", .str "all"]) (fun i σ' Hx => ∃ o6 o7 : Option V, σ' = [some (.ref a), some (.ref S), some (.ref q4), some (.ref q6), some (.ref qa), some (.ref qb), o6, o7] ∧ Ex (upd Hb pp (.tup [.str "plain", .str "all"])) Hx) ⟨_, _, rfl, Ex.refl _⟩ (fun i σ' Hx _ h => ?_) (fun i v σ' Hx hv pv => ?_) fun σ' Hx pv => ?_
  · obtain ⟨_, _, _, ex⟩ := h
    exact Evl.st_of (ex _ _ upd_same)
  · obtain ⟨o6, o7, rfl, ex⟩ := pv
    have exb := ep.trans ex
    obtain ⟨pl, rfl, hpl⟩ : ∃ pl, v = .str pl ∧ (pl = "all" ∨ pl = "plain") := by
      have hm := List.mem_of_getElem? hv
      rcases List.mem_cons.mp hm with rfl | hm
      · exact ⟨_, rfl, .inr rfl⟩
      · rw [List.mem_singleton.mp hm]; exact ⟨_, rfl, .inl rfl⟩
    refine gname_go ?_
    refine q_go (due_go (pl := pl) rfl rfl rfl (rep_ex exb roB) (rep_ex exb rnB) nds24 nes24 lds les fun H2 L zs e2 hL pz => ?_)
    have e2b := exb.trans e2
    refine Evl.q_when (b := false) (Evl.et_is (Evl.et_not (a := true) (Evl.et_B (ask_ev (pl := pl) rfl rfl rfl rfl hpl (e2b _ _ hqaB) (e2b _ _ hqb) (pair_imp nodesA fun a b h => NodeR.ex e2b h) (pair_imp nodesB fun a b h => NodeR.ex e2b h) nds24 nes24 lds les uA uB hL pz))) rfl) (fun h => nomatch h) fun _ H3 e3 => ?_
    have e3b := e2b.trans e3
    refine q_go (due_go (pl := pl) rfl rfl rfl (rep_ex e3b rnB) (rep_ex e3b roB) nes24 nds24 les lds fun H4 L4 zs4 e4 hL4 pz4 => ?_)
    have e4b := e3b.trans e4
    refine Evl.q_when (b := false) (Evl.et_is (Evl.et_not (a := true) (Evl.et_B (ask_ev (pl := pl) rfl rfl rfl rfl hpl (e4b _ _ hqb) (e4b _ _ hqaB) (pair_imp nodesB fun a b h => NodeR.ex e4b h) (pair_imp nodesA fun a b h => NodeR.ex e4b h) nes24 nds24 les lds uB uA hL4 pz4))) rfl) (fun h => nomatch h) fun _ H5 e5 => ?_
    have e5b := e4b.trans e5
    refine Evl.s_when (b := false) (Evl.et_is (Evl.et_not (a := true) (Evl.et_B (ask_none (pl := pl) rfl rfl rfl hpl (e5b _ _ hqb) (pair_imp nodesB fun a b h => NodeR.ex e5b h) (rep_ex e5b rnB) nes24 les uB))) rfl) (fun h => nomatch h) fun _ H6 e6 => ?_
    exact ⟨_, _, rfl, ex.trans (e2.trans (e3.trans (e4.trans (e5.trans e6))))⟩
  · obtain ⟨o6, o7, rfl, ex⟩ := pv
    have exb := ep.trans ex
    dsimp only
    refine Evl.s_ret (v := .bl true) (Evl.ev_is (Evl.ev_andV (a := true) (b := true) ?_ fun _ => ?_) rfl) fun H9 e9 => k H9
    · exact ev_fn (Evl.ea_cons (Evl.ev_var rfl) (Evl.ea_cons (Evl.ev_var rfl) Evl.ea_nil)) fun H9 e9 Q q => ⟨qa, q4, qa, 11, _, ds, xs, rfl, (exb.trans e9) _ _ hqaB, pair_imp nodesA fun a b h => NodeR.ex (exb.trans e9) h, rep_ex (exb.trans e9) roB, nds24, lds, fun H' e' => q H' e'⟩
    · exact ev_fn (Evl.ea_cons (Evl.ev_var rfl) (Evl.ea_cons (Evl.ev_var rfl) Evl.ea_nil)) fun H9 e9 Q q => ⟨qb, q6, qb, 11, _, es, ys, rfl, (exb.trans e9) _ _ hqb, pair_imp nodesB fun a b h => NodeR.ex (exb.trans e9) h, rep_ex (exb.trans e9) rnB, nes24, les, fun H' e' => q H' e'⟩
end Pk

namespace Pk
open PySem PySem.Spec PyProof.Rows L2 Ssb
theorem all_mk {t_c1 t_c2 : Tok} {l : PySem.W.OpenLaw} {w : World} {K : PySem.W.Frag} {h : Heap} {mg : Str → Option Value} {fa C_Node C_Rule C_InvalidRule : Addr} (X : K.In h) (G : h.Ns mainGlobals mg) (hfa : mg "law" = some (.ref fa))
    (aNode : PySem.W.nsIn K mainGlobals "Node" = some (some (.ref C_Node)))
    (pgNode : PySem.W.plainGet K C_Node Str.empty = true)
    (hdNode : PySem.W.hasDictIn K C_Node = true)
    (poNode : PySem.W.plainOver K C_Node = true)
    (saNode : PySem.W.findIn K (.ref C_Node) "__setattr__" = some (some (.builtin "object.__setattr__")))
    (mkNode : PySem.W.makesIn K C_Node = true)
    (kcNode : PySem.W.keepIn K (.ref C_Node) = true)
    (nNodekind : PySem.W.findIn K (.ref C_Node) "kind" = some none)
    (nNodekey : PySem.W.findIn K (.ref C_Node) "key" = some none)
    (nNodeowner : PySem.W.findIn K (.ref C_Node) "owner" = some none)
    (nNodeinside : PySem.W.findIn K (.ref C_Node) "inside" = some none)
    (aRule : PySem.W.nsIn K mainGlobals "Rule" = some (some (.ref C_Rule)))
    (pgRule : PySem.W.plainGet K C_Rule Str.empty = true)
    (hdRule : PySem.W.hasDictIn K C_Rule = true)
    (poRule : PySem.W.plainOver K C_Rule = true)
    (saRule : PySem.W.findIn K (.ref C_Rule) "__setattr__" = some (some (.builtin "object.__setattr__")))
    (mkRule : PySem.W.makesIn K C_Rule = true)
    (kcRule : PySem.W.keepIn K (.ref C_Rule) = true)
    (nRuleplace : PySem.W.findIn K (.ref C_Rule) "place" = some none)
    (aInvalidRule : PySem.W.nsIn K mainGlobals "InvalidRule" = some (some (.ref C_InvalidRule)))
    (ovInvalidRule : PySem.W.excOver K C_InvalidRule exBm = true)
    (mdInvalidRule : PySem.W.excInitIn K C_InvalidRule exBm "Exception.__new__" = true)
    (hdInvalidRule : PySem.W.hasDictIn K C_InvalidRule = true)
    (saInvalidRule : PySem.W.findIn K (.ref C_InvalidRule) "__setattr__" = some (some (.builtin "object.__setattr__")))
    (ecInvalidRule : PySem.W.subIn K (.ref C_InvalidRule) (.type "BaseException") = some true)
    (tyInvalidRule : PySem.W.typeIn K (.ref C_InvalidRule) = some (.type "type"))
    (kcInvalidRule : PySem.W.keepIn K (.ref C_InvalidRule) = true)
    (gaInvalidRule : PySem.W.findIn K (.ref C_InvalidRule) "__getattribute__" = some (some (.builtin "BaseException.__getattribute__")))
    (ggInvalidRule : PySem.W.findIn K (.ref C_InvalidRule) "__getattr__" = some none)
    (owInvalidRule : PySem.W.exmOne K (.ref C_InvalidRule) (.ref C_InvalidRule) = some true)
    (klInvalidRule : PySem.W.findIn K (.ref C_InvalidRule) "__class__" = some (some (.builtin "object.__class__")))
    (knInvalidRule : PySem.W.specialIn K (.builtin "object.__class__") "__get__" = some (some (.builtin "getset_descriptor.__get__")))
    (ktInvalidRule : PySem.W.takesIn K (.builtin "object.__class__") = some true)
    (kmInvalidRule : PySem.W.mroIn K C_InvalidRule (.type "object") = some true)
    (nInvalidRuleplace : PySem.W.findIn K (.ref C_InvalidRule) "place" = some none)
    (seInvalidRule : PySem.W.kitOne K (.ref C_InvalidRule) (.ref C_InvalidRule) = some true)
    (r1 : PySem.W.readsIn K C_Rule (.type "type") = true)
    (r2 : PySem.W.specialIn K (.ref C_Rule) "__getattribute__" = some (some (.builtin "type.__getattribute__")))
    (c1 : PySem.W.findCls K (.ref C_Rule) (.type "type") "ALL" = some (.val (.str "all" t_c1)))
    (c2 : PySem.W.findCls K (.ref C_Rule) (.type "type") "PLAIN" = some (.val (.str "plain" t_c2)))
    (nlN : PySem.W.findIn K (.ref C_Node) "__class__" = some (some (.builtin "object.__class__")))
    (nmN : PySem.W.mroIn K C_Node (.type "object") = some true)
    (nsN : PySem.W.kitOne K (.ref C_Node) (.ref C_Node) = some true)
    (ngN : PySem.W.specialIn K (.builtin "object.__class__") "__get__" = some (some (.builtin "getset_descriptor.__get__")))
    (ntN : PySem.W.takesIn K (.builtin "object.__class__") = some true)
    (z_enumerate : PySem.W.nsIn K mainGlobals "enumerate" = some none)
    (z_int : PySem.W.nsIn K mainGlobals "int" = some none)
    (z_str : PySem.W.nsIn K mainGlobals "str" = some none)
    (z_bool : PySem.W.nsIn K mainGlobals "bool" = some none)
    (z_isinstance : PySem.W.nsIn K mainGlobals "isinstance" = some none)
    (z_len : PySem.W.nsIn K mainGlobals "len" = some none)
    (z_list : PySem.W.nsIn K mainGlobals "list" = some none)
    (z_range : PySem.W.nsIn K mainGlobals "range" = some none)
    (z_zip : PySem.W.nsIn K mainGlobals "zip" = some none)
    (z_tuple : PySem.W.nsIn K mainGlobals "tuple" = some none)
    (z_dict : PySem.W.nsIn K mainGlobals "dict" = some none)
    (d_Node_init : ∃ t0 : Addr, (∃ o n, K.lookup t0 = some o ∧ o.cls = .type "tuple" ∧ o.data = .seq #[] n) ∧ HereMD K C_Node "__init__" "Node.__init__" s_Node_init [.ref t0])
    (d_Node_below : HereM K C_Node "below" "Node.below" s_Node_below)
    (d_Node_walk : HereM K C_Node "walk" "Node.walk" s_Node_walk)
    (d_part_owners : Here K mg "part_owners" s_part_owners)
    (d_Rule_init : HereMD K C_Rule "__init__" "Rule.__init__" s_Rule_init [.str "all"])
    (d_Rule___call__ : HereM K C_Rule "__call__" "Rule.__call__" s_Rule___call__)
    (d_matched : Here K mg "matched" s_matched)
    (d_faults : Here K mg "faults" s_faults)
    (d__law_stream : Here K mg "_law_stream" s__law_stream)
    (d__law_draw : Here K mg "_law_draw" s__law_draw)
    (d__law_same : Here K mg "_law_same" s__law_same)
    (d__law_tree_key : Here K mg "_law_tree_key" s__law_tree_key)
    (d__law_tree : Here K mg "_law_tree" s__law_tree)
    (d__law_edited : Here K mg "_law_edited" s__law_edited)
    (d__law_built : Here K mg "_law_built" s__law_built)
    (d__law_partner : Here K mg "_law_partner" s__law_partner)
    (d__law_pairs : Here K mg "_law_pairs" s__law_pairs)
    (d__law_walked : Here K mg "_law_walked" s__law_walked)
    (d__law_faulty : Here K mg "_law_faulty" s__law_faulty)
    (d__law_tree_same : Here K mg "_law_tree_same" s__law_tree_same)
    (d_law : Here K mg "law" s_law) :
    ∃ fd : FuncData, (∀ (s : Shared) (v : Value), BindsTo s fd ⟨[v], []⟩ [("_law_script", v)]) ∧ ∀ base : Heap, K.In base → base.Ns mainGlobals mg → Ssp.FnP l.prog w K mg base CX0 60 fa fd ["_law_script"] (spLaw K) := by
  have T : Txt K mg C_Node C_Rule C_InvalidRule := { enumerate := PySem.W.mg_none_of X G z_enumerate, int := PySem.W.mg_none_of X G z_int, str := PySem.W.mg_none_of X G z_str, bool := PySem.W.mg_none_of X G z_bool, isinstance := PySem.W.mg_none_of X G z_isinstance, len := PySem.W.mg_none_of X G z_len, list := PySem.W.mg_none_of X G z_list, range := PySem.W.mg_none_of X G z_range, zip := PySem.W.mg_none_of X G z_zip, tuple := PySem.W.mg_none_of X G z_tuple, dict := PySem.W.mg_none_of X G z_dict, cl_Node := ⟨pgNode, hdNode, poNode, saNode⟩, mk_Node := mkNode, kp_Node := kcNode, at_Node := PySem.W.mg_of X G aNode, no_Node_kind := nNodekind, no_Node_key := nNodekey, no_Node_owner := nNodeowner, no_Node_inside := nNodeinside, cl_Rule := ⟨pgRule, hdRule, poRule, saRule⟩, mk_Rule := mkRule, kp_Rule := kcRule, at_Rule := PySem.W.mg_of X G aRule, kl_Node := nlN, km_Node := nmN, se_Node := nsN, gt_cls := ngN, tk_cls := ntN, cr_Rule := r1, cg_Rule := r2, all_Rule := ⟨_, c1⟩, pl_Rule := ⟨_, c2⟩, no_Rule_place := nRuleplace, ox_InvalidRule := ⟨ovInvalidRule, mdInvalidRule, hdInvalidRule, saInvalidRule, ecInvalidRule, tyInvalidRule, kcInvalidRule⟩, at_InvalidRule := PySem.W.mg_of X G aInvalidRule, xk_InvalidRule := ⟨⟨gaInvalidRule, ggInvalidRule, ecInvalidRule, hdInvalidRule⟩, exk_cl hdInvalidRule, klInvalidRule, knInvalidRule, ktInvalidRule, kmInvalidRule⟩, own_InvalidRule := owInvalidRule, no_InvalidRule_place := nInvalidRuleplace, se_InvalidRule := seInvalidRule }
  have R : Prg K mg C_Node C_Rule C_InvalidRule := { Node_init := d_Node_init, Node_below := d_Node_below, Node_walk := d_Node_walk, part_owners := d_part_owners, Rule_init := d_Rule_init, Rule___call__ := d_Rule___call__, matched := d_matched, faults := d_faults, _law_stream := d__law_stream, _law_draw := d__law_draw, _law_same := d__law_same, _law_tree_key := d__law_tree_key, _law_tree := d__law_tree, _law_edited := d__law_edited, _law_built := d__law_built, _law_partner := d__law_partner, _law_pairs := d__law_pairs, _law_walked := d__law_walked, _law_faulty := d__law_faulty, _law_tree_same := d__law_tree_same, law := d_law }
  exact main_ok T R hfa
theorem walk {l : PySem.W.OpenLaw} {q : Program} {loose : List Str} {XP : (Str → Option Value) → Heap → Prop} {YP : World → Heap → Prop} {d : DefRec} {K : Params → PySem.W.Frag} (hn : l.most = some 63) (hdf : d.params.defaults = [])
    (hY : ∀ (w : World) (h : Heap), YP w h → (K w.params).In h)
    (F : ∀ (w : World) (mg : Str → Option Value) (fa : Addr) (h : Heap), (K w.params).In h → h.Ns mainGlobals mg → mg d.name = some (.ref fa) →
      ∃ fd : FuncData, (∀ (s : Shared) (u : Value), BindsTo s fd ⟨[u], []⟩ [("_law_script", u)]) ∧ ∀ base : Heap, (K w.params).In base → base.Ns mainGlobals mg → Ssp.FnP l.prog w (K w.params) mg base CX0 60 fa fd ["_law_script"] (spLaw (K w.params))) :
    Ssp.WalkP q loose XP YP l.row.toRowW d [] :=
  Ssp.walk_plus (n := 63) (k := 60) (x := "_law_script") (sp := fun w => spLaw (K w.params)) hn (by decide) hdf ⟨rfl, by decide, by decide⟩ hY F fun _ _ a ns hl _ _ hS => ⟨a, ns, rfl, hS, hl, fun _ => rfl⟩
end Pk
open PySem PySem.W PyProof.Rows
namespace Zh
set_option maxRecDepth 100000 in
set_option maxHeartbeats 0 in
theorem main24 : PySem.Challenge.rw_statestay_k24_faults_found.Holds := by
  w_on; o_law; k_head; (case hw => w_witness2)
  k_fill
  refine Pk.walk (l := PySem.Challenge.rw_statestay_k24_faults_found) rfl rfl (fun w h Y => PySem.W.kIn_of Y) ?F
  case F =>
    intro w mg fa h KX G hmg
    refine' Pk.all_mk KX G hmg ?aNode ?pgNode ?hdNode ?poNode ?saNode ?mkNode ?kcNode ?nNodekind ?nNodekey ?nNodeowner ?nNodeinside ?aRule ?pgRule ?hdRule ?poRule ?saRule ?mkRule ?kcRule ?nRuleplace ?aInvalidRule ?ovInvalidRule ?mdInvalidRule ?hdInvalidRule ?saInvalidRule ?ecInvalidRule ?tyInvalidRule ?kcInvalidRule ?gaInvalidRule ?ggInvalidRule ?owInvalidRule ?klInvalidRule ?knInvalidRule ?ktInvalidRule ?kmInvalidRule ?nInvalidRuleplace ?seInvalidRule ?r1 ?r2 ?c1 ?c2 ?nlN ?nmN ?nsN ?ngN ?ntN ?z_enumerate ?z_int ?z_str ?z_bool ?z_isinstance ?z_len ?z_list ?z_range ?z_zip ?z_tuple ?z_dict ?d_Node_init ?d_Node_below ?d_Node_walk ?d_part_owners ?d_Rule_init ?d_Rule___call__ ?d_matched ?d_faults ?d__law_stream ?d__law_draw ?d__law_same ?d__law_tree_key ?d__law_tree ?d__law_edited ?d__law_built ?d__law_partner ?d__law_pairs ?d__law_walked ?d__law_faulty ?d__law_tree_same ?d_law
    (case aNode => k_is)
    (case pgNode => k_is)
    (case hdNode => k_is)
    (case poNode => k_is)
    (case saNode => k_is)
    (case mkNode => k_is)
    (case kcNode => k_is)
    (case nNodekind => k_is)
    (case nNodekey => k_is)
    (case nNodeowner => k_is)
    (case nNodeinside => k_is)
    (case aRule => k_is)
    (case pgRule => k_is)
    (case hdRule => k_is)
    (case poRule => k_is)
    (case saRule => k_is)
    (case mkRule => k_is)
    (case kcRule => k_is)
    (case nRuleplace => k_is)
    (case aInvalidRule => k_is)
    (case ovInvalidRule => first | k_is | kx_is)
    (case mdInvalidRule => first | k_is | kx_is)
    (case hdInvalidRule => k_is)
    (case saInvalidRule => k_is)
    (case ecInvalidRule => first | k_is | kx_is)
    (case tyInvalidRule => first | k_is | kx_is)
    (case kcInvalidRule => k_is)
    (case gaInvalidRule => k_is)
    (case ggInvalidRule => k_is)
    (case owInvalidRule => kts_exm)
    (case klInvalidRule => k_is)
    (case knInvalidRule => k_is)
    (case ktInvalidRule => k_is)
    (case kmInvalidRule => k_is)
    (case nInvalidRuleplace => k_is)
    (case seInvalidRule => kit_is)
    (case r1 => k_is)
    (case r2 => k_is)
    (case c1 => k_is)
    (case c2 => k_is)
    (case nlN => k_is)
    (case nmN => k_is)
    (case nsN => kit_is)
    (case ngN => k_is)
    (case ntN => k_is)
    (case z_enumerate => k_is)
    (case z_int => k_is)
    (case z_str => k_is)
    (case z_bool => k_is)
    (case z_isinstance => k_is)
    (case z_len => k_is)
    (case z_list => k_is)
    (case z_range => k_is)
    (case z_zip => k_is)
    (case z_tuple => k_is)
    (case z_dict => k_is)
    (case d_Node_init => (refine' Pk.nodeD_mk ?nz ?nq1 ?nq2 ?nq3; (case nz => (refine' Pk.hereMD_mk ?a ?i ?l ?c ?k ?lT ?oT ?r; (case a => k_is); (case i => k_is); (case l => k_is); (case c => k_is); (case k => k_is); (case lT => k_is); (case oT => rfl); (case r => exact rfl))); (case nq1 => k_is); (case nq2 => rfl); (case nq3 => rfl)))
    (case d_Node_below => (refine' Pk.hereM_mk ?a ?i ?l ?c ?k; (case a => k_is); (case i => k_is); (case l => k_is); (case c => k_is); (case k => k_is)))
    (case d_Node_walk => (refine' Pk.hereM_mk ?a ?i ?l ?c ?k; (case a => k_is); (case i => k_is); (case l => k_is); (case c => k_is); (case k => k_is)))
    (case d_part_owners => (refine' Pk.here_mk KX G ?a ?l ?c ?k; (case a => k_is); (case l => k_is); (case c => k_is); (case k => k_is)))
    (case d_Rule_init => (refine' Pk.hereMD_mk ?a ?i ?l ?c ?k ?lT ?oT ?r; (case a => k_is); (case i => k_is); (case l => k_is); (case c => k_is); (case k => k_is); (case lT => k_is); (case oT => rfl); (case r => exact ⟨_, rfl⟩)))
    (case d_Rule___call__ => (refine' Pk.hereM_mk ?a ?i ?l ?c ?k; (case a => k_is); (case i => k_is); (case l => k_is); (case c => k_is); (case k => k_is)))
    (case d_matched => (refine' Pk.here_mk KX G ?a ?l ?c ?k; (case a => k_is); (case l => k_is); (case c => k_is); (case k => k_is)))
    (case d_faults => (refine' Pk.here_mk KX G ?a ?l ?c ?k; (case a => k_is); (case l => k_is); (case c => k_is); (case k => k_is)))
    (case d__law_stream => (refine' Pk.here_mk KX G ?a ?l ?c ?k; (case a => k_is); (case l => k_is); (case c => k_is); (case k => k_is)))
    (case d__law_draw => (refine' Pk.here_mk KX G ?a ?l ?c ?k; (case a => k_is); (case l => k_is); (case c => k_is); (case k => k_is)))
    (case d__law_same => (refine' Pk.here_mk KX G ?a ?l ?c ?k; (case a => k_is); (case l => k_is); (case c => k_is); (case k => k_is)))
    (case d__law_tree_key => (refine' Pk.here_mk KX G ?a ?l ?c ?k; (case a => k_is); (case l => k_is); (case c => k_is); (case k => k_is)))
    (case d__law_tree => (refine' Pk.here_mk KX G ?a ?l ?c ?k; (case a => k_is); (case l => k_is); (case c => k_is); (case k => k_is)))
    (case d__law_edited => (refine' Pk.here_mk KX G ?a ?l ?c ?k; (case a => k_is); (case l => k_is); (case c => k_is); (case k => k_is)))
    (case d__law_built => (refine' Pk.here_mk KX G ?a ?l ?c ?k; (case a => k_is); (case l => k_is); (case c => k_is); (case k => k_is)))
    (case d__law_partner => (refine' Pk.here_mk KX G ?a ?l ?c ?k; (case a => k_is); (case l => k_is); (case c => k_is); (case k => k_is)))
    (case d__law_pairs => (refine' Pk.here_mk KX G ?a ?l ?c ?k; (case a => k_is); (case l => k_is); (case c => k_is); (case k => k_is)))
    (case d__law_walked => (refine' Pk.here_mk KX G ?a ?l ?c ?k; (case a => k_is); (case l => k_is); (case c => k_is); (case k => k_is)))
    (case d__law_faulty => (refine' Pk.here_mk KX G ?a ?l ?c ?k; (case a => k_is); (case l => k_is); (case c => k_is); (case k => k_is)))
    (case d__law_tree_same => (refine' Pk.here_mk KX G ?a ?l ?c ?k; (case a => k_is); (case l => k_is); (case c => k_is); (case k => k_is)))
    (case d_law => (refine' Pk.here_mk KX G ?a ?l ?c ?k; (case a => k_is); (case l => k_is); (case c => k_is); (case k => k_is)))
end Zh
theorem PySem.Challenge.cw_statestay_k24_faults_found_holds : PySem.Challenge.rw_statestay_k24_faults_found.Holds := by
  exact Zh.main24
