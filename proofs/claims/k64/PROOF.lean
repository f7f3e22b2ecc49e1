import PyProof.Rows.All
import Wide.All
import OpenK.AllK
import Wide.FinOn
import KE.KExcInit
import KE.KExcIs
import PyProof.Rows.StrIntSpec
import PyProof.ListStr
import PyProof.EqAt
import PyProof.StrOps2
import PyProof.EqKinds
import PyProof.FactsAll.dict
import KE.KEqNest
import KE.KFmtOwn
import KE.KExcLine
import KE.RegKIsAll
import KE.RegKTryMore
import HandS.ForMost
import HandS.Evl
import HandS.IsInst
import HandS.DictComp
import HandS.SetKeys
import HandS.Strs
import HandS.Wide
import HandS.Walk
import HandS.Conv
import HandS.More
import HandS.TupAny
import HandS.Rev
import HandS.SetBool
import HandS.Exc
import HandS.ExcInit
import HandS.ExcField
import HandS.CallSlots
import HandS.WordsExc
import HandS.RevTup
import HandS.TupLe
import HandS.FStr
import HandS.Deep
import HandS.DictEq
import HandS.DeepEq
import HandS.OwnEq
import HandS.Text
import HandS.StrMore
import HandS.SortKw
import HandS.CallLocal
import HandS.MapJoin
import HandS.WideBits
import PySem.Challenge.RW_statestay_k64_whole_shapes_as_texts
set_option Elab.async false
set_option linter.all false
set_option maxRecDepth 100000
set_option maxHeartbeats 3100000
/-! Sets of texts of any size: set(xs) of a list or a tuple, and their length. -/
namespace Ssb
open PySem PySem.Spec PyProof.Rows L2

/-- acc and, behind it, what of the list was not met before -/
def met : List Str → List Str → List Str
  | acc, [] => acc
  | acc, x :: r => met (if x ∈ acc then acc else acc ++ [x]) r
theorem met_len : ∀ (l acc : List Str), (met acc l).length ≤ acc.length + l.length
  | [], acc => Nat.le_refl _
  | x :: r, acc => by
    have h := met_len r (if x ∈ acc then acc else acc ++ [x])
    show (met (if x ∈ acc then acc else acc ++ [x]) r).length ≤ acc.length + (r.length + 1)
    refine Nat.le_trans h ?_
    by_cases hx : x ∈ acc
    · rw [if_pos hx]; omega
    · rw [if_neg hx, List.length_append, List.length_singleton]; omega
theorem met_nodup : ∀ (l acc : List Str), (acc ++ l).Nodup → met acc l = acc ++ l
  | [], acc, _ => by rw [List.append_nil]; rfl
  | x :: r, acc, h => by
    have hx : ¬ x ∈ acc := fun hm => by
      have := (List.nodup_append.mp h).2.2 x hm x List.mem_cons_self
      exact this rfl
    show met (if x ∈ acc then acc else acc ++ [x]) r = acc ++ x :: r
    rw [if_neg hx, met_nodup r (acc ++ [x]) (by rw [List.append_assoc]; exact h), List.append_assoc]
    rfl
theorem met_in (acc : List Str) (x k : Str) : (decide (k ∈ acc) || decide (k = x)) = decide (k ∈ (if x ∈ acc then acc else acc ++ [x])) := by
  by_cases hx : x ∈ acc
  · rw [if_pos hx]
    by_cases e : k = x
    · rw [e, decide_eq_true hx]; rfl
    · rw [decide_eq_false e, Bool.or_false]
  · rw [if_neg hx]
    by_cases e : k = x
    · rw [e, decide_eq_true rfl, Bool.or_true, decide_eq_true (List.mem_append_right _ List.mem_cons_self)]
    · by_cases h2 : k ∈ acc
      · rw [decide_eq_true h2, decide_eq_true (List.mem_append_left _ h2)]; rfl
      · rw [decide_eq_false h2, decide_eq_false e, decide_eq_false]; rfl
        intro z
        rcases List.mem_append.mp z with z | z
        · exact h2 z
        · exact e (List.mem_singleton.mp z)
theorem met_size (acc : List Str) (x : Str) : (if decide (x ∈ acc) = true then acc.length else acc.length + 1) = (if x ∈ acc then acc else acc ++ [x]).length := by
  by_cases hx : x ∈ acc
  · rw [if_pos hx, decide_eq_true hx, if_pos rfl]
  · rw [if_neg hx, decide_eq_false hx, if_neg Bool.false_ne_true, List.length_append]; rfl
theorem cod_some {xs : List Str} {i : Nat} (h : i < xs.length) : xs.drop i = xs.getD i Str.empty :: xs.drop (i + 1) := by
  rw [List.drop_eq_getElem_cons h, List.getD_eq_getElem?_getD, List.getElem?_eq_getElem h, Option.getD_some]

section
variable {prog : Program} {w : World} {A : Around} {R : Result → Shared → Prop} {I S : Addr} {fp wr : List Addr} {G : Array GenState → Array GenState → Prop} {n : Nat} {P : Nat → Value → Prop} {St : Nat → Shared → Prop}
/-- set.update's own loop over texts -/
theorem upd_loop (W : WalksS prog w A.in1 I fp wr G n P St) (nS : S ∉ fp) {xs : List Str} (len : xs.length = n) (val : ∀ i v, P i v → ∃ t, v = .str (xs.getD i Str.empty) t) (few : n + 1 < scanBound) :
    ∀ (m i : Nat) (acc : List Str) (s : Shared), i + m = n → acc.length ≤ i → St i s → s.heap.SetOf (PySem.strKind prog w) S (fun k => decide (k ∈ acc)) acc.length →
      (∀ s2, Moved (S :: wr) G s s2 → s2.heap.SetOf (PySem.strKind prog w) S (fun k => decide (k ∈ met acc (xs.drop i))) (met acc (xs.drop i)).length → R (.ok (.ret .none)) s2) →
      codeAny (model prog w) A (.builtin "set.update.loop" ⟨[.ref S, .ref I], []⟩) R s := by
  have nw : S ∉ wr := fun hm => nS (W.sub S hm)
  have up : ∀ b, b ∈ wr → b ∈ S :: wr := fun b => List.mem_cons_of_mem S
  have stays : ∀ {s s2 : Shared} {T : Str → Bool} {c : Nat}, Moved wr G s s2 → s.heap.SetOf (PySem.strKind prog w) S T c → s2.heap.SetOf (PySem.strKind prog w) S T c := fun mv ⟨o, a1, a2, a3, q, r⟩ => ⟨o, a1, a2, a3, mv.heap S o nw q, r⟩
  intro m
  induction m with
  | zero =>
    intro i acc s e _ st so k
    obtain rfl : i = n := e
    refine codeAny_builtin PyProof.Rows.F.entry_set_update_loop ?_
    rw [Around.under_plainId PyProof.Rows.F.plain_set_update_loop]
    refine wpAny_bind (W.done s _ _ st fun s2 mv => wpAny_pure (k s2 (mv.mono up) ?_))
    rw [List.drop_of_length_le (Nat.le_of_eq len)]
    exact stays mv so
  | succ m ih =>
    intro i acc s e la st so k
    have lt : i < n := by omega
    refine codeAny_builtin PyProof.Rows.F.entry_set_update_loop ?_
    rw [Around.under_plainId PyProof.Rows.F.plain_set_update_loop]
    refine wpAny_bind (W.item i s _ _ lt st fun v s2 pv st2 mv => ?_)
    obtain ⟨t, rfl⟩ := val i v pv
    have so2 := stays mv so
    refine wpAny_bind (wpAny_holding ?_)
    unfold setAdd
    refine wpAny_holding (wpAny_bind ((PySem.strKind prog w).pyHash (k := xs.getD i Str.empty) (strKind_is _ _ _ _) ?_))
    refine wpAny_setAddHashed_of (knd := PySem.strKind prog w) (s := { s2 with toks := s2.toks + 1 }) (strKind_is _ _ _ _) rfl so2 (by omega) fun h3 sb so3 => ?_
    have out : ∀ b, b ≠ S → ∀ o, s2.heap.get? b = some o → h3.get? b = some o := fun b hb o q => (sb.2 b hb).trans q
    have so4 : h3.SetOf (PySem.strKind prog w) S (fun k' => decide (k' ∈ (if xs.getD i Str.empty ∈ acc then acc else acc ++ [xs.getD i Str.empty]))) (if xs.getD i Str.empty ∈ acc then acc else acc ++ [xs.getD i Str.empty]).length :=
      SetOf_congr so3 (fun k' => met_in _ _ _) (met_size _ _)
    have len4 : (if xs.getD i Str.empty ∈ acc then acc else acc ++ [xs.getD i Str.empty]).length ≤ i + 1 := by
      by_cases hx : xs.getD i Str.empty ∈ acc
      · rw [if_pos hx]; omega
      · rw [if_neg hx, List.length_append, List.length_singleton]; omega
    refine wpAny_pure ⟨plainId_quiet PyProof.Rows.F.plain_set_update_loop _, ih (i + 1) _ { s2 with heap := h3, toks := s2.toks + 1 } (by omega) len4 (W.frame _ s2 _ _ st2 (Nat.le_succ _) fun b hb o q => out b (fun z => nS (z ▸ hb)) o q) so4 fun s5 mv5 so5 => k s5 ?_ ?_⟩
    · exact Moved.trans W.gtrans ((mv.mono up).then_heap (Nat.le_succ _) fun b o hb q => out b (fun z => hb (z ▸ List.mem_cons_self)) o q) mv5
    · rw [cod_some (by omega)]
      exact so5
end

/-- what stands at the new set's place at first -/
abbrev bare (led : Bool) : Obj := { cls := .type "set", dict := none, data := .set #[] 0 (.fresh 0 0 led) }
section
variable {prog : Program} {w : World} {A : Around} {E : Value → Shared → Prop} {s : Shared} {src : Addr} {items : Array Value} {xs : List Str}
set_option maxHeartbeats 3200000 in
/-- set(list of texts) -/
theorem set_list {Q : Value → Shared → Prop} (calm : A.handled = none) (at_ : s.heap.IsList src items) (are : PyProof.Rows.StrsAre items.toList xs) (few : xs.length + 1 < scanBound)
    (k : ∀ (h2 : Heap) (tk : Nat), h2.SetOf (PySem.strKind prog w) s.heap.objs.size (fun k' => decide (k' ∈ met [] xs)) (met [] xs).length → (∀ b o, s.heap.get? b = some o → h2.get? b = some o) → Q (.ref s.heap.objs.size) { s with heap := h2, toks := tk }) :
    wpAny (model prog w) A (call (.type "set") [.ref src]) Q E s := by
  have m1 := PySem.F.called_set.mro
  obtain ⟨_, _, hm⟩ := m1
  have made := PySem.F.called_set.made
  have below := PySem.F.called_set.sub
  refine wpAny_call (codeAny_of_tree ?_)
  show wpAny _ _ (callAny (Value.type "set") ⟨[Value.ref src], []⟩) _ _ _
  refine wpAny_pure (And.intro (Code.quiet_builtin _ (by decide +kernel)) (codeAny_builtin PySem.F.entry_type_call ?_))
  rw [Around.under_plain (weight_type_call_type "set" [Value.ref src] []) rfl]
  have n1 := PySem.F.called_set.notType
  have n2 := PySem.F.called_set.canCreate
  have n3 := PySem.F.typeCall_set_1 (Value.ref src)
  repeat any_goals first | wp_step | assumption
  refine codeAny_mono (code_set_new_1 (Value.ref src) (E := E) (Q₁ := fun x s1 => ∃ led, x = .ref s.heap.objs.size ∧ s1 = { s with heap := s.heap.push (bare led) }) fun led => ⟨led, rfl, rfl⟩) fun r s1 back => ?_
  cases r with
  | error e => exact back
  | ok fl =>
    cases fl with
    | next => exact back.elim
    | brk => exact back.elim
    | cont => exact back.elim
    | ret x =>
      obtain ⟨led, rfl, rfl⟩ := back
      have gS : (s.heap.push (bare led)).get? s.heap.objs.size = some (bare led) := Heap.get?_push_size _ rfl
      have tS : Shared.TypeIs { s with heap := s.heap.push (bare led) } (.ref s.heap.objs.size) "set" := ⟨_, gS, rfl⟩
      have i1 := PySem.F.called_set.init.lookup
      have i2 := PySem.F.called_set.init.bind (.ref s.heap.objs.size)
      repeat any_goals first | wp_step | assumption
      refine codeAny_mono (codeAny_call_builtin (R := wants (fun r s2 => r = .none ∧ ∃ h2 tk, s2 = { s with heap := h2, toks := tk } ∧ h2.SetOf (PySem.strKind prog w) s.heap.objs.size (fun k' => decide (k' ∈ met [] xs)) (met [] xs).length ∧
        ∀ b o, s.heap.get? b = some o → h2.get? b = some o) E) PySem.F.called_set.init.plain PySem.F.entry_set_init (check_set_init_1 tS ?_)) fun r2 s2 back2 => ?_
      · obtain ⟨ol, gl, cl, nl, dl⟩ := at_
        obtain ⟨ocls, odict, odata, oslots⟩ := ol
        simp only at cl dl
        subst cl; subst dl
        have gl' : (s.heap.push (bare led)).get? src = some { cls := .type "list", dict := odict, data := .seq items nl, slots := oslots } := Heap.get?_push_of_some _ gl
        have u1 := PySem.F.sub_list_set
        have u2 := PySem.F.sub_list_frozenset
        have u3 : (Value.type "list" == Value.type "dict") = false := by decide
        have at2 : (s.heap.push (bare led)).IsList src items := ⟨_, gl', rfl, nl, rfl⟩
        unfold Builtin.«set.__init__» noKeywords Builtin.Frozenset.updateFrom
        generalize hide : pyIter = PI
        wp_walk
        subst hide
        refine wpAny_pyIter_list at2 (wpAny_bind (wpAny_runValue ?_))
        have small : src < s.heap.objs.size := Heap.lt_size gl
        have calm3 : A.in1.in1.in1.handled = none := by simp [calm]
        have z1 : (s.heap.push (bare led)).objs.size = s.heap.objs.size + 1 := Heap.size_push ..
        have d1 : src ≠ (s.heap.push (bare led)).objs.size := by rw [z1]; exact Nat.ne_of_lt (Nat.lt_succ_of_lt small)
        have d2 : s.heap.objs.size ∉ [(s.heap.push (bare led)).objs.size, src] := by
          rw [z1]
          intro hm2
          rcases List.mem_cons.mp hm2 with e | hm2
          · exact Nat.ne_of_lt (Nat.lt_succ_self _) e
          · exact Nat.ne_of_gt small (List.mem_singleton.mp hm2)
        have sz : xs.length = items.size := by rw [← StrsAre.len_eq are, Array.length_toList]
        have vals : ∀ (i : Nat) (v : Value), items[i]? = some v → ∃ t, v = .str (xs.getD i Str.empty) t := fun i v hv => SS.strs_at are i v (by rw [Array.getElem?_toList]; exact hv)
        refine upd_loop (S := s.heap.objs.size) ((Walks.list calm3 _ src d1 items).toS) d2 sz vals (by omega) items.size 0 [] _ (Nat.zero_add _) (Nat.le_refl _) ⟨⟨_, Heap.get?_push_size _ rfl, rfl, rfl⟩, (at2.push _)⟩ ?first ?last
        case first =>
          exact SetOf_congr ((setObjOf_fresh (knd := PySem.strKind prog w) led).setOf (Heap.get?_push_of_some _ gS) (by decide)) (fun _ => rfl) rfl
        case last =>
          intro s' mv so
          obtain ⟨h', g', d', tk', os'⟩ := s'
          obtain rfl : g' = s.gens := mv.gens
          obtain rfl : d' = s.drawn := mv.drawn
          obtain rfl : os' = s.os := mv.os
          refine wpAny_pure (wpAny_pure ⟨rfl, h', tk', rfl, so, fun b o q => ?_⟩)
          have lb : b < s.heap.objs.size := Heap.lt_size q
          refine mv.heap b o (fun hm2 => ?_) (Heap.get?_push_of_some _ (Heap.get?_push_of_some _ q))
          rcases List.mem_cons.mp hm2 with e | hm2
          · exact Nat.ne_of_lt lb e
          · have e2 := List.mem_singleton.mp hm2
            rw [z1] at e2
            exact Nat.ne_of_lt (Nat.lt_succ_of_lt lb) e2
      · cases r2 with
        | error e => exact back2
        | ok fl2 =>
          cases fl2 with
          | next => exact back2.elim
          | brk => exact back2.elim
          | cont => exact back2.elim
          | ret r =>
            obtain ⟨rfl, h2, tk, rfl, so, kp⟩ := back2
            repeat any_goals first | wp_step | assumption
            exact k _ _ so kp
set_option maxHeartbeats 3200000 in
/-- set(tuple of texts) -/
theorem set_tuple {Q : Value → Shared → Prop} (calm : A.handled = none) (at_ : s.heap.IsTuple src items) (are : PyProof.Rows.StrsAre items.toList xs) (few : xs.length + 1 < scanBound)
    (k : ∀ (h2 : Heap) (tk : Nat), h2.SetOf (PySem.strKind prog w) s.heap.objs.size (fun k' => decide (k' ∈ met [] xs)) (met [] xs).length → (∀ b o, s.heap.get? b = some o → h2.get? b = some o) → Q (.ref s.heap.objs.size) { s with heap := h2, toks := tk }) :
    wpAny (model prog w) A (call (.type "set") [.ref src]) Q E s := by
  have m1 := PySem.F.called_set.mro
  obtain ⟨_, _, hm⟩ := m1
  have made := PySem.F.called_set.made
  have below := PySem.F.called_set.sub
  refine wpAny_call (codeAny_of_tree ?_)
  show wpAny _ _ (callAny (Value.type "set") ⟨[Value.ref src], []⟩) _ _ _
  refine wpAny_pure (And.intro (Code.quiet_builtin _ (by decide +kernel)) (codeAny_builtin PySem.F.entry_type_call ?_))
  rw [Around.under_plain (weight_type_call_type "set" [Value.ref src] []) rfl]
  have n1 := PySem.F.called_set.notType
  have n2 := PySem.F.called_set.canCreate
  have n3 := PySem.F.typeCall_set_1 (Value.ref src)
  repeat any_goals first | wp_step | assumption
  refine codeAny_mono (code_set_new_1 (Value.ref src) (E := E) (Q₁ := fun x s1 => ∃ led, x = .ref s.heap.objs.size ∧ s1 = { s with heap := s.heap.push (bare led) }) fun led => ⟨led, rfl, rfl⟩) fun r s1 back => ?_
  cases r with
  | error e => exact back
  | ok fl =>
    cases fl with
    | next => exact back.elim
    | brk => exact back.elim
    | cont => exact back.elim
    | ret x =>
      obtain ⟨led, rfl, rfl⟩ := back
      have gS : (s.heap.push (bare led)).get? s.heap.objs.size = some (bare led) := Heap.get?_push_size _ rfl
      have tS : Shared.TypeIs { s with heap := s.heap.push (bare led) } (.ref s.heap.objs.size) "set" := ⟨_, gS, rfl⟩
      have i1 := PySem.F.called_set.init.lookup
      have i2 := PySem.F.called_set.init.bind (.ref s.heap.objs.size)
      repeat any_goals first | wp_step | assumption
      refine codeAny_mono (codeAny_call_builtin (R := wants (fun r s2 => r = .none ∧ ∃ h2 tk, s2 = { s with heap := h2, toks := tk } ∧ h2.SetOf (PySem.strKind prog w) s.heap.objs.size (fun k' => decide (k' ∈ met [] xs)) (met [] xs).length ∧
        ∀ b o, s.heap.get? b = some o → h2.get? b = some o) E) PySem.F.called_set.init.plain PySem.F.entry_set_init (check_set_init_1 tS ?_)) fun r2 s2 back2 => ?_
      · obtain ⟨ol, gl, cl, nl, dl⟩ := at_
        obtain ⟨ocls, odict, odata, oslots⟩ := ol
        simp only at cl dl
        subst cl; subst dl
        have gl' : (s.heap.push (bare led)).get? src = some { cls := .type "tuple", dict := odict, data := .seq items nl, slots := oslots } := Heap.get?_push_of_some _ gl
        have u1 := PySem.F.sub_tuple_set
        have u2 := PySem.F.sub_tuple_frozenset
        have u3 : (Value.type "tuple" == Value.type "dict") = false := by decide
        have at2 : (s.heap.push (bare led)).IsTuple src items := ⟨_, gl', rfl, nl, rfl⟩
        unfold Builtin.«set.__init__» noKeywords Builtin.Frozenset.updateFrom
        generalize hide : pyIter = PI
        wp_walk
        subst hide
        refine wpAny_pyIter_tuple at2 (wpAny_bind (wpAny_runValue ?_))
        have small : src < s.heap.objs.size := Heap.lt_size gl
        have calm3 : A.in1.in1.in1.handled = none := by simp [calm]
        have z1 : (s.heap.push (bare led)).objs.size = s.heap.objs.size + 1 := Heap.size_push ..
        have d1 : src ≠ (s.heap.push (bare led)).objs.size := by rw [z1]; exact Nat.ne_of_lt (Nat.lt_succ_of_lt small)
        have d2 : s.heap.objs.size ∉ [(s.heap.push (bare led)).objs.size, src] := by
          rw [z1]
          intro hm2
          rcases List.mem_cons.mp hm2 with e | hm2
          · exact Nat.ne_of_lt (Nat.lt_succ_self _) e
          · exact Nat.ne_of_gt small (List.mem_singleton.mp hm2)
        have sz : xs.length = items.size := by rw [← StrsAre.len_eq are, Array.length_toList]
        have vals : ∀ (i : Nat) (v : Value), items[i]? = some v → ∃ t, v = .str (xs.getD i Str.empty) t := fun i v hv => SS.strs_at are i v (by rw [Array.getElem?_toList]; exact hv)
        refine upd_loop (S := s.heap.objs.size) ((Walks.tuple calm3 _ src d1 items).toS) d2 sz vals (by omega) items.size 0 [] _ (Nat.zero_add _) (Nat.le_refl _) ⟨⟨_, Heap.get?_push_size _ rfl, rfl, rfl⟩, (at2.push _)⟩ ?first ?last
        case first =>
          exact SetOf_congr ((setObjOf_fresh (knd := PySem.strKind prog w) led).setOf (Heap.get?_push_of_some _ gS) (by decide)) (fun _ => rfl) rfl
        case last =>
          intro s' mv so
          obtain ⟨h', g', d', tk', os'⟩ := s'
          obtain rfl : g' = s.gens := mv.gens
          obtain rfl : d' = s.drawn := mv.drawn
          obtain rfl : os' = s.os := mv.os
          refine wpAny_pure (wpAny_pure ⟨rfl, h', tk', rfl, so, fun b o q => ?_⟩)
          have lb : b < s.heap.objs.size := Heap.lt_size q
          refine mv.heap b o (fun hm2 => ?_) (Heap.get?_push_of_some _ (Heap.get?_push_of_some _ q))
          rcases List.mem_cons.mp hm2 with e | hm2
          · exact Nat.ne_of_lt lb e
          · have e2 := List.mem_singleton.mp hm2
            rw [z1] at e2
            exact Nat.ne_of_lt (Nat.lt_succ_of_lt lb) e2
      · cases r2 with
        | error e => exact back2
        | ok fl2 =>
          cases fl2 with
          | next => exact back2.elim
          | brk => exact back2.elim
          | cont => exact back2.elim
          | ret r =>
            obtain ⟨rfl, h2, tk, rfl, so, kp⟩ := back2
            repeat any_goals first | wp_step | assumption
            exact k _ _ so kp
end
end Ssb

/-! Sets of texts as tracked things: set(xs), {text for ..}, their len. -/
namespace Ssb
open PySem PySem.Spec PyProof.Rows L2

/-- at a: the set of the texts of l -/
def Txs (P : Program) (w : World) (a : Addr) (l : List Str) : HO := .ext fun h => h.SetOf (PySem.strKind P w) a (fun k => decide (k ∈ l)) l.length
/-- l with x at its end, if it is not there -/
def put1 (l : List Str) (x : Str) : List Str := if x ∈ l then l else l ++ [x]
theorem put1_len (l : List Str) (x : Str) : (put1 l x).length ≤ l.length + 1 := by
  unfold put1
  by_cases h : x ∈ l
  · rw [if_pos h]; omega
  · rw [if_neg h, List.length_append]; exact Nat.le_refl _
section
variable {P : Program} {w : World} {X : Cx}
theorem txs_ok {H : Hp} {h : Heap} {a : Addr} {l : List Str} (r : h.SetOf (PySem.strKind P w) a (fun k => decide (k ∈ l)) l.length) : ObjOk P w H h a (Txs P w a l) := by
  refine ⟨r, ?_, fun g1 g2 p k => ?_⟩
  · obtain ⟨o, _, _, _, q, _⟩ := r; exact ⟨o, q⟩
  · obtain ⟨o, b1, b2, b3, q, r2⟩ := p; exact ⟨o, b1, b2, b3, k o q, r2⟩
theorem txs_at {pins : List (Addr × Obj)} {σ : L2.St} {H : Hp} {s : Shared} {a : Addr} {l : List Str} (I : Inv X pins σ H s) (e : H a = some (Txs X.prog X.w a l)) : s.heap.SetOf (PySem.strKind X.prog X.w) a (fun k => decide (k ∈ l)) l.length := by
  have z : ObjOk X.prog X.w H s.heap a (.ext fun h => h.SetOf (PySem.strKind X.prog X.w) a (fun k => decide (k ∈ l)) l.length) := I.hok a _ e
  exact z.1
/-- one text more -/
theorem txs_add {pins : List (Addr × Obj)} {σ : L2.St} {H : Hp} {s : Shared} {E : Value → Shared → Prop} {a : Addr} {l : List Str} {x : Str} {t : Tok} {Q : Value → Shared → Prop} (I : Inv X pins σ H s) (e : H a = some (Txs X.prog X.w a l)) (few : l.length + 1 < scanBound)
    (k : ∀ s2, Inv X pins σ (upd H a (Txs X.prog X.w a (put1 l x))) s2 → Q .none s2) : wpAny (model X.prog X.w) X.A (call (.builtin "set.add") [.ref a, .str x t]) Q E s := by
  refine PySem.call_set_add (knd := PySem.strKind X.prog X.w) (strKind_is _ _ _ _) rfl (txs_at I e) few fun h2 sb so => ?_
  have so2 : h2.SetOf (PySem.strKind X.prog X.w) a (fun k' => decide (k' ∈ put1 l x)) (put1 l x).length := SetOf_congr so (fun k' => met_in l x k') (met_size l x)
  have there : ∃ u, h2.get? a = some u := by
    obtain ⟨o, _, _, _, q, _⟩ := so2; exact ⟨o, q⟩
  exact k _ (I.write (t' := s.toks + 1) (x := a) (e := a) (by rw [e]; trivial) (.inl rfl) (fun b u hb q => (sb.2 b hb).trans q) there (txs_ok so2))

/-! ### set(xs) -/
def rSetS (K : PySem.W.Frag) (P : Program) (w : World) : List V → Hp → VK → Prop := fun vs H Q => ∃ (a : Addr) (xs : List Str), vs = [.ref a] ∧ (SqL K H a (xs.map V.str) ∨ SqT K H a (xs.map V.str)) ∧ xs.length + 1 < scanBound ∧
  ∀ p, H p = none → Q (.ref p) (upd H p (Txs P w p (met [] xs)))
theorem cr_setS (hc : X.calm = true) : CallR X (.type "set") (rSetS X.K X.prog X.w) := by
  intro pins s σ H vs us Q I r q
  obtain ⟨a, xs, rfl, sq, few, k⟩ := q
  rw [Vals.ref1 r]
  have new : H s.heap.objs.size = none := I.hok.fresh (Nat.le_refl _)
  have done : ∀ (h2 : Heap) (tk : Nat), h2.SetOf (PySem.strKind X.prog X.w) s.heap.objs.size (fun k' => decide (k' ∈ met [] xs)) (met [] xs).length → (∀ b o, s.heap.get? b = some o → h2.get? b = some o) → EP X pins σ Q (.ref s.heap.objs.size) { s with heap := h2, toks := tk } :=
    fun h2 tk so kp => ⟨.ref s.heap.objs.size, upd H s.heap.objs.size (Txs X.prog X.w s.heap.objs.size (met [] xs)), I.laid (t' := tk) kp (Nat.le_refl _) (txs_ok so), rfl, k _ new⟩
  rcases sq with sq | sq
  · obtain ⟨its, rv, pl, _⟩ := I.list sq
    exact set_list (I.ok.hd hc) pl.isList (by simpa using strsAre_of rv) few done
  · obtain ⟨its, rv, pl, _⟩ := I.tuple sq
    exact set_tuple (I.ok.hd hc) pl (by simpa using strsAre_of rv) few done
/-! ### len of it -/
def rLenTxs (P : Program) (w : World) : List V → Hp → VK → Prop := fun vs H Q => ∃ (a : Addr) (l : List Str), vs = [.ref a] ∧ H a = some (Txs P w a l) ∧ l.length < 1000000 ∧ Q (.int l.length) H
theorem call_lenTxs : CallR X (.builtin "len") (rLenTxs X.prog X.w) := by
  intro pins s σ H vs us Q I r q
  obtain ⟨a, l, rfl, e, few, k⟩ := q
  rw [Vals.ref1 r]
  obtain ⟨o, es, ep, t, ho, ex, dt, _, _, _, fits, n⟩ := txs_at I e
  refine PySem.call_len_set ho ex dt fits (by rw [n]; omega) ⟨.int l.length, H, I.tok _, ⟨_, by rw [n]⟩, k⟩
end

/-! ### {text for ..} -/
/-- the reading: D, the new set -/
def tTxs (P : Program) (w : World) (wi : TI) (g : TG) (tt : TT) (te : TE) (vs : List Nat) : TE := fun σ H Q => wi σ H fun J H1 => ∀ D, H1 D = none → ∃ W : Nat → Nat → Hp → Prop, (∃ m, W 0 m (upd H1 D (Txs P w D []))) ∧ ∀ i m H, W i m H →
  (J.stop i H ∧ Q (.ref D) H) ∨ (J.go i H ∧ ∃ Nx : Hp → Prop, (∀ H', Nx H' → ∃ m', m' < m ∧ W (i + 1) m' H') ∧ ∀ x H', J.yld i H x H' → g x (wipe σ vs) H' fun σ2 H2 => wipe σ2 vs = wipe σ vs ∧ tt σ2 H2 fun b H3 =>
    if b = true then te σ2 H3 fun y H4 => ∃ (z : Str) (l : List Str), y = .str z ∧ H4 D = some (Txs P w D l) ∧ l.length + 1 < scanBound ∧ Nx (upd H4 D (Txs P w D (put1 l z))) else Nx H3)
section
variable {X : Cx} {elt tg iter : Expr} {ifs : List Expr} {scope : Scope} {own : List (PySem.Str × Nat)} {pos pos' : Pos} {wi : TI} {g : TG} {tt : TT} {te : TE}
theorem pe_scT (hc : X.calm = true) (hN : X.N.Nodup) (hi : PI X tg iter wi) (ok : BlkOk X.N X.env.scope scope own)
    (hg : ∀ (u : Shared) (B : Hp) (C : Addr) (cl : List (PySem.Str × Addr)) (fp : List Addr), PG (X.blk u B scope (compEnvC scope cl C X.env) fp) tg g)
    (ht : ∀ (u : Shared) (B : Hp) (C : Addr) (cl : List (PySem.Str × Addr)) (fp : List Addr), PTs (X.blk u B scope (compEnvC scope cl C X.env) fp) ifs tt)
    (he : ∀ (u : Shared) (B : Hp) (C : Addr) (cl : List (PySem.Str × Addr)) (fp : List Addr), PE (X.blk u B scope (compEnvC scope cl C X.env) fp) elt te)
    (hf : ∀ x, foldedSetIterable iter X.env x = pure x := by intro _; rfl) :
    PE X (.SetComp elt [⟨tg, iter, ifs, 0⟩] scope pos) (tTxs X.prog X.w wi g tt te (own.map (·.2))) := by
  refine ⟨fun pins s σ H Q I red => ?_⟩
  rw [PpSet.eval_SetComp]
  have caught : ∀ y ∈ scope.names, y.2 = .free → ∃ c, X.env.cells.lookup y.1 = some c := fun y hy e => (ok.free y hy e).elim (fun k => I.ok.has _ (.inl k)) fun k => I.ok.has _ (.inr k)
  refine wpAny_comprehension_free rfl hf (closure_ok caught) ok.kind (fun y hy e => by rw [ok.uniq y hy, e]) (thn (hi.run pins s σ H _ I red) fun _ s1 r1 => thn r1 fun _ s2 r2 => ?_)
  obtain ⟨it, fp, at_, J, H2, rfl, I2, T, now, apart, rest⟩ := r2
  refine PpSet.newSet_ok (newEnv_comp ?_)
  have noD : H2 s2.heap.objs.size = none := I2.hok.fresh (Nat.le_refl _)
  obtain ⟨W, ⟨m0, w0⟩, turn⟩ := rest _ noD
  generalize eD : s2.heap.objs.size = D at noD w0 turn ⊢
  generalize e3 : ({ s2 with heap := s2.heap.push (bare (!X.w.params.followText "set-order")) } : Shared) = s3
  have g3 : s3.heap = s2.heap.push (bare (!X.w.params.followText "set-order")) := by rw [← e3]
  generalize eH3 : upd H2 D (Txs X.prog X.w D []) = H3 at w0
  have I3 : Inv X pins σ H3 s3 := by
    rw [← e3, ← eH3]
    refine I2.laid (t' := s2.toks) (fun b o q => Heap.get?_push_of_some _ q) (Nat.le_of_eq eD) (txs_ok ?_)
    rw [← eD]
    exact SetOf_congr ((setObjOf_fresh (knd := PySem.strKind X.prog X.w) _).setOf (Heap.get?_push_size _ rfl) (by decide)) (fun _ => rfl) rfl
  have low : ∀ b ∈ fp, b < s2.heap.objs.size := fun b hb => by
    obtain ⟨o, q, _⟩ := T.obj _ _ now b hb; exact Heap.lt_size q
  have fp3 : ∀ b ∈ fp, FpOk X pins H3 b ∧ b < s3.heap.objs.size := fun b hb => by
    refine ⟨⟨?_, (apart b hb).2⟩, by rw [g3, Heap.size_push]; exact Nat.lt_succ_of_lt (low b hb)⟩
    rw [← eH3, upd_ne (by rw [← eD]; exact Nat.ne_of_lt (low b hb))]
    exact (apart b hb).1
  have now3 : at_ 0 s3.heap := T.keep _ _ _ now fun b _ o q => by rw [g3]; exact Heap.get?_push_of_some _ q
  have B4 := block_start I3 ok hN fp3
  generalize eC : compEnvC scope (cellsFrom (s3.heap.objs.size + 1) scope.names (cloFrom X.env.cells scope.names [])) s3.heap.objs.size X.env = ce at B4
  have pG : PG (X.blk s3 H3 scope ce fp) tg g := by rw [← eC]; exact hg _ _ _ _ _
  have pT : PTs (X.blk s3 H3 scope ce fp) ifs tt := by rw [← eC]; exact ht _ _ _ _ _
  have pE : PE (X.blk s3 H3 scope ce fp) elt te := by rw [← eC]; exact he _ _ _ _ _
  have eL : ce.locals = s3.heap.objs.size := by rw [← eC]; rfl
  have fpN : ∀ b ∈ fp, H3 b = none := fun b hb => (fp3 b hb).1.1
  generalize e4 : ({ s3 with heap := pushCells (s3.heap.push { cls := .type "dict", data := .dict #[] }) scope.names } : Shared) = s4 at B4
  have now4 : at_ 0 s4.heap := T.keep _ _ _ now3 fun b _ o q => by rw [← e4]; exact pushCells_keeps _ _ _ _ (Heap.get?_push_of_some _ q)
  show codeAny _ _ (.compStart (.SetComp elt [⟨tg, iter, ifs, 0⟩] scope pos) 0 (.ref it) (.ref D) (compEnvC scope (cellsFrom (s3.heap.objs.size + 1) scope.names (cloFrom X.env.cells scope.names [])) s3.heap.objs.size X.env)) (compPost _ _ _ none _ (.ref D) s3.heap.objs.size) s4
  rw [eC]
  have fpOk : ∀ {σ' : L2.St} {H' : Hp} {s' : Shared}, Inv (X.blk s3 H3 scope ce fp) [] σ' H' s' → (∀ b ∈ fp, H' b = none) → ∀ b ∈ fp, FpOk (X.blk s3 H3 scope ce fp) [] H' b := fun {_ _ _} J' no b hb =>
    ⟨no b hb, (J'.ok.exf b hb).1, J'.ok.exfs b hb, .inl hb, fun x c q => (J'.ok.exf b hb).2 x c q, fun p hp => nomatch (show p ∈ ([] : List (Addr × Obj)) from hp)⟩
  refine PpSet.codeAny_compStart_set ?_ (T.self X.A 0 _ _ _ now4 ?_)
  all_goals
    refine PpSet.compLoopS_any (fun m u => ∃ i G, Inv (X.blk s3 H3 scope ce fp) [] (wipe σ (own.map (·.2))) G u ∧ at_ i u.heap ∧ (∀ b ∈ fp, G b = none) ∧ W i m G) ?_ m0 ⟨0, H3, B4, now4, fpN, w0⟩
    rintro m u ⟨i, G, B5, now5, no5, w5⟩
    rcases turn i m G w5 with ⟨stop, fin⟩ | ⟨go, Nx, less, step⟩
    · refine thnF (T.done (X.blk s3 H3 scope ce fp) rfl rfl rfl hc i [] u _ G (fun _ _ => False) B5 (fpOk B5 no5) now5 stop) fun r s6 ⟨er, B6⟩ => ?_
      subst er
      have I7 : Inv X pins σ G s6 := I3.call' (ch := fp) B6.os B6.base B6.hok B6.bare fun b hb => ⟨(fp3 b hb).1.2.2.2.1, (fp3 b hb).1.2.1, (fp3 b hb).1.2.2.2.2.1, (fp3 b hb).1.2.2.2.2.2⟩
      obtain ⟨mm, ns, _⟩ := B6.loc
      have ns : s6.heap.Ns ce.locals mm := ns
      have noC : G ce.locals = none := B6.free
      rw [eL] at ns noC
      obtain ⟨f0, f1, f2, f3, f4, f5⟩ := I3.fpOk (Nat.le_refl _) noC
      exact ⟨mm, ns, fun h'' sb => ⟨.ref D, G, I7.turned (t' := s6.toks) (fun b o hb q => (sb.2 b hb).trans q) f0 f1 f3 f4 f5, rfl, fin⟩⟩
    · refine thnF (T.item (X.blk s3 H3 scope ce fp) rfl rfl rfl hc i [] u _ G (fun _ _ => False) B5 (fpOk B5 no5) now5 go) fun r s6 ⟨v, er, r6⟩ => ?_
      subst er
      refine thnF r6 fun _ s7 ⟨x, G7, B7, rx, y7, now7, no7⟩ => ?_
      refine thnF (pG.run _ s7 _ G7 x v _ (B7.pinned (fpOk B7 no7) (T.obj _ _ now7)) rx (step x G7 y7)) fun _ s8 ⟨σ8, G8, B8, wp8, q8⟩ => ?_
      refine thnF (pT.run _ s8 σ8 G8 _ B8 q8) fun b s9 ⟨G9, B9, q9⟩ => ?_
      have close : ∀ {u' : Shared} {G' : Hp}, Inv (X.blk s3 H3 scope ce fp) ([] ++ pinsAt fp s7.heap) σ8 G' u' → Nx G' → ∃ m', m' < m ∧ ∃ i' G2, Inv (X.blk s3 H3 scope ce fp) [] (wipe σ (own.map (·.2))) G2 u' ∧ at_ i' u'.heap ∧ (∀ b ∈ fp, G2 b = none) ∧ W i' m' G2 := fun {u' G'} B' nx => by
        obtain ⟨m', lt, w'⟩ := less G' nx
        have held : ∀ b ∈ fp, ∀ o, s7.heap.get? b = some o → u'.heap.get? b = some o ∧ G' b = none := fun b hb o q =>
          ⟨(B'.pin (b, o) (List.mem_append_right _ (List.mem_append_right _ (mem_pinsAt hb q)))).1, (B'.pin (b, o) (List.mem_append_right _ (List.mem_append_right _ (mem_pinsAt hb q)))).2.1⟩
        refine ⟨m', lt, i + 1, G', (B'.unpinned (pins := [])).weak (by rw [← wp8, wipe_length]) (fun j z e => (wipe_some (by rw [wp8]; exact e)).1), T.keep _ _ _ now7 fun b hb o q => (held b hb o q).1, fun b hb => ?_, w'⟩
        obtain ⟨o, q, _⟩ := T.obj _ _ now7 b hb
        exact (held b hb o q).2
      cases b with
      | false =>
        simp only [Bool.false_eq_true, if_false] at q9 ⊢
        exact close B9 q9
      | true =>
        simp only [if_true] at q9 ⊢
        refine thnF (pE.run _ s9 σ8 G9 _ B9 q9) fun z s10 ⟨yv, G10, B10, r10, tx, l0, ey, at10, few, nx⟩ => ?_
        subst ey
        obtain ⟨tk, rfl⟩ := (show ∃ t, z = Value.str tx t from r10)
        exact txs_add (X := X.blk s3 H3 scope ce fp) B10 at10 few fun s11 B11 => close B11 nx
end
end Ssb

/-! Words: a def and its promise in one; data on the heap; loops over dicts. -/
namespace Ssb
open PySem PySem.Spec PyProof.Rows L2
open Evl (Ex Ev EvT EvL EvA EvU)

/-! ### a def of the module, a method of a class, and its promise -/
structure Fn (P : Program) (w : World) (K : PySem.W.Frag) (mg : Str → Option Value) (base : Heap) (nm : Str) (k : Nat) (ps : List Str) (sp : Sp) (f : Addr) (fd : FuncData) : Prop where
  ok : FnOk P w K mg base CX0 k f fd ps sp
  at_ : mg nm = some (.ref f)
  kp : PySem.W.keepIn K (.ref f) = true
  bd : Binds K fd ps []
structure Mt (P : Program) (w : World) (K : PySem.W.Frag) (mg : Str → Option Value) (base : Heap) (C : Addr) (nm : Str) (k : Nat) (ps : List Str) (sp : Sp) (f : Addr) (fd : FuncData) : Prop where
  ok : FnOk P w K mg base CX0 k f fd ps sp
  mt : Meth K C nm f
  bd : Binds K fd ps []
section
variable {X : Cx} {nm : Str} {k j : Nat} {ps : List Str} {sp : Sp} {f : Addr} {fd : FuncData} {p pos : Pos} {e : Expr} {es : List Expr} {t : TA}
theorem pcl (G : Fn X.prog X.w X.K X.mg X.base nm k ps sp f fd) (hr : Room j X.A) (ha : PA X (e :: es) t) (hj : k ≤ j := by first | decide | omega) (hg : Gl X nm := by rfl) (hdb : (nm == ("__debug__" : Str)) = false := by decide)
    (he : starEach (e :: es) X.env = (false, eval e X.env) :: starEach es X.env := by rfl) (hpl : (backTo pos (starEach es X.env)).any (·.1) = false := by rfl) : PE X (.Call (.Name nm p) (e :: es) [] pos) (tCall sp [] E0 t) :=
  pe_call G.ok (hr.mono hj) hg G.at_ G.kp G.bd .nil pass0 ha hdb he hpl
variable {o : Expr} {ta : TE} {apos : Pos} {C : Addr} {pl : Sem Bool}
theorem pmt (ho : PE X o ta) (c : Cls X.K C) (G : Mt X.prog X.w X.K X.mg X.base C nm k ps sp f fd) (hr : Room j X.A) (ha : PA X (e :: es) t) (hj : k ≤ j := by first | decide | omega)
    (he : starEach (e :: es) X.env = (false, eval e X.env) :: starEach es X.env := by rfl) (hpl : (backTo pos (starEach es X.env)).any (·.1) = false := by rfl)
    (ht : eval (.Call (.Attribute o nm apos) (e :: es) [] pos) X.env = (do
      let ov ← eval o X.env
      standAt apos.atName
      let (f, first) ← holding [ov] (getMethod ov nm pl)
      callWith pos f first (backTo pos (starEach (e :: es) X.env)) (backToKw pos (keywordEach [] X.env))) := by rfl) : PE X (.Call (.Attribute o nm apos) (e :: es) [] pos) (tMeth C nm sp [] E0 ta t) :=
  pe_meth ho c G.mt G.ok (hr.mono hj) G.bd .nil pass0 ha he hpl ht
theorem pmt0 (ho : PE X o ta) (c : Cls X.K C) (G : Mt X.prog X.w X.K X.mg X.base C nm k ps sp f fd) (hr : Room j X.A) (hj : k ≤ j := by first | decide | omega)
    (ht : eval (.Call (.Attribute o nm apos) [] [] pos) X.env = (do
      let ov ← eval o X.env
      standAt apos.atName
      let (f, first) ← holding [ov] (getMethod ov nm pl)
      callWith pos f first (backTo pos (starEach [] X.env)) (backToKw pos (keywordEach [] X.env))) := by rfl) : PE X (.Call (.Attribute o nm apos) [] [] pos) (tMeth C nm sp [] E0 ta tNil) :=
  pe_meth0 ho c G.mt G.ok (hr.mono hj) G.bd .nil pass0 ht
/-- a test that is never asked -/
def tNeverT : TT := fun _ _ _ => False
theorem pt_unseen : PT X e tNeverT := ⟨fun _ _ _ _ _ _ h => h.elim⟩
def tNeverE : TE := fun _ _ _ => False
theorem pe_unseen : PE X e tNeverE := ⟨fun _ _ _ _ _ _ h => h.elim⟩
end

/-! ### data, as they stand on the heap: lists and dicts at places of S, a dict never within itself -/
inductive D where
  | non | bl (b : Bool) | int (i : Int) | str (s : Str) | lst (l : List D) | tup (l : List D) | dic (l : List (Str × D))
def Rep (H : Hp) : Nat → (Addr → Prop) → D → V → Prop
  | 0, _, _, _ => False
  | _ + 1, _, .non, v => v = .non
  | _ + 1, _, .bl b, v => v = .bl b
  | _ + 1, _, .int i, v => v = .int i
  | _ + 1, _, .str s, v => v = .str s
  | n + 1, S, .lst l, v => ∃ a xs, v = .ref a ∧ S a ∧ H a = some (.lst xs) ∧ l.length ≤ 100000 ∧ Paired (fun d x => Rep H n S d x) l xs
  | n + 1, S, .tup l, v => ∃ a xs, v = .ref a ∧ H a = some (.tup xs) ∧ l.length ≤ 100000 ∧ Paired (fun d x => Rep H n S d x) l xs
  | n + 1, S, .dic l, v => ∃ a es, v = .ref a ∧ S a ∧ H a = some (.dK es) ∧ l.length ≤ 100000 ∧ Paired (fun (q : Str × D) (e : Key × V) => e.1 = Sum.inr q.1 ∧ Rep H n (fun b => S b ∧ b ≠ a) q.2 e.2) l es
theorem pair_imp {α β : Type} {F G : α → β → Prop} : ∀ {l : List α} {m : List β}, Paired F l m → (∀ a b, F a b → G a b) → Paired G l m
  | _, _, .nil, _ => .nil
  | _, _, .cons h t, k => .cons (k _ _ h) (pair_imp t k)
theorem pair_len {α β : Type} {F : α → β → Prop} : ∀ {l : List α} {m : List β}, Paired F l m → l.length = m.length
  | _, _, .nil => rfl
  | _, _, .cons _ t => congrArg (· + 1) (pair_len t)
theorem pair_at {α β : Type} {F : α → β → Prop} : ∀ {l : List α} {m : List β} {i : Nat} {a : α}, Paired F l m → l[i]? = some a → ∃ b, m[i]? = some b ∧ F a b
  | _, _, _, _, .nil, e => by simp at e
  | _, _, 0, _, .cons h _, e => by
    simp at e; subst e; exact ⟨_, rfl, h⟩
  | _, _, i + 1, _, .cons _ t, e => by
    obtain ⟨b, h1, h2⟩ := pair_at (i := i) t (by simpa using e)
    exact ⟨b, by simpa using h1, h2⟩
theorem pair_back {α β : Type} {F : α → β → Prop} : ∀ {l : List α} {m : List β} {i : Nat} {b : β}, Paired F l m → m[i]? = some b → ∃ a, l[i]? = some a ∧ F a b
  | _, _, _, _, .nil, e => by simp at e
  | _, _, 0, _, .cons h _, e => by
    simp at e; subst e; exact ⟨_, rfl, h⟩
  | _, _, i + 1, _, .cons _ t, e => by
    obtain ⟨b, h1, h2⟩ := pair_back (i := i) t (by simpa using e)
    exact ⟨b, by simpa using h1, h2⟩
theorem pair_app {α β : Type} {F : α → β → Prop} : ∀ {l l' : List α} {m m' : List β}, Paired F l m → Paired F l' m' → Paired F (l ++ l') (m ++ m')
  | _, _, _, _, .nil, t => t
  | _, _, _, _, .cons h r, t => .cons h (pair_app r t)
theorem pair_snoc {α β : Type} {F : α → β → Prop} {l : List α} {m : List β} {a : α} {b : β} (p : Paired F l m) (h : F a b) : Paired F (l ++ [a]) (m ++ [b]) := pair_app p (.cons h .nil)
/-- what is told at the places of S (and of tuples) is all that counts -/
theorem rep_to {H H' : Hp} : ∀ {n : Nat} {S : Addr → Prop} {d : D} {v : V}, (∀ b o, H b = some o → (S b ∨ ∃ xs, o = .tup xs) → H' b = some o) → Rep H n S d v → Rep H' n S d v
  | 0, _, _, _, _, h => h.elim
  | n + 1, S, d, v, k, h => by
    cases d with
    | non => exact h
    | bl b => exact h
    | int i => exact h
    | str s => exact h
    | lst l =>
      obtain ⟨a, xs, e, s, ha, hl, p⟩ := h
      exact ⟨a, xs, e, s, k a _ ha (.inl s), hl, pair_imp p fun d x r => rep_to k r⟩
    | tup l =>
      obtain ⟨a, xs, e, ha, hl, p⟩ := h
      exact ⟨a, xs, e, k a _ ha (.inr ⟨xs, rfl⟩), hl, pair_imp p fun d x r => rep_to k r⟩
    | dic l =>
      obtain ⟨a, es, e, s, ha, hl, p⟩ := h
      exact ⟨a, es, e, s, k a _ ha (.inl s), hl, pair_imp p fun q x r => ⟨r.1, rep_to (fun b o hb z => k b o hb (z.imp (·.1) id)) r.2⟩⟩
theorem rep_ex {H H' : Hp} {n : Nat} {S : Addr → Prop} {d : D} {v : V} (e : Ex H H') (h : Rep H n S d v) : Rep H' n S d v := rep_to (fun b o hb _ => e b o hb) h
theorem rep_S {H : Hp} : ∀ {n : Nat} {S S' : Addr → Prop} {d : D} {v : V}, (∀ b, S b → S' b) → Rep H n S d v → Rep H n S' d v
  | 0, _, _, _, _, _, h => h.elim
  | n + 1, S, S', d, v, k, h => by
    cases d with
    | non => exact h
    | bl b => exact h
    | int i => exact h
    | str s => exact h
    | lst l =>
      obtain ⟨a, xs, e, s, ha, hl, p⟩ := h
      exact ⟨a, xs, e, k a s, ha, hl, pair_imp p fun d x r => rep_S k r⟩
    | tup l =>
      obtain ⟨a, xs, e, ha, hl, p⟩ := h
      exact ⟨a, xs, e, ha, hl, pair_imp p fun d x r => rep_S k r⟩
    | dic l =>
      obtain ⟨a, es, e, s, ha, hl, p⟩ := h
      exact ⟨a, es, e, k a s, ha, hl, pair_imp p fun q x r => ⟨r.1, rep_S (fun b z => ⟨k b z.1, z.2⟩) r.2⟩⟩
theorem rep_up {H : Hp} : ∀ {n : Nat} {S : Addr → Prop} {d : D} {v : V}, Rep H n S d v → Rep H (n + 1) S d v
  | 0, _, _, _, h => h.elim
  | n + 1, S, d, v, h => by
    cases d with
    | non => exact h
    | bl b => exact h
    | int i => exact h
    | str s => exact h
    | lst l =>
      obtain ⟨a, xs, e, s, ha, hl, p⟩ := h
      exact ⟨a, xs, e, s, ha, hl, pair_imp p fun d x r => rep_up r⟩
    | tup l =>
      obtain ⟨a, xs, e, ha, hl, p⟩ := h
      exact ⟨a, xs, e, ha, hl, pair_imp p fun d x r => rep_up r⟩
    | dic l =>
      obtain ⟨a, es, e, s, ha, hl, p⟩ := h
      exact ⟨a, es, e, s, ha, hl, pair_imp p fun q x r => ⟨r.1, rep_up r.2⟩⟩
/-- behind a lock of a, which S does not hold -/
theorem rep_lock {H : Hp} {n : Nat} {S : Addr → Prop} {d : D} {v : V} {a : Addr} {es : List (Key × V)} {u : HO} (ha : H a = some (.dK es)) (hS : ∀ b, S b → b ≠ a) (h : Rep H n S d v) : Rep (upd H a u) n S d v :=
  rep_to (fun b o hb z => by
    have ne : b ≠ a := by
      rcases z with z | ⟨xs, rfl⟩
      · exact hS b z
      · intro e; rw [e, ha] at hb; cases hb
    rw [upd_ne ne]; exact hb) h

/-! ### what a dict tells -/
theorem lk_cons {α : Type} (k j : Str) (d : α) (l : List (Str × α)) : List.lookup k ((j, d) :: l) = if k = j then some d else List.lookup k l := by
  by_cases h : k = j
  · subst h; simp [List.lookup]
  · have e : (k == j) = false := by simpa using h
    rw [if_neg h]; simp [List.lookup, e]
theorem vV_cons (k : Key) (e : Key × V) (l : List (Key × V)) : valV (e :: l) k = if e.1 = k then some e.2 else valV l k := by
  unfold valV
  rw [List.find?_cons]
  by_cases h : e.1 = k
  · rw [decide_eq_true h, if_pos h]; rfl
  · rw [decide_eq_false h, if_neg h]
theorem pair_lk {F : D → V → Prop} : ∀ {l : List (Str × D)} {es : List (Key × V)}, Paired (fun (q : Str × D) (e : Key × V) => e.1 = Sum.inr q.1 ∧ F q.2 e.2) l es → ∀ {k : Str} {d : D}, l.lookup k = some d → ∃ v, valV es (Sum.inr k : Key) = some v ∧ F d v
  | _, _, .nil, k, d, h => by simp [List.lookup] at h
  | (j, d0) :: l, e :: es, .cons h t, k, d, hk => by
    rw [lk_cons] at hk
    rw [vV_cons]
    by_cases c : k = j
    · rw [if_pos c] at hk
      cases hk
      exact ⟨e.2, by rw [if_pos (by rw [h.1, c])], h.2⟩
    · rw [if_neg c] at hk
      obtain ⟨v, h1, h2⟩ := pair_lk t hk
      exact ⟨v, by rw [if_neg (by rw [h.1]; intro z; exact c (Sum.inr.inj z).symm)]; exact h1, h2⟩
theorem pair_no {F : D → V → Prop} : ∀ {l : List (Str × D)} {es : List (Key × V)}, Paired (fun (q : Str × D) (e : Key × V) => e.1 = Sum.inr q.1 ∧ F q.2 e.2) l es → ∀ {k : Str}, l.lookup k = none → valV es (Sum.inr k : Key) = none
  | _, _, .nil, k, h => rfl
  | (j, d0) :: l, e :: es, .cons h t, k, hk => by
    rw [lk_cons] at hk
    rw [vV_cons]
    by_cases c : k = j
    · rw [if_pos c] at hk; cases hk
    · rw [if_neg c] at hk
      rw [if_neg (by rw [h.1]; intro z; exact c (Sum.inr.inj z).symm)]
      exact pair_no t hk

/-! ### expressions that only make objects -/
/-- te gives a v of which P holds (P stays when objects are made) -/
def EvP (te : TE) (σ : L2.St) (H : Hp) (P : V → Hp → Prop) : Prop := ∀ H1, Ex H H1 → ∀ Q : VK, (∀ v H2, Ex H1 H2 → P v H2 → Q v H2) → te σ H1 Q
section
variable {K : PySem.W.Frag} {σ : L2.St} {H H' : Hp} {te ta tb tc : TE} {v x y z : V} {t u : TT}
theorem Ev.p {P : V → Hp → Prop} (h : Ev te σ H v) (hp : ∀ H1, Ex H H1 → P v H1) : EvP te σ H P := fun H1 e Q q => h H1 e Q fun H2 e2 => q v H2 e2 (hp H2 (e.trans e2))
theorem ev_chain {r r' : R2} {b1 b2 : Bool} (ha : Ev ta σ H x) (hb : Ev tb σ H y) (hc : Ev tc σ H z) (h1 : Evl.RV r x y H (.bl b1)) (h2 : Evl.RV r' y z H (.bl b2)) : Ev (tChain r r' ta tb tc) σ H (.bl (b1 && b2)) := fun H1 e Q q =>
  ha H1 e _ fun H2 e2 => hb H2 (e.trans e2) _ fun H3 e3 => h1 H3 ((e.trans e2).trans e3) _ fun H4 e4 => ⟨b1, rfl, by
    cases b1 with
    | true => exact hc H4 (((e.trans e2).trans e3).trans e4) _ fun H5 e5 => h2 H5 ((((e.trans e2).trans e3).trans e4).trans e5) Q fun H6 e6 => q H6 ((((e2.trans e3).trans e4).trans e5).trans e6)
    | false => exact q H4 ((e2.trans e3).trans e4)⟩
theorem ev_isi {n : String} {ty : Value} {b : Bool} (h : Ev te σ H x) (hty : ∀ H1, Ex H H1 → TyX K H1 x ty) (hk : PySem.W.kitOne K ty (.type n) = some b) : Ev (tCB (rIsi K) (tCons te (tCons (tC (.ty n)) tNil))) σ H (.bl b) := fun H1 e Q q =>
  h H1 e _ fun H2 e2 => ⟨x, .ty n, ty, .type n, b, rfl, .ty n, hty H2 (e.trans e2), hk, q H2 e2⟩
theorem ev_isi2 {n m : String} {ty : Value} {b : Bool} (h : Ev te σ H x) (hty : ∀ H1, Ex H H1 → TyX K H1 x ty) (hk : PySem.W.kitAny K ty [.type n, .type m] = some b) :
    Ev (tCB (rIsiT K) (tCons te (tCons (tTup (tCons (tC (.ty n)) (tCons (tC (.ty m)) tNil))) tNil))) σ H (.bl b) := fun H1 e Q q =>
  h H1 e _ fun H2 e2 => ⟨(by show 2 ≤ sizeLine; decide), fun p hp => ⟨x, p, [.ty n, .ty m], ty, [.type n, .type m], b, rfl, upd_same, .cons (.ty n) (.cons (.ty m) .nil), hty _ ((e.trans e2).trans (Ex.new hp)), hk, q _ (e2.trans (Ex.new hp))⟩⟩
theorem ev_all {bs : List Bool} (h : EvL te σ H (bs.map V.bl)) : Ev (tCB (rAll K) (tCons te tNil)) σ H (.bl (bs.all id)) := fun H1 e Q q =>
  h H1 e _ fun p H2 _ e2 hp => ⟨p, bs, rfl, Evl.sq_of hp, q H2 e2⟩
theorem ev_lenS {s : Str} (h : Ev te σ H (.str s)) (hs : s.length ≤ 100000) : Ev (tCB (fun xs H Q => ∃ x n, xs = [x] ∧ LenV K x H n ∧ Q (.int n) H) (tCons te tNil)) σ H (.int (s.length : Int)) := fun H1 e Q q =>
  h H1 e _ fun H2 e2 => ⟨.str s, s.length, rfl, ⟨Evl.sz_of hs, rfl⟩, q H2 e2⟩
theorem ev_lenL {a : Addr} {xs : List V} (h : Ev te σ H (.ref a)) (hx : SqL K H a xs ∨ SqT K H a xs) : Ev (tCB (fun xs H Q => ∃ x n, xs = [x] ∧ LenV K x H n ∧ Q (.int n) H) (tCons te tNil)) σ H (.int (xs.length : Int)) := fun H1 e Q q =>
  h H1 e _ fun H2 e2 => ⟨.ref a, xs.length, rfl, hx.imp (fun z => ⟨xs, Evl.ex_l (e.trans e2) z, rfl⟩) fun z => ⟨xs, Evl.ex_t (e.trans e2) z, rfl⟩, q H2 e2⟩
theorem ev_lenK {a : Addr} {es : List (Key × V)} (h : Ev te σ H (.ref a)) (hx : H a = some (.dK es)) : Ev (tCB (fun xs H Q => ∃ a kvs, xs = [V.ref a] ∧ H a = some (.dK kvs) ∧ Q (.int kvs.length) H) (tCons te tNil)) σ H (.int (es.length : Int)) := fun H1 e Q q =>
  h H1 e _ fun H2 e2 => ⟨a, es, rfl, (e.trans e2) a _ hx, q H2 e2⟩
theorem ev_lenSet {P : Program} {w : World} {a : Addr} {l : List Str} (h : Ev te σ H (.ref a)) (hx : SqL K H a (l.map V.str) ∨ SqT K H a (l.map V.str)) (few : l.length ≤ 1000) :
    Ev (tCB (rLenTxs P w) (tCons (tCB (rSetS K P w) (tCons te tNil)) tNil)) σ H (.int ((met [] l).length : Int)) := fun H1 e Q q =>
  h H1 e _ fun H2 e2 => ⟨a, l, rfl, hx.imp (Evl.ex_l (e.trans e2)) (Evl.ex_t (e.trans e2)), Nat.lt_of_le_of_lt (Nat.add_le_add_right few 1) (by decide), fun p hp => ⟨p, met [] l, rfl, upd_same, by have := met_len l []; simp only [List.length_nil] at this; omega, q _ (e2.trans (Ex.new hp))⟩⟩
theorem ev_get {a : Addr} {es : List (Key × V)} {k : Str} (h : Ev ta σ H (.ref a)) (hk : Ev tb σ H (.str k)) (hx : Rd H a (.dK es)) (hv : valV es (Sum.inr k : Key) = some v) : Ev (tDGet ta tb) σ H v := fun H1 e Q q =>
  h H1 e _ fun H2 e2 => hk H2 (e.trans e2) _ fun H3 e3 => ⟨a, v, rfl, .inl ⟨es, Sum.inr k, Evl.ex_rd ((e.trans e2).trans e3) hx, rfl, hv.symm⟩, q H3 (e2.trans e3)⟩
theorem ev_din {a : Addr} {es : List (Key × V)} {k : Str} (hk : Ev tb σ H (.str k)) (h : Ev ta σ H (.ref a)) (hx : Rd H a (.dK es)) : Ev (tDIn tb ta) σ H (.bl (valV es (Sum.inr k : Key)).isSome) := fun H1 e Q q =>
  hk H1 e _ fun H2 e2 => h H2 (e.trans e2) _ fun H3 e3 => ⟨a, valV es (Sum.inr k), rfl, .inl ⟨es, Sum.inr k, Evl.ex_rd ((e.trans e2).trans e3) hx, rfl, rfl⟩, q H3 (e2.trans e3)⟩
/-- a call whose answer is a plain value -/
theorem ev_fn {sp : Sp} {vs : List V} {ta : TA} (h : EvA ta σ H vs) (hs : ∀ H1, Ex H H1 → ∀ Q : VK, (∀ H2, Ex H1 H2 → Q z H2) → sp vs H1 Q E0) : Ev (tCall sp [] E0 ta) σ H z := fun H1 e Q q =>
  h H1 e _ fun H2 e2 => by
    show sp (vs ++ []) H2 Q E0
    rw [List.append_nil]
    exact hs H2 (e.trans e2) Q fun H3 e3 => q H3 (e2.trans e3)
/-- an argument list whose first item is a new list -/
theorem ev_fnL {sp : Sp} {xs : List V} (h : Ev te σ H x) (hl : EvL tb σ H xs) (hs : ∀ p H1, Ex H H1 → H1 p = some (.lst xs) → ∀ Q : VK, (∀ H2, Ex H1 H2 → Q z H2) → sp [x, .ref p] H1 Q E0) : Ev (tCall sp [] E0 (tCons te (tCons tb tNil))) σ H z := fun H1 e Q q =>
  h H1 e _ fun H2 e2 => hl H2 (e.trans e2) _ fun p H3 _ e3 hp => hs p H3 ((e.trans e2).trans e3) hp Q fun H4 e4 => q H4 ((e2.trans e3).trans e4)
end

/-! ### comprehensions that keep every item -/
section
variable {K : PySem.W.Frag} {σ : L2.St} {H : Hp} {te tl : TE} {vs : List Nat} {J : It} {n : Nat} {G : Hp → Prop} {g : TG}
/-- what the new list holds behind i turns, in a heap that has only grown since H0 -/
def Cm (H0 : Hp) (f : Nat → V) (Dl i : Nat) (H' : Hp) : Prop := H0 Dl = none ∧ Ex H0 H' ∧ H' Dl = some (.lst ((List.range i).map f))
theorem cm_next {H0 H' : Hp} {f : Nat → V} {Dl i : Nat} {σ2 : L2.St} (p : Cm H0 f Dl i H') (hi : i < 100000) (he : Ev te σ2 H0 (f i)) :
    te σ2 H' fun y H4 => ∃ acc, H4 Dl = some (.lst acc) ∧ acc.length < sizeLine ∧ Cm H0 f Dl (i + 1) (upd H4 Dl (.lst (acc ++ [y]))) := by
  obtain ⟨p1, p2, p3⟩ := p
  refine he H' p2 _ fun H4 e4 => ⟨_, e4 Dl _ p3, Evl.sz_lt (by simpa using hi), p1, Ex.mut (p2.trans e4) p1, ?_⟩
  rw [upd_same, List.range_succ, List.map_append]
  rfl
/-- over anything that hands on the items xs and leaves the heap as it is -/
theorem el_walk {xs : List V} {f : Nat → V} (w : Walk J xs.length G (YAt xs)) (hz : xs.length ≤ 100000) {H1 : Hp} (hG : ∀ H', Ex H1 H' → G H') {j : Nat} (hw : ∀ x, wipe ((wipe σ vs).set j (some x)) vs = wipe σ vs)
    (he : ∀ (i : Nat) (x : V), xs[i]? = some x → ∀ H2, Ex H1 H2 → Ev te ((wipe σ vs).set j (some x)) H2 (f i)) {Q : VK} (q : ∀ p H2, H1 p = none → Ex H1 H2 → H2 p = some (.lst ((List.range xs.length).map f)) → Q (.ref p) H2) (Dl : Addr) (hD : H1 Dl = none) :
    ∃ W : Nat → Nat → Hp → Prop, (∃ m, W 0 m (upd H1 Dl (.lst []))) ∧ ∀ i m H, W i m H → (J.stop i H ∧ Q (.ref Dl) H) ∨ (J.go i H ∧ ∃ Nx : Hp → Prop, (∀ H', Nx H' → ∃ m', m' < m ∧ W (i + 1) m' H') ∧ ∀ x H', J.yld i H x H' → gName j x (wipe σ vs) H' fun σ2 H2 =>
      wipe σ2 vs = wipe σ vs ∧ tYes σ2 H2 fun b H3 => if b = true then te σ2 H3 fun y H4 => ∃ acc, H4 Dl = some (.lst acc) ∧ acc.length < sizeLine ∧ Nx (upd H4 Dl (.lst (acc ++ [y]))) else Nx H3) := by
  refine lc_it (g := gName j) (tt := tYes) w (Cm H1 f Dl) ⟨hD, Ex.new hD, upd_same⟩ (fun i H' _ p => hG H' p.2.1) (fun i x H2 H' hi p y => ?_) fun H' p => q Dl H' hD p.2.1 p.2.2
  obtain ⟨rfl, hx⟩ := y
  exact ⟨hw x, cm_next p (by omega) (he i x hx H1 (Ex.refl _))⟩
end
end Ssb

/-! Comprehensions and loops over texts, lists, tuples, dicts (under their lock). -/
namespace Ssb
open PySem PySem.Spec PyProof.Rows L2
open Evl (Ex Ev EvT EvL EvA EvU)
section
variable {K : PySem.W.Frag} {σ : L2.St} {H : Hp} {te tl ta td tb : TE} {vs : List Nat} {j : Nat} {f : Nat → V}
/-- len, list(..), tuple(..), truth: the readings by their names -/
def rLenA (K : PySem.W.Frag) : List V → Hp → VK → Prop := fun xs H Q => ∃ x n, xs = [x] ∧ LenV K x H n ∧ Q (V.int n) H
def rListA (K : PySem.W.Frag) : List V → Hp → VK → Prop := fun xs H Q => ∃ p ys, xs = [V.ref p] ∧ (SqL K H p ys ∨ SqT K H p ys) ∧ ∀ l, H l = none → Q (.ref l) (upd H l (.lst ys))
def rTupA (K : PySem.W.Frag) : List V → Hp → VK → Prop := fun xs H Q => ∃ p ys, xs = [V.ref p] ∧ ((SqL K H p ys ∧ ∀ l, H l = none → Q (.ref l) (upd H l (.tup ys))) ∨ (SqT K H p ys ∧ Q (.ref p) H))
def tTruA (K : PySem.W.Frag) (ta : TE) : TT := fun σ H Q => ta σ H fun x H' => ∃ k, TruV K x H' k ∧ Q k H'
theorem ev_allT {n : Nat} (h : EvL te σ H ((List.range n).map fun _ => V.bl true)) : Ev (tCB (rAll K) (tCons te tNil)) σ H (.bl true) := by
  have e : ((List.range n).map fun _ => V.bl true) = ((List.range n).map fun _ => true).map V.bl := by rw [List.map_map]; rfl
  rw [e] at h
  refine Evl.ev_is (ev_all h) ?_
  congr 1
  rw [List.all_eq_true]
  intro b hb
  obtain ⟨_, _, rfl⟩ := List.mem_map.mp hb
  rfl
theorem el_lcS {s : Str} (h : Ev ta σ H (.str s)) (hz : s.length ≤ 100000) (hw : ∀ x, wipe ((wipe σ vs).set j (some x)) vs = wipe σ vs)
    (he : ∀ (i : Nat) (c : Nat), s.cps[i]? = some c → ∀ H2, Ex H H2 → Ev te ((wipe σ vs).set j (some (.str ⟨#[c]⟩))) H2 (f i)) : EvL (tLc (iStr ta) (gName j) tYes te vs) σ H ((List.range s.length).map f) := fun H1 e Q q =>
  h H1 e _ fun H2 e2 => ⟨s, rfl, fun Dl hD => by
    have w : Walk (Its s) (s.cps.toList.map fun c => V.str ⟨#[c]⟩).length (fun _ => True) (YAt (s.cps.toList.map fun c => V.str ⟨#[c]⟩)) := by
      have l : (s.cps.toList.map fun c => V.str ⟨#[c]⟩).length = s.cps.size := by simp
      rw [l]
      refine walk_str.mono (fun _ z => z) fun i H v H' hi _ y => ?_
      obtain ⟨e, c, hc, rfl⟩ := y
      exact ⟨e, by simp [hc]⟩
    refine el_walk (f := f) w (by rw [List.length_map]; exact hz) (fun _ _ => trivial) hw (fun i x hx H3 e3 => ?_) (fun p H3 hp e3 hl => ?_) Dl hD
    · rw [List.getElem?_map] at hx
      cases hc : s.cps.toList[i]? with
      | none => rw [hc] at hx; cases hx
      | some c =>
        rw [hc] at hx
        cases hx
        exact he i c (by simpa using hc) H3 ((e.trans e2).trans e3)
    · refine q p H3 (Evl.fresh_back e2 hp) (e2.trans e3) ?_
      rw [hl]
      simp [Str.length]⟩
theorem el_lcA {a : Addr} {xs : List V} (h : Ev tl σ H (.ref a)) (hx : SqL K H a xs) (hz : xs.length ≤ 100000) (hw : ∀ x, wipe ((wipe σ vs).set j (some x)) vs = wipe σ vs)
    (he : ∀ (i : Nat) (x : V), xs[i]? = some x → ∀ H2, Ex H H2 → Ev te ((wipe σ vs).set j (some x)) H2 (f i)) : EvL (tLc (iList K tl) (gName j) tYes te vs) σ H ((List.range xs.length).map f) := fun H1 e Q q =>
  h H1 e _ fun H2 e2 => ⟨a, rfl, ⟨xs, Evl.ex_l (e.trans e2) hx⟩, fun Dl hD =>
    el_walk (f := f) walk_list hz (fun H3 e3 => Evl.ex_l ((e.trans e2).trans e3) hx) hw (fun i x h3 H3 e3 => he i x h3 H3 ((e.trans e2).trans e3)) (fun p H3 hp e3 hl => q p H3 (Evl.fresh_back e2 hp) (e2.trans e3) hl) Dl hD⟩
theorem el_lcT {a : Addr} {xs : List V} (h : Ev tl σ H (.ref a)) (hx : SqT K H a xs) (hz : xs.length ≤ 100000) (hw : ∀ x, wipe ((wipe σ vs).set j (some x)) vs = wipe σ vs)
    (he : ∀ (i : Nat) (x : V), xs[i]? = some x → ∀ H2, Ex H H2 → Ev te ((wipe σ vs).set j (some x)) H2 (f i)) : EvL (tLc (iTup K tl) (gName j) tYes te vs) σ H ((List.range xs.length).map f) := fun H1 e Q q =>
  h H1 e _ fun H2 e2 => ⟨a, rfl, ⟨xs, Evl.ex_t (e.trans e2) hx⟩, fun Dl hD =>
    el_walk (f := f) walk_tup hz (fun H3 e3 => Evl.ex_t ((e.trans e2).trans e3) hx) hw (fun i x h3 H3 e3 => he i x h3 H3 ((e.trans e2).trans e3)) (fun p H3 hp e3 hl => q p H3 (Evl.fresh_back e2 hp) (e2.trans e3) hl) Dl hD⟩
/-! ### under a lock -/
theorem unlock {H H' : Hp} {d : Addr} {u u' : HO} (hd : H d = some u) (e : Ex (upd H d u') H') : Ex H (upd H' d u) := fun b o hb => by
  by_cases h : b = d
  · subst h; rw [upd_same]; rw [hd] at hb; exact hb
  · rw [upd_ne h]; exact e b o (by rw [upd_ne h]; exact hb)
theorem lock_keys {d : Addr} {o : Obj} {es : List (Key × V)} : Walk (Itk d o es) (es.map fun e => kV e.1).length (fun H => H d = some (.frz o (.dK es))) (YAt (es.map fun e => kV e.1)) := by
  rw [List.length_map]
  refine walk_keys.mono (fun _ z => z) fun i H x H' _ _ y => ?_
  obtain ⟨e, k, v, hk, rfl⟩ := y
  exact ⟨e, by rw [List.getElem?_map, hk]; rfl⟩
theorem lock_vals {d : Addr} {o : Obj} {es : List (Key × V)} : Walk (Itd d o es) (es.map fun e => e.2).length (fun H => H d = some (.frz o (.dK es))) (YAt (es.map fun e => e.2)) := by
  rw [List.length_map]
  refine walk_values.mono (fun _ z => z) fun i H x H' _ _ y => ?_
  obtain ⟨e, k, hk⟩ := y
  exact ⟨e, by rw [List.getElem?_map, hk]; rfl⟩
theorem el_lcK {d : Addr} {es : List (Key × V)} (h : ∀ H1, Ev td σ H1 (.ref d)) (hd : H d = some (.dK es)) (hz : es.length ≤ 100000) (hw : ∀ x, wipe ((wipe σ vs).set j (some x)) vs = wipe σ vs)
    (he : ∀ (i : Nat) (k : Key) (v : V), es[i]? = some (k, v) → ∀ od H1 H2, Ex H H1 → Ex (upd H1 d (.frz od (.dK es))) H2 → Ev te ((wipe σ vs).set j (some (kV k))) H2 (f i)) : EvL (tLockE (tLc (iKeys td) (gName j) tYes te vs)) σ H ((List.range es.length).map f) := fun H1 e Q q => by
  have hd1 := e d _ hd
  refine ⟨d, .dK es, hd1, trivial, fun od => h _ _ (Ex.refl _) _ fun H2 e2 => ⟨d, od, rfl, .inl ⟨es, e2 d _ upd_same, fun Dl hD => ?_⟩⟩⟩
  refine el_walk (f := f) (Q := fun v H' => H' d = some (.frz od (.dK es)) ∧ Q v (upd H' d (.dK es))) lock_keys (by simpa using hz) (fun H3 e3 => e3 d _ (e2 d _ upd_same)) hw (fun i x hx H3 e3 => ?_) (fun p H3 hp e3 hl => ⟨e3 d _ (e2 d _ upd_same), ?_⟩) Dl hD
  · rw [List.getElem?_map] at hx
    cases hc : es[i]? with
    | none => rw [hc] at hx; cases hx
    | some c =>
      rw [hc] at hx
      cases hx
      exact he i c.1 c.2 hc od H1 H3 e (e2.trans e3)
  · have np : p ≠ d := fun z => by
      have := e2 d _ upd_same
      rw [z, this] at hp; cases hp
    refine q p _ ?_ (unlock hd1 (e2.trans e3)) ?_
    · have := Evl.fresh_back e2 hp
      rw [upd_ne np] at this; exact this
    · rw [upd_ne np, hl, List.length_map]
theorem el_lcV {d : Addr} {es : List (Key × V)} (h : ∀ H1, Ex H H1 → ∀ od, Ev td σ (upd H1 d (.frz od (.dK es))) (.ref d)) (hd : H d = some (.dK es)) (hz : es.length ≤ 100000) (hw : ∀ x, wipe ((wipe σ vs).set j (some x)) vs = wipe σ vs)
    (he : ∀ (i : Nat) (k : Key) (v : V), es[i]? = some (k, v) → ∀ od H1 H2, Ex H H1 → Ex (upd H1 d (.frz od (.dK es))) H2 → Ev te ((wipe σ vs).set j (some v)) H2 (f i)) : EvL (tLockE (tLc (iVals td) (gName j) tYes te vs)) σ H ((List.range es.length).map f) := fun H1 e Q q => by
  have hd1 := e d _ hd
  refine ⟨d, .dK es, hd1, trivial, fun od => h H1 e od _ (Ex.refl _) _ fun H2 e2 => ⟨d, od, es, rfl, e2 d _ upd_same, fun Dl hD => ?_⟩⟩
  refine el_walk (f := f) (Q := fun v H' => H' d = some (.frz od (.dK es)) ∧ Q v (upd H' d (.dK es))) lock_vals (by simpa using hz) (fun H3 e3 => e3 d _ (e2 d _ upd_same)) hw (fun i x hx H3 e3 => ?_) (fun p H3 hp e3 hl => ⟨e3 d _ (e2 d _ upd_same), ?_⟩) Dl hD
  · rw [List.getElem?_map] at hx
    cases hc : es[i]? with
    | none => rw [hc] at hx; cases hx
    | some c =>
      rw [hc] at hx
      cases hx
      exact he i c.1 c.2 hc od H1 H3 e (e2.trans e3)
  · have np : p ≠ d := fun z => by
      have := e2 d _ upd_same
      rw [z, this] at hp; cases hp
    refine q p _ ?_ (unlock hd1 (e2.trans e3)) ?_
    · have := Evl.fresh_back e2 hp
      rw [upd_ne np] at this; exact this
    · rw [upd_ne np, hl, List.length_map]
/-! ### a for under a lock: Pv by the lock's object, the turn, the slots, the heap -/
variable {D : Ends} {ts : TS} {g : TG}
def shut (D : Ends) (d : Addr) (u : HO) (od : Obj) (N : L2.St → Hp → Prop) : Ends :=
  { nx := N, ct := N, bk := fun σ' H' => H' d = some (.frz od u) ∧ D.nx σ' (upd H' d u), rt := fun v H' => H' d = some (.frz od u) ∧ D.rt v (upd H' d u) }
theorem for_lock {d : Addr} {es : List (Key × V)} {J : Obj → It} {ti : TI} {xs : Nat → Option V} (hd : H d = some (.dK es)) (hi : ∀ od R, R (J od) (upd H d (.frz od (.dK es))) → ti σ (upd H d (.frz od (.dK es))) R)
    {Y : Nat → Hp → V → Hp → Prop} (w : ∀ od, Walk (J od) es.length (fun H => H d = some (.frz od (.dK es))) Y) (Pv : Obj → Nat → L2.St → Hp → Prop) (h0 : ∀ od, Pv od 0 σ (upd H d (.frz od (.dK es)))) (hG : ∀ od i σ' H', i ≤ es.length → Pv od i σ' H' → H' d = some (.frz od (.dK es)))
    (hs : ∀ od i x σ' H' H2, i < es.length → Pv od i σ' H' → Y i H' x H2 → g x σ' H2 fun σ2 H3 => ts (shut D d (.dK es) od (Pv od (i + 1))) σ2 H3) (hn : ∀ od σ' H', Pv od es.length σ' H' → D.nx σ' (upd H' d (.dK es))) :
    tLock (tFor ti g ts) D σ H := by
  refine ⟨d, .dK es, hd, trivial, fun od => hi od _ ?_⟩
  exact for_it (w od) (Pv od) (h0 od) (fun i σ' H' hi p => hG od i σ' H' hi p) (fun i x σ' H' H2 hi p y => hs od i x σ' H' H2 hi p y) fun σ' H' p => ⟨hG od _ σ' H' (Nat.le_refl _) p, hn od σ' H' p⟩
end
end Ssb

/-! Comprehensions whose target is unpacked: lists, sets of texts. -/
namespace Ssb
open PySem PySem.Spec PyProof.Rows L2
open Evl (Ex Ev EvT EvL EvA EvU)
/-- the target takes x: the slots are σ2 behind it -/
def Unp (g : TG) (vs : List Nat) (σ σ2 : L2.St) (x : V) (H : Hp) : Prop := wipe σ2 vs = wipe σ vs ∧ ∀ Kont : L2.St → Hp → Prop, Kont σ2 H → g x (wipe σ vs) H Kont
section
variable {K : PySem.W.Frag} {σ : L2.St} {H : Hp} {te tl : TE} {vs : List Nat} {g : TG} {f : Nat → V}
theorem el_lcG {a : Addr} {xs : List V} (h : Ev tl σ H (.ref a)) (hx : SqL K H a xs) (hz : xs.length ≤ 100000) (he : ∀ (i : Nat) (x : V), xs[i]? = some x → ∀ H2, Ex H H2 → ∃ σ2, Unp g vs σ σ2 x H2 ∧ ∀ H3, Ex H H3 → Ev te σ2 H3 (f i)) :
    EvL (tLc (iList K tl) g tYes te vs) σ H ((List.range xs.length).map f) := fun H1 e Q q =>
  h H1 e _ fun H2 e2 => ⟨a, rfl, ⟨xs, Evl.ex_l (e.trans e2) hx⟩, fun Dl hD => by
    refine lc_list (K := K) (a := a) (xs := xs) (Cm H2 f Dl) ⟨hD, Ex.new hD, upd_same⟩ (fun i H' _ p => Evl.ex_l ((e.trans e2).trans p.2.1) hx) (fun i x H' hi p => ?_) fun H' p => q Dl H' (Evl.fresh_back e2 hD) (e2.trans p.2.1) p.2.2
    obtain ⟨σ2, ⟨hw, hk⟩, ev⟩ := he i x hi H' ((e.trans e2).trans p.2.1)
    exact hk _ ⟨hw, cm_next p (by have := (List.getElem?_eq_some_iff.mp hi).1; omega) (ev H2 (e.trans e2))⟩⟩
theorem yes_go {F G : Hp → Prop} (h : F H) : tYes σ H (fun b H3 => if b = true then F H3 else G H3) := by
  show (if true = true then F H else G H)
  rw [if_pos rfl]
  exact h
theorem ev_fld {a C dx : Addr} {fs : List (Str × V)} {v : V} {fn : Str} (h : Ev te σ H (.ref a)) (ho : H a = some (.ins C dx fs)) (c : Cls K C) (n : NoAttr K C fn) (l : fs.lookup fn = some v) : Ev (tFld K te fn) σ H v := fun H1 e Q q =>
  h H1 e _ fun H2 e2 => ⟨a, C, dx, fs, v, rfl, (e.trans e2) _ _ ho, c, n, l, q H2 e2⟩
theorem ev_sum {n : Nat} {c : Nat → Int} (h : EvL te σ H ((List.range n).map fun i => V.int (c i))) : Ev (tCB (rSum K) (tCons te tNil)) σ H (.int ((List.range n).map c).sum) := fun H1 e Q q =>
  h H1 e _ fun p H2 _ e2 hp => ⟨p, (List.range n).map c, rfl, by rw [List.map_map]; exact Evl.sq_of hp, q H2 e2⟩
/-- a pure answer handed on as an argument, a new tuple behind it -/
theorem rv_notN {x : V} : Evl.RV (fun x y H Q => y = .non ∧ Q (.bl (!decide (x = .non))) H) x .non H (.bl (!decide (x = .non))) := fun H1 _ _ q => ⟨rfl, q H1 (Ex.refl _)⟩
theorem rv_isN {x : V} : Evl.RV (fun x y H Q => y = .non ∧ Q (.bl (decide (x = .non))) H) x .non H (.bl (decide (x = .non))) := fun H1 _ _ q => ⟨rfl, q H1 (Ex.refl _)⟩
theorem met_snoc : ∀ (l acc : List Str) (x : Str), met acc (l ++ [x]) = put1 (met acc l) x
  | [], acc, x => rfl
  | y :: l, acc, x => met_snoc l _ x
/-- {name for .. in xs} -/
theorem ex_scG {P : Program} {w : World} {a : Addr} {xs : List V} {nms : List Str} (h : Ev tl σ H (.ref a)) (hx : SqL K H a xs) (hn : nms.length = xs.length) (few : xs.length ≤ 1000)
    (he : ∀ (i : Nat) (x : V), xs[i]? = some x → ∃ s, nms[i]? = some s ∧ ∀ H2, Ex H H2 → ∃ σ2, Unp g vs σ σ2 x H2 ∧ ∀ H3, Ex H H3 → Ev te σ2 H3 (.str s)) :
    Ev (tCB (rLenTxs P w) (tCons (tTxs P w (iList K tl) g tYes te vs) tNil)) σ H (.int ((met [] nms).length : Int)) := fun H1 e Q q =>
  h H1 e _ fun H2 e2 => ⟨a, rfl, ⟨xs, Evl.ex_l (e.trans e2) hx⟩, fun Dl hD => by
    have ml := met_len nms []
    simp only [List.length_nil] at ml
    refine ⟨fun i m H' => m = xs.length - i ∧ i ≤ xs.length ∧ Ex H2 H' ∧ H' Dl = some (Txs P w Dl (met [] (nms.take i))), ⟨xs.length, by simp, Nat.zero_le _, Ex.new hD, upd_same⟩, ?_⟩
    rintro i m H' ⟨rfl, hi, e3, hd⟩
    have sq := Evl.ex_l ((e.trans e2).trans e3) hx
    by_cases hlt : i < xs.length
    · refine .inr ⟨⟨xs, xs[i], sq, by simp [hlt]⟩, fun H' => Ex H2 H' ∧ H' Dl = some (Txs P w Dl (met [] (nms.take (i + 1)))), fun H' p' => ⟨xs.length - (i + 1), by omega, rfl, hlt, p'⟩, fun x H'' y => ?_⟩
      obtain ⟨rfl, y⟩ := y
      obtain ⟨s, hs, he2⟩ := he i x (y xs sq)
      obtain ⟨σ2, ⟨hw, hk⟩, ev⟩ := he2 _ ((e.trans e2).trans e3)
      refine hk _ ⟨hw, ev H2 (e.trans e2) _ e3 _ fun H4 e4 => ⟨s, met [] (nms.take i), rfl, e4 _ _ hd, ?_, Ex.mut (e3.trans e4) hD, ?_⟩⟩
      · have := met_len (nms.take i) []
        simp only [List.length_nil, List.length_take] at this
        exact Nat.lt_of_le_of_lt (show (met [] (nms.take i)).length + 1 ≤ 1001 by omega) (by decide)
      · rw [upd_same, List.take_add_one, hs]
        show _ = some (Txs P w Dl (met [] (nms.take i ++ [s])))
        rw [met_snoc]
    · have ei : i = xs.length := by omega
      subst ei
      refine .inl ⟨⟨xs, sq, Nat.le_refl _⟩, Dl, met [] nms, rfl, ?_, by omega, q H' (e2.trans e3)⟩
      rw [hd, ← hn, List.take_length]⟩
end
end Ssb

/-! Own errors over Exception whose __init__ keeps one attribute: made, raised. -/
namespace Ssb
open PySem PySem.Spec L2 PyProof.Rows

abbrev exBm : List Value := [.type "Exception", .type "BaseException", .type "object"]
/-- what the written part tells of such a class -/
structure OexE (K : PySem.W.Frag) (C : Addr) : Prop where
  over : PySem.W.excOver K C exBm = true
  made : PySem.W.excInitIn K C exBm "Exception.__new__" = true
  hd : PySem.W.hasDictIn K C = true
  sa : PySem.W.findIn K (.ref C) "__setattr__" = some (some (.builtin "object.__setattr__"))
  exC : PySem.W.subIn K (.ref C) (.type "BaseException") = some true
  tyC : PySem.W.typeIn K (.ref C) = some (.type "type")
  kC : PySem.W.keepIn K (.ref C) = true
section
variable {X : Cx} {pins : List (Addr × Obj)} {σ : L2.St} {H : Hp} {s : Shared} {a C : Addr} {f : Str} {y : V} {u : Value} {Q : Unit → Shared → Prop} {E : Value → Shared → Prop} {A : Around}
/-- the invariant behind the first attribute -/
theorem ost_inv {hp h' : Heap} {g : Array GenState} {d : Drawn} {t t' : Nat} {os : OsState} {dx t1 : Addr} (I : Inv X pins σ H ⟨hp, g, d, t, os⟩) (e : H a = some (exo a C none)) (ry : RelV y u) (dn : hp.objs.size ≤ dx) (dne : dx ≠ a) (k : ∀ b o, b ≠ a → hp.get? b = some o → h'.get? b = some o)
    (hx : h'.get? a = some ({ cls := .ref C, dict := some dx, data := .fields #[.ref t1, .none, .none, .none, .bool false, .none] } : Obj)) (hn : h'.Ns1 dx (fun z => if z = f then some u else none)) :
    H dx = none ∧ Inv X pins σ (upd (upd H dx (exd dx [(f, y)])) a (exo a C (some dx))) ⟨h', g, d, t', os⟩ := by
  have hnd : H dx = none := I.hok.fresh dn
  have old : ∀ b o, hp.get? b = some o → b ≠ dx := fun b o q => Nat.ne_of_lt (Nat.lt_of_lt_of_le (Heap.lt_size q) dn)
  have nota : ∀ b, H b = none → b ≠ a := fun b n z => by rw [z, e] at n; cases n
  refine ⟨hnd, I.un (t' := t') ⟨fun b o q n _ _ => k b o (nota b n) q, fun b o q n _ _ => ⟨o.slots, k b o (nota b n) q⟩, fun b o q n _ => (by rw [upd_ne (nota b n), upd_ne (old b o q)]; exact n), fun b o q _ => ?_,
    fun b xs q => (by rw [upd_ne (at_ne e q exo_tup), upd_ne (ne_of_none q hnd)]; exact q), fun b o v q => (by rw [upd_ne (at_ne e q exo_frz), upd_ne (ne_of_none q hnd)]; exact q), fun b ps q => ⟨#[], (by rw [upd_ne (at_ne e q exo_tbl), upd_ne (ne_of_none q hnd), q]; simp)⟩⟩ fun b o q => ?_⟩
  · by_cases hb : b = a
    · exact ⟨_, hb ▸ hx⟩
    · exact ⟨o, k b o hb q⟩
  · by_cases hb : b = a
    · subst hb; rw [upd_same] at q; cases q; exact exo_ok hx
    rw [upd_ne hb] at q
    by_cases hd : b = dx
    · subst hd; rw [upd_same] at q; cases q; exact exd_ok hn (relO_put (fs := []) ry fun g => True.intro)
    rw [upd_ne hd] at q
    refine (I.hok b o q).stay (fun c v hc z => k c v (hc.elim (fun hc => by rw [hc]; exact hb) fun hc => at_ne e hc exo_own) z) (fun c hc => ?_) (fun c xs hc => ?_)
    · rw [upd_ne (at_ne e hc exo_own), upd_ne (ne_of_none hc hnd)]; exact hc
    · rw [upd_ne (at_ne e hc exo_tup), upd_ne (ne_of_none hc hnd)]; exact hc
/-- self.f = y, the first attribute -/
theorem ost_newE (T : OexE X.K C) (I : Inv X pins σ H s) (e : H a = some (exo a C none)) (hno : PySem.W.findIn X.K (.ref C) f = some none) (ry : RelV y u)
    (h : ∀ dx s', H dx = none → dx ≠ a → Inv X pins σ (upd (upd H dx (exd dx [(f, y)])) a (exo a C (some dx))) s' → Q () s') : wpAny (model X.prog X.w) A (setAttr (.ref a) f u) Q E s := by
  obtain ⟨t1, ho⟩ := exo_at I.hok e
  obtain ⟨hp, g, d, t, os⟩ := s
  obtain ⟨cd, hc, hd'⟩ := PySem.W.any_some T.hd
  have hxs : a ≠ hp.objs.size := Nat.ne_of_lt (Heap.lt_size ho)
  refine PySem.W.set_plain I.kIn (od := none) ⟨ho, rfl, rfl, trivial⟩ T.sa (PySem.W.osa_openX (od := none) PySem.F.store_Exception I.kIn ⟨ho, rfl, rfl, trivial⟩ T.over (r := none) (by unfold PySem.W.takerIn; rw [hno]; rfl) fun b => ?_)
  refine wpAny_bind (wpAny_pure (wpAny_bind (PySem.W.instanceDict_exc (t := t1) (c2 := .none) ho (PySem.W.looks_clsIn I.kIn hc) hd' ?_)))
  refine PySem.HandSPX.store_in_new ?_ fun h' tk' hn' hs => ?_
  · exact ⟨_, #[], _, (Heap.get?_update_ne _ _ _ _ hxs.symm).trans (Heap.get?_push_at rfl rfl), rfl, fun e he => absurd he (by simp), fun _ => rfl⟩
  · have k : ∀ b o, b ≠ a → hp.get? b = some o → h'.get? b = some o := fun b o nb ho' => (hs.2 b (Nat.ne_of_lt (Heap.lt_size ho'))).trans ((Heap.get?_update_ne _ _ _ _ nb).trans (Heap.get?_push_of_some _ ho'))
    have hx : h'.get? a = some ({ cls := .ref C, dict := some hp.objs.size, data := .fields #[.ref t1, .none, .none, .none, .bool false, .none] } : Obj) := (hs.2 a hxs).trans (Heap.get?_update_self _ (Heap.get?_push_of_some _ ho) rfl)
    obtain ⟨n, J⟩ := ost_inv (t' := tk') I e ry (Nat.le_refl _) hxs.symm k hx hn'
    exact h _ _ n hxs.symm J
end
/-! ### readings and rules -/
/-- self.f = e within such an __init__ -/
def tOsE (K : PySem.W.Frag) (f : Str) (to te : TE) : TS := fun D σ H => te σ H fun y H1 => to σ H1 fun x H2 => ∃ a C : Addr, x = .ref a ∧ OexE K C ∧ PySem.W.findIn K (.ref C) f = some none ∧
  H2 a = some (exo a C none) ∧ ∀ dx, H2 dx = none → dx ≠ a → D.nx σ (upd (upd H2 dx (exd dx [(f, y)])) a (exo a C (some dx)))
section
variable {X : Cx} {o e : Expr} {es : List Expr} {to te : TE} {ta : TA} {f : Str} {p p' pos : Pos}
theorem ps_osE (ho : PE X o to) (he : PE X e te) (hs : swapsWith e (some (.Attribute o f p')) pos.line X.env = pure false := by rfl) : PS X (.Assign [.Attribute o f p'] e pos) (tOsE X.K f to te) :=
  ⟨fun pins s σ H D I h => plainObj_wpAny_Assign_Attribute (thn (he.run pins s σ H _ I h) fun v s1 ⟨y, H1, I1, r1, q1⟩ => thn (ho.run pins s1 σ H1 _ I1 q1) fun u s2 ⟨x, H2, I2, r2, a, C, ex, T, hno, ea, q⟩ => by
    subst ex
    cases (show u = Value.ref a from r2)
    exact ost_newE T I2 ea hno r1 fun dx s' n ne J => ⟨σ, _, J, q dx n ne⟩) hs⟩
/-- C(e, ..) as what is raised; its __init__ keeps sp -/
theorem pmk_oexE {x : Str} {C fI : Addr} {k j : Nat} {fd : FuncData} {ps : List Str} {sp : Sp} (T : OexE X.K C) (G : Mt X.prog X.w X.K X.mg X.base C "__init__" k ps sp fI fd) (tI : PySem.W.typeIn X.K (.ref fI) = some (.type "function")) (hr : Room j X.A) (hm : X.mg x = some (.ref C)) (ha : PA X (e :: es) ta) (hj : k + 1 ≤ j := by first | decide | omega)
    (hg : Gl X x := by rfl) (hdb : (x == ("__debug__" : Str)) = false := by decide) (he : starEach (e :: es) X.env = (false, eval e X.env) :: starEach es X.env := by rfl) (hpl : (backTo pos (starEach es X.env)).any (·.1) = false := by rfl) : PMk X (.Call (.Name x p) (e :: es) [] pos) (tMkO C sp [] ta) := by
  intro pins s σ H Q I h
  refine wpAny_Call_Name_kw (ld_glob I hg hm ?_ hdb)
  refine PySem.W.callWith_K (h₀ := X.base) I.ok.mod.kin T.kC (thn (ha.run pos pins s σ H _ I h) fun us s1 ⟨vs, H1, I1, r1, hz, q1⟩ => ⟨I1.kIn, ?_⟩) he hpl
  show wpAny _ _ (call (.ref C) us) _ _ _
  obtain ⟨hp, g, dr, tk, os⟩ := s1
  obtain ⟨nm, N, qn, bs, bm, hdct, sn, sub, ab, col, dd, k0, k1, k2, k3, k5, hC, hT⟩ := PySem.W.excInit_of I1.kIn T.made
  have hn : H1 (hp.objs.size + 1) = none := I1.hok.fresh (Nat.le_succ _)
  have hq := q1 (hp.objs.size + 1) hn
  rw [List.append_nil] at hq
  have kk : ∀ b o, hp.get? b = some o → ((hp.push (PySem.W.kdv_tup us)).push (PySem.HandSPX.excO C hp.objs.size)).get? b = some o := fun b o z => Heap.get?_push_of_some _ (Heap.get?_push_of_some _ z)
  have hget : ((hp.push (PySem.W.kdv_tup us)).push (PySem.HandSPX.excO C hp.objs.size)).get? (hp.objs.size + 1) = some (PySem.HandSPX.excO C hp.objs.size) := by heap_get
  have I2 := I1.laid (t' := tk) (o := exo (hp.objs.size + 1) C none) kk (Nat.le_succ _) (exo_ok hget)
  have r2 : Vals (V.ref (hp.objs.size + 1) :: vs) (Value.ref (hp.objs.size + 1) :: us) := .cons rfl r1
  have hl : (Value.ref (hp.objs.size + 1) :: us ++ []).length = ps.length := by rw [List.append_nil, ← r2.length, G.ok.len _ _ _ _ hq]
  have hb := G.bd ⟨(hp.push (PySem.W.kdv_tup us)).push (PySem.HandSPX.excO C hp.objs.size), g, dr, tk, os⟩ (Value.ref (hp.objs.size + 1) :: us) I2.kIn hl
  rw [List.append_nil] at hb
  have hus : us.length ≤ sizeLine := by rw [← Paired.length r1, sizeLine_eq]; omega
  refine wpAny_call (PySem.HandSPX.call_own PySem.F.excBase_Exception hT hC (PySem.W.looks_findIn I1.kIn G.mt.at_) (fun self => PySem.W.bind_fn I1.kIn self tI) hus
    (codeAny_mono (G.ok.run _ X.stack _ _ ⟨Value.ref (hp.objs.size + 1) :: us, []⟩ (Value.ref (hp.objs.size + 1) :: us) _ _ E0 ((hr.mono hj).make C us []) (I2.env0.make C us []) hb r2 hq) fun r s' hq' => ?_))
  cases r with
  | error er => exact hq'.elim
  | ok fl =>
    cases fl with
    | ret u =>
      obtain ⟨v, H2, os2, bare2, un2, hok2, rv, ev, d, fs, ea, ed, hd1, q2⟩ := hq'
      subst ev
      obtain ⟨h2, g2, d2, t2, os'⟩ := s'
      exact ⟨rv, mk_end (raises_own T.exC T.tyC) I1 (Nat.le_succ _) kk un2 hok2 os2 bare2 ea ed hd1 q2⟩
    | next => exact hq'.elim
    | brk => exact hq'.elim
    | cont => exact hq'.elim
end
end Ssb

/-! try .. except C as e, where the caught error stays known behind the suite. -/
namespace Ssb
open PySem PySem.Spec L2 PyProof.Rows
/-- at a: an error that was caught, of this class, with this dict -/
def exk (a : Addr) (cls : Value) (d : Option Addr) : HO := .ext fun h => ∃ oe vs, h.get? a = some oe ∧ Zc cls d oe ∧ oe.data = .fields vs
theorem exk_ok {P : Program} {w : World} {H : Hp} {h : Heap} {a : Addr} {cls : Value} {d : Option Addr} {oe : Obj} {vs : Array Value} (e : h.get? a = some oe) (z : Zc cls d oe) (f : oe.data = .fields vs) : ObjOk P w H h a (exk a cls d) :=
  ⟨⟨oe, vs, e, z, f⟩, ⟨oe, e⟩, fun _ _ ⟨o2, v2, e2, z2, f2⟩ k => ⟨o2, v2, k _ e2, z2, f2⟩⟩
theorem exk_at {P : Program} {w : World} {H : Hp} {h : Heap} {a : Addr} {cls : Value} {d : Option Addr} (hok : HOk P w H h) (e : H a = some (exk a cls d)) : ∃ oe vs, h.get? a = some oe ∧ Zc cls d oe ∧ oe.data = .fields vs := by
  have x : ObjOk P w H h a (.ext fun h => ∃ oe vs, h.get? a = some oe ∧ Zc cls d oe ∧ oe.data = .fields vs) := hok a _ e
  exact x.1
section
variable {X : Cx} {pins : List (Addr × Obj)} {σ : L2.St} {H : Hp} {s : Shared}
theorem adopt {a : Addr} {oe : Obj} {vs : Array Value} {cls : Value} {d : Option Addr} (I : Inv X ((a, oe) :: pins) σ H s) (hd : oe.data = .fields vs) (hz : Zc cls d oe) (n0 : ∀ b o, X.s_0.heap.get? b = some o → b ∉ X.ex → b ≠ a) (np : ∀ p ∈ X.pn ++ pins, p.1 ≠ a) : Inv X pins σ (upd H a (exk a cls d)) s := by
  obtain ⟨ge, na, nL, nF, nC⟩ := I.pin (a, oe) (List.mem_append_right _ List.mem_cons_self)
  have keep : ∀ {b : Addr} {o : HO}, H b = some o → (upd H a (exk a cls d)) b = some o := fun {b o} hb => by
    rw [upd_ne (fun z => by rw [z, na] at hb; cases hb)]; exact hb
  have B := I.base
  refine ⟨I.ok, I.os, I.bare, ⟨B.keep, B.slot, fun b o q n x => (by rw [upd_ne (n0 b o q x)]; exact B.free b o q n x), B.there, fun b xs q => keep (B.tups b xs q), fun b o u q => keep (B.frzs b o u q), fun b ps q => (B.tbls b ps q).imp fun _ h => keep h⟩, I.loc, I.cell, ?_, fun x c hc => ?_, fun p hp => ?_, fun b o q => ?_, I.len⟩
  · rw [upd_ne (Ne.symm nL)]; exact I.free
  · obtain ⟨v, oc, e1, e2⟩ := I.cell x c hc
    have : c ≠ a := fun z => by
      rw [z] at e1
      have e3 := Option.some.inj (ge.symm.trans e1)
      have e3 : oe = oc := e3
      rw [← e3] at e2
      exact nC _ (by simpa using e2)
    rw [upd_ne this]; exact I.freeC x c hc
  · obtain ⟨e1, e2, e3⟩ := I.pin p (by
      rcases List.mem_append.mp hp with h | h
      · exact List.mem_append_left _ h
      · exact List.mem_append_right _ (List.mem_cons_of_mem _ h))
    exact ⟨e1, by rw [upd_ne (np p hp)]; exact e2, e3⟩
  · by_cases hb : b = a
    · subst hb; rw [upd_same] at q; cases q; exact exk_ok ge hz hd
    · rw [upd_ne hb] at q
      exact (I.hok b o q).stay (fun _ _ _ z => z) (fun _ hc => keep hc) fun _ _ hc => keep hc
end
/-- what the clause asks of an error of the body: as wAs, but behind the suite a is known -/
def wKeep (K : PySem.W.Frag) (c : Value) (i : Nat) (ts : Addr → Value → Option Addr → TS) (Wout : WX) (D : Ends) : WX := fun cls d σ H => ∃ b, PySem.W.exmOne K cls c = some b ∧
  (b = true → ∀ a, H a = none → ts a cls d { nx := fun σ' H' => D.nx (σ'.set i none) (upd H' a (exk a cls d)), rt := fun v H' => D.rt v (upd H' a (exk a cls d)), bk := fun σ' H' => D.bk (σ'.set i none) (upd H' a (exk a cls d)), ct := fun σ' H' => D.ct (σ'.set i none) (upd H' a (exk a cls d)) } (σ.set i (some (.ref a))) H) ∧ (b = false → Wout cls d σ H)
section
variable {X : Cx} {x n : Str} {c : Value} {i : Nat} {body suite : List Stmt} {b₀ : Stmt} {np pos pos' : Pos} {tb : WX → TS} {ts : Addr → Value → Option Addr → TS} {Wout : WX}
theorem ps_try_keep (hs : X.stack = X.env :: X.outer) (hf : X.env.frame = some X.env.locals) (hN : X.N.Nodup) (hi : X.N[i]? = some n) (hln : X.env.kindOf n = some .local) (hc : Names X x c) (tk : Takes X Wout)
    (hb : ∀ (W : WX) (pn : List (Addr × Obj)) (xe : Value → Shared → Prop), Takes (X.tr pn xe) W → PassesOwn (model X.prog X.w) X.A X.env xe → PSs (X.tr pn xe) body (tb W))
    (hsu : ∀ (a : Addr) (oe : Obj) (cls : Value) (d : Option Addr) (pn : List (Addr × Obj)), Zc cls d oe → (∃ vs, oe.data = .fields vs) → PSs (X.suite a ((a, oe) :: pn)) (b₀ :: suite) (ts a cls d)) :
    PS X (.Try body [.ExceptHandler (some (.Name x np)) (some n) (b₀ :: suite) pos'] [] [] pos) (fun D σ H => tb (wKeep X.K c i ts Wout D) D σ H) := by
  refine ⟨fun pins s σ H D I h => ?_⟩
  have ok := I.ok
  have fr0 : X.A.frames = some (X.env :: X.outer) := by rw [ok.frames, hs]
  refine wpAny_Try_except (wpAny_mono ((hb (wKeep X.K c i ts Wout D) (X.pn ++ pins) (fun e s₁ => wpAny (model X.prog X.w) X.A (noteFrame e X.env) (fun _ s₂ => wpAny (model X.prog X.w) X.A (setFlight e none) (fun _ s₃ => wpAny (model X.prog X.w) X.A (handleBy e X.env [.ExceptHandler (some (.Name x np)) (some n) (b₀ :: suite) pos']) (SP X pins D) X.xe s₃) X.xe s₂) X.xe s₁) (fun u s' xx => ?_) PassesOwn.looking).run [] s σ H D (I.toTry _) h) (fun f s1 hsp => ?_) (fun e s1 he => he))
  · obtain ⟨a, B, sI, pins', σ1, HH, cls, d, rfl, J0, nb, up, sky, na, os, ag, b, hb1, hyes, hno⟩ := xx
    have J : Inv X pins σ1 HH sI := J0.ofTry ok
    rw [show (X.tr (X.pn ++ pins) _).stack = X.env :: X.outer from hs] at sky
    refine Sky.land Zc.steady fr0 hf sky fun h3 fl3 up3 => ?_
    have J3 : Inv X pins σ1 HH { s' with heap := h3 } := J.landed nb fl3.1 (up.trans up3) os ag
    obtain ⟨oe3, vs3, he3, hz3, hd3⟩ := fl3.there
    have nfr : a ∉ frs (X.env :: X.outer) := fun hm => by
      obtain ⟨_, o', e', hnf⟩ := fl3.2.2.1.mem hm
      rw [he3] at e'; cases e'; exact hnf _ hd3
    have nL : a ≠ X.env.locals := fun z => nfr (List.mem_filterMap.mpr ⟨X.env, List.mem_cons_self, (by rw [hf, z])⟩)
    have nF : a ∉ X.fs := fun hm => (List.mem_filterMap.mp hm).elim fun e he => nfr (List.mem_filterMap.mpr ⟨e, List.mem_cons_of_mem _ he.1, he.2⟩)
    -- the error is younger than all that stood
    have young : sI.heap.get? a = none := by
      cases hg : sI.heap.get? a with
      | none => rfl
      | some o =>
        have := nb a o hg (by rw [show (X.tr (X.pn ++ pins) _).stack = X.env :: X.outer from hs]; exact nfr)
        rw [fl3.2.1] at this; cases this
    have n0 : ∀ b o, X.s_0.heap.get? b = some o → b ∉ X.ex → b ≠ a := fun b o q hx z => by
      obtain ⟨o', h'⟩ := J.base.there b o q hx
      rw [z, young] at h'; cases h'
    have np0 : ∀ p ∈ X.pn ++ pins, p.1 ≠ a := fun p hp z => by
      have := (J.pin p hp).1
      rw [z, young] at this; cases this
    have S3 := J3.suite he3 hd3 na nL nF
    have LM := PySem.W.exm_one (M := model X.prog X.w) J3.kIn (show PySem.W.Looks (model X.prog X.w) h3 (typeOf (.ref a)) cls from fun A Q E s k q => wpAny_typeOf_ref (k _ _ he3) (by rw [hz3.1]; exact q)) hb1
    refine wpAny_handleBy_cons (codeAny_handlers_test ?_) (by intro q; cases q)
    have test : ∀ {Q : Value → Shared → Prop} {E : Value → Shared → Prop}, Q c { s' with heap := h3 } → wpAny (model X.prog X.w) (X.A.mark (some (.ref a))) (eval (.Name x np) X.env) Q E { s' with heap := h3 } := fun {Q E} q => by
      obtain ⟨hg, hdb, hm | ⟨hm, hv, hnn⟩⟩ := hc
      · exact ld_glob S3 hg hm q hdb
      · exact ld_blt S3 hg hm hv q hnn hdb
    refine test (LM.here ?_)
    cases b with
    | true =>
      refine codeAny_handlers_suite_as (HandSPX.lands_againZ fl3 fun h4 fl4 up4 => ?_)
      have J4 : Inv X pins σ1 HH { s' with heap := h4 } := J.landed nb fl4.1 ((up.trans up3).trans up4) os ag
      obtain ⟨oe4, vs4, he4, hz4, hd4⟩ := fl4.there
      refine store_ok (X := X.suite a ((a, oe4) :: (X.pn ++ pins))) (v := .ref a) (J4.suite he4 hd4 na nL nF) hN hi (.inl hln) rfl (fun s5 S5 => ?_) (.inr hln)
      refine wpAny_mono ((hsu a oe4 cls d (X.pn ++ pins) hz4 ⟨_, hd4⟩).run [] s5 _ HH _ S5 (hyes rfl a na)) (fun f s6 hsp => ?_) (fun _ _ z => False.elim z)
      have fin : ∀ {σ6 : L2.St} {H6 : Hp} {Q : Shared → Prop}, Inv (X.suite a ((a, oe4) :: (X.pn ++ pins))) [] σ6 H6 s6 → (∀ s7, Inv X pins (σ6.set i none) (upd H6 a (exk a cls d)) s7 → Q s7) →
          wpAny (model X.prog X.w) X.A (do bindName X.env n .none; unbindBehindTheSuite X.env n pos') (fun _ s7 => Q s7) X.xe s6 := fun {σ6 H6 Q} S6 hq => by
        have I6 : Inv X ((a, oe4) :: pins) σ6 H6 s6 := ⟨ok, S6.os, S6.bare, S6.base, S6.loc, S6.cell, S6.free, S6.freeC, fun p hp => S6.pin p (by
          rw [List.append_nil]
          rcases List.mem_append.mp hp with h | h
          · exact List.mem_cons_of_mem _ (List.mem_append_left _ h)
          · rcases List.mem_cons.mp h with h | h
            · rw [h]; exact List.mem_cons_self
            · exact List.mem_cons_of_mem _ (List.mem_append_right _ h)), S6.hok, S6.len⟩
        exact gone_ok I6 hN hi hln fun s7 J7 => hq s7 (adopt J7 hd4 hz4 n0 np0)
      cases f with
      | ret u => obtain ⟨v6, σ6, H6, S6, r6, q6⟩ := hsp; exact fin S6 fun s7 J7 => ⟨_, _, _, J7, r6, q6⟩
      | next => obtain ⟨σ6, H6, S6, q6⟩ := hsp; exact fin S6 fun s7 J7 => ⟨_, _, J7, q6⟩
      | brk => obtain ⟨σ6, H6, S6, q6⟩ := hsp; exact fin S6 fun s7 J7 => ⟨_, _, J7, q6⟩
      | cont => obtain ⟨σ6, H6, S6, q6⟩ := hsp; exact fin S6 fun s7 J7 => ⟨_, _, J7, q6⟩
    | false =>
      show wpAny _ X.A (handleBy (.ref a) X.env []) _ _ _
      obtain ⟨k1, k2, k3, oe, vs, T, oT, ts', he, hz, hd, h1, hr⟩ := id fl3
      refine wpAny_handleBy_nil ?_
      unfold PySem.passOn
      refine wpAny_bind (wpAny_field he hd h1 ?_)
      rw [if_neg (show ¬ ((Value.ref T == Value.none) = true) by simp)]
      have go : wpAny (model X.prog X.w) X.A (setFlight (.ref a) X.env.frame) (fun _ s4 => wpAny (model X.prog X.w) X.A (throw (.ref a) : Sem Flow) (SP X pins D) X.xe s4) X.xe { s' with heap := h3 } := by
        rw [hf]
        exact HandSPX.setFlight_upZ fl3 fun h4 hh4 up4 => wpAny_throw (tk _ _ ⟨a, B, sI, pins, σ1, HH, cls, d, rfl, J, nb, (up.trans up3).trans up4, .inr (.inr (by rw [hs]; exact hh4)), na, os, ag, hno rfl⟩)
      first
        | exact wpAny_bind go
        | exact wpAny_bind (wpAny_pure (wpAny_bind go))
  · cases f with
    | ret u => obtain ⟨v, σ1, HH, J, r, q⟩ := hsp; exact ⟨v, σ1, HH, J.ofTry ok, r, q⟩
    | next => obtain ⟨σ1, HH, J, q⟩ := hsp; exact wpAny_execs_nil ⟨σ1, HH, J.ofTry ok, q⟩
    | brk => obtain ⟨σ1, HH, J, q⟩ := hsp; exact ⟨σ1, HH, J.ofTry ok, q⟩
    | cont => obtain ⟨σ1, HH, J, q⟩ := hsp; exact ⟨σ1, HH, J.ofTry ok, q⟩
end
end Ssb

/-! A caught error that is kept: its attribute, isinstance of it. -/
namespace Ssb
open PySem PySem.Spec L2 PyProof.Rows
/-- what the class says, so that isinstance asks its instances rightly -/
structure ExK (K : PySem.W.Frag) (C : Addr) : Prop where
  xf : XfC K C
  cl : (PySem.W.clsIn K C).isSome = true
  ha : PySem.W.findIn K (.ref C) "__class__" = some (some (.builtin "object.__class__"))
  hn : PySem.W.specialIn K (.builtin "object.__class__") "__get__" = some (some (.builtin "getset_descriptor.__get__"))
  ht : PySem.W.takesIn K (.builtin "object.__class__") = some true
  hm : PySem.W.mroIn K C (.type "object") = some true
theorem exk_cl {K : PySem.W.Frag} {C : Addr} (h : PySem.W.hasDictIn K C = true) : (PySem.W.clsIn K C).isSome = true := by
  obtain ⟨cd, hc, _⟩ := PySem.W.any_some h
  rw [hc]; rfl
section
variable {X : Cx} {pins : List (Addr × Obj)} {σ : L2.St} {H : Hp} {s : Shared}
/-- the kept error as an instance of its class -/
theorem kept_inst {a C d : Addr} {fs : List (Str × V)} (I : Inv X pins σ H s) (e : H a = some (exk a (.ref C) (some d))) (ed : H d = some (.xd fs)) : ∃ (oe od : Obj) (mA : Str → Option Value), PySem.W.InstAt s.heap a oe C (some od) ∧ (∀ f, PySem.W.lookIn f od = some (mA f)) ∧ ∀ f, RelO (fs.lookup f) (mA f) := by
  obtain ⟨oe, vs, he, hz, hf⟩ := exk_at I.hok e
  obtain ⟨mA, hns, hr⟩ := (show ObjOk X.prog X.w H s.heap d (.xd fs) from I.hok d _ ed)
  obtain ⟨od, ho, hl⟩ := lookIn_ns hns
  exact ⟨oe, od, mA, ⟨he, hz.1, (by unfold PySem.W.notCls; rw [hf] <;> rfl), (by rw [hz.2]; exact ho)⟩, hl, hr⟩
/-- e.f, e a kept error -/
def tFldE (C : Addr) (f : Str) (te : TE) : TE := fun σ H Q => te σ H fun x H1 => ∃ (a d : Addr) (fs : List (Str × V)) (v : V), x = .ref a ∧ H1 a = some (exk a (.ref C) (some d)) ∧ H1 d = some (.xd fs) ∧ fs.lookup f = some v ∧ Q v H1
theorem pe_fldE {C : Addr} {e : Expr} {te : TE} {pos : Pos} {n : Str} (T : XfC X.K C) (hno : PySem.W.findIn X.K (.ref C) n = some none) (he : PE X e te) (hb : attributeBase e n X.env (eval e X.env) = eval e X.env := by rfl) : PE X (.Attribute e n pos) (tFldE C n te) := by
  refine ⟨fun pins s σ H Q I h => attr_of hb (thn (he.run pins s σ H _ I h) fun u s1 ⟨x, H1, I1, rx, a, d, fs, v, ex, ea, ed, l, q⟩ => ?_)⟩
  subst ex
  cases (show u = Value.ref a from rx)
  obtain ⟨oe, od, mA, J, hl, hr⟩ := kept_inst I1 ea ed
  obtain ⟨u, hu, ru⟩ := RelO.some_of (v := v) (o := mA n) (by rw [← l]; exact hr n)
  exact HandSPX.exc_get I1.kIn J T.ga T.gg T.exC (PySem.W.findObj_own T.hdC hno rfl (by rw [hl, hu])) (handed_of ru) ⟨v, H1, I1.tok _, ru, q⟩
/-- isinstance(e, c), e a kept error -/
def rIsiE (K : PySem.W.Frag) : List V → Hp → VK → Prop := fun xs H Q => ∃ (a C d : Addr) (fs : List (Str × V)) (c : V) (u : Value) (b : Bool), xs = [.ref a, c] ∧ ClsV c u ∧ ExK K C ∧ H a = some (exk a (.ref C) (some d)) ∧ H d = some (.xd fs) ∧ PySem.W.kitOne K (.ref C) u = some b ∧ Q (.bl b) H
theorem call_isiE : CallR X (.builtin "isinstance") (rIsiE X.K) := by
  intro pins s σ H xs us Q I r h
  obtain ⟨a, C, d, fs, c, u, b, rfl, k, T, ea, ed, e, q⟩ := h
  obtain ⟨u1, u2, rfl, r1, r2⟩ := vals2 r
  cases k.eq r2
  cases (show u1 = Value.ref a from r1)
  obtain ⟨oe, od, mA, J, hl, hr⟩ := kept_inst I ea ed
  exact PySem.W.kia_one (PySem.W.kitx_exc (od := some od) T.cl T.xf.ga T.xf.gg T.xf.exC T.ha T.hn T.ht T.hm) I.kIn J e (fun z => nomatch z) fun tk => ⟨.bl b, H, I.tok tk, rfl, q⟩
end
end Ssb

/-! Defs and methods that may raise, called where what is raised is asked for at the caller's slots. -/
namespace Ssb
open PySem PySem.Spec L2 PyProof.Rows
structure FnX (P : Program) (w : World) (K : PySem.W.Frag) (mg : Str → Option Value) (base : Heap) (nm : Str) (k : Nat) (ps : List Str) (sp : Sp) (f : Addr) (fd : FuncData) : Prop where
  ok : FnOk P w K mg base (L2.CX P w) k f fd ps sp
  at_ : mg nm = some (.ref f)
  kp : PySem.W.keepIn K (.ref f) = true
  bd : Binds K fd ps []
structure MtX (P : Program) (w : World) (K : PySem.W.Frag) (mg : Str → Option Value) (base : Heap) (C : Addr) (nm : Str) (k : Nat) (ps : List Str) (sp : Sp) (f : Addr) (fd : FuncData) : Prop where
  ok : FnOk P w K mg base (L2.CX P w) k f fd ps sp
  mt : Meth K C nm f
  bd : Binds K fd ps []
section
variable {X : Cx} {W : WX} {nm : Str} {k j : Nat} {ps : List Str} {sp : Sp} {f : Addr} {fd : FuncData} {p pos apos : Pos} {e o : Expr} {es : List Expr} {ta : TE} {t : TA} {C : Addr} {pl : Sem Bool}
theorem passes_at (tk : Takes X W) (σ : L2.St) : PassesAt (L2.CX X.prog X.w) X σ (fun cls d H => W cls d σ H) := fun pins H s e s' I c => tk _ _ (XE.of_call I (fun _ _ _ h => h) c)
/-- f(e, ..) -/
theorem pclX (G : FnX X.prog X.w X.K X.mg X.base nm k ps sp f fd) (tk : Takes X W) (hr : Room j X.A) (ha : PA X (e :: es) t) (hj : k ≤ j := by first | decide | omega) (hg : Gl X nm := by rfl) (hdb : (nm == ("__debug__" : Str)) = false := by decide)
    (he : starEach (e :: es) X.env = (false, eval e X.env) :: starEach es X.env := by rfl) (hpl : (backTo pos (starEach es X.env)).any (·.1) = false := by rfl) : PE X (.Call (.Name nm p) (e :: es) [] pos) (tCallSD sp [] (fun σ cls d H => W cls d σ H) t) :=
  pe_callSD G.ok (hr.mono hj) hg G.at_ G.kp G.bd .nil (passes_at tk) ha hdb he hpl
/-- the reading of o.m(e, ..) -/
def tMethS (C : Addr) (m : Str) (sp : Sp) (W : WX) (ta : TE) (t : TA) : TE := fun σ H Q => ta σ H fun x H1 => ∃ a dx fs, x = .ref a ∧ H1 a = some (.ins C dx fs) ∧ fs.lookup m = none ∧ t σ H1 fun vs H2 => sp (x :: vs) H2 Q fun cls d H' => W cls d σ H'
theorem pmtX (ho : PE X o ta) (c : Cls X.K C) (G : MtX X.prog X.w X.K X.mg X.base C nm k ps sp f fd) (tk : Takes X W) (hr : Room j X.A) (ha : PA X (e :: es) t) (hj : k ≤ j := by first | decide | omega)
    (he : starEach (e :: es) X.env = (false, eval e X.env) :: starEach es X.env := by rfl) (hpl : (backTo pos (starEach es X.env)).any (·.1) = false := by rfl)
    (ht : eval (.Call (.Attribute o nm apos) (e :: es) [] pos) X.env = (do
      let ov ← eval o X.env
      standAt apos.atName
      let (f, first) ← holding [ov] (getMethod ov nm pl)
      callWith pos f first (backTo pos (starEach (e :: es) X.env)) (backToKw pos (keywordEach [] X.env))) := by rfl) : PE X (.Call (.Attribute o nm apos) (e :: es) [] pos) (tMethS C nm sp W ta t) := by
  refine ⟨fun pins s σ H Q I h => PySem.W.methodCall_KW (pl := pl) (thn (ho.run pins s σ H _ I h) fun u s1 ⟨x, H1, I1, rx, a, dx, fs, ex, ea, l, q⟩ => ?_) ht⟩
  subst ex
  cases (show u = Value.ref a from rx)
  refine getmeth_ok I1 ea c G.mt l (PySem.W.callWith_K (first := [.ref a]) (h₀ := X.base) I.ok.mod.kin G.mt.kp (thn (ha.run pos pins s1 σ H1 _ I1 q) fun us s2 ⟨vs, H2, I2, r, q2⟩ => ⟨I2.kIn, ?_⟩) he hpl)
  exact run_fnSD (E := fun σ cls d H => W cls d σ H) (dvs := []) (us := .ref a :: us) (vs := .ref a :: vs) G.ok (hr.mono hj) G.bd .nil (passes_at tk σ) I2 (.cons rfl r) (by rw [List.append_nil]; exact q2)
end
end Ssb

/-! list(reversed(a list)) as one expression. -/
namespace Ssb
open PySem PySem.Spec PyProof.Rows L2 RT
section
variable {pr : Program} {wd : World} {Ar : Around} {Er : Value → Shared → Prop} {st : Shared}
/-- a fresh list taking what the walker over l, from its end, hands out -/
theorem ext_rev {R : Result → Shared → Prop} {it l S : Addr} {vs : Array Value} (hh : Ar.handled = none) (hit : st.heap.IsRevIter it l ((vs.size : Int) - 1)) (hl : st.heap.IsList l vs) (n1 : l ≠ it) (n2 : S ≠ it) (n3 : S ≠ l) (hn : vs.size ≤ sizeLine)
    (res : Value) (c₀ : Nat) (hS : st.heap.get? S = some { cls := .type "list", data := .seq #[] c₀ })
    (k : ∀ (h' : Heap) (tk : Nat) (acc : Array Value) (c' : Nat), (∀ b o, b ≠ S → b ≠ it → st.heap.get? b = some o → h'.get? b = some o) → h'.get? S = some { cls := .type "list", dict := none, data := .seq acc c', slots := #[] } →
      ItemsOf (fun i v => vs[vs.size - 1 - i]? = some v) acc vs.size → R (.ok (.ret res)) { st with heap := h', toks := tk }) :
    wpAny (model pr wd) Ar.in1 (Builtin.List.listExtendWith (.ref S) (.ref it) res) (fun fin z => match fin with | .done f => R (.ok f) z | .again c' => c'.quiet = true ∧ codeAny (model pr wd) Ar c' R z) (fun e z => R (.error e) z) st := by
  have W := (Walks.listRev (prog := pr) (w := wd) (A := Ar.in1) hh it l n1 vs).toS
  have out : S ∉ [it, l] := by simp [n2, n3]
  have ht : st.TypeIs (.ref it) "list_reverseiterator" := hit.typeIs
  have ns : Builtin.List.listSameRef (.ref S) (.ref it) = false := by simp [Builtin.List.listSameRef, n2]
  unfold Builtin.List.listExtendWith
  refine wpAny_bind (wpAny_typeOf ht ?_)
  rw [if_neg (by rw [ns]; decide)]
  refine wpAny_bind (wpAny_pyIter_revIter hit (wpAny_bind (wpAny_holding ?_)))
  unfold Builtin.List.listLengthHint
  refine wpAny_bind (wpAny_specialOf ht nolen_lri ?_)
  show wpAny _ _ (specialOf (.ref it) (Str.ofString "__length_hint__") >>= _) _ _ _
  refine wpAny_bind (wpAny_specialOf ht hint_lri ?_)
  generalize hid : ("list_reverseiterator.__length_hint__" : String) = hintName
  wp_delta
  rw [show splitId hintName = some ("list_reverseiterator", "__length_hint__") from by rw [← hid]; decide +kernel]
  subst hid
  refine wpAny_bind (wpAny_isInstance (b := true) ht (by rw [isSubtype_type]; kernel_rfl) (wpAny_pure ?_))
  rw [if_neg (by decide)]
  have e0 : (vs.size : Int) - 1 = (vs.size : Int) - 1 - ((0 : Nat) : Int) := by omega
  rw [e0] at hit
  refine wpAny_pure ⟨plainId_quiet F.plain_extend_loop _, codeAny_extend_loopS W hn S out res vs.size 0 _ _ _ rfl (Nat.zero_le _) ⟨Nat.zero_le _, hit, hl⟩ hS (ItemsOf.nil _) fun z acc c' mv hz hi => ?_⟩
  rw [Moved.eq_with mv]
  exact k z.heap z.toks acc c' (fun b o b1 b2 e => mv.heap b o (by simp [b1, b2]) e) hz hi
theorem list_init_rev {R : Result → Shared → Prop} {it l S : Addr} {vs : Array Value} (hh : Ar.handled = none) (hit : st.heap.IsRevIter it l ((vs.size : Int) - 1)) (hl : st.heap.IsList l vs) (n1 : l ≠ it) (n2 : S ≠ it) (n3 : S ≠ l) (hn : vs.size ≤ sizeLine)
    (hS : st.heap.get? S = some { cls := .type "list", data := .seq #[] })
    (k : ∀ (h' : Heap) (tk : Nat) (acc : Array Value) (c' : Nat), (∀ b o, b ≠ S → b ≠ it → st.heap.get? b = some o → h'.get? b = some o) → h'.get? S = some { cls := .type "list", dict := none, data := .seq acc c', slots := #[] } →
      ItemsOf (fun i v => vs[vs.size - 1 - i]? = some v) acc vs.size → R (.ok (.ret .none)) { st with heap := h', toks := tk }) :
    wpAny (model pr wd) Ar.in1 (Builtin.«list.__init__» ⟨[.ref S, .ref it], []⟩) (fun fin z => match fin with | .done f => R (.ok f) z | .again c' => c'.quiet = true ∧ codeAny (model pr wd) Ar c' R z) (fun e z => R (.error e) z) st := by
  show wpAny _ _ (Builtin.List.listItems (.ref S) >>= fun old => Builtin.List.listUpdate (.ref S) (fun _ => #[]) >>= fun _ => letGo old.toList.reverse >>= fun _ => Builtin.List.listExtendWith (.ref S) (.ref it) .none) _ _ st
  refine wpAny_bind ?_
  unfold Builtin.List.listItems
  refine wpAny_bind (wpAny_seqItems hS rfl (wpAny_pure (wpAny_bind ?_)))
  show wpAny _ _ (updateSeq S fun _ => #[]) _ _ _
  have kept : ∀ b o, b ≠ S → st.heap.get? b = some o → (st.heap.update S (Obj.mapSeq fun _ => (#[] : Array Value))).get? b = some o := fun b o hb e => (Heap.get?_update_other _ _ (Ne.symm hb)).trans e
  refine wpAny_updateSeq hS rfl (wpAny_bind (wpAny_letGo ?_))
  exact ext_rev hh (hit.at fun o e => kept it o (Ne.symm n2) e) (hl.at fun o e => kept l o (Ne.symm n3) e) n1 n2 n3 hn .none _ (Heap.get?_update_self (Obj.mapSeq fun _ => (#[] : Array Value)) hS rfl) fun h' tk acc c' q => k h' tk acc c' fun b o b1 b2 e => q b o b1 b2 (kept b o b1 e)
theorem call_list_rev {Q : Value → Shared → Prop} {it l : Addr} {vs : Array Value} (hh : Ar.handled = none) (hit : st.heap.IsRevIter it l ((vs.size : Int) - 1)) (hl : st.heap.IsList l vs) (n1 : l ≠ it) (hn : vs.size ≤ sizeLine)
    (k : ∀ (h' : Heap) (tk : Nat) (acc : Array Value) (c' : Nat), (∀ b o, b ≠ it → st.heap.get? b = some o → h'.get? b = some o) → h'.get? st.heap.objs.size = some { cls := .type "list", dict := none, data := .seq acc c', slots := #[] } →
      ItemsOf (fun i v => vs[vs.size - 1 - i]? = some v) acc vs.size → Q (.ref st.heap.objs.size) { st with heap := h', toks := tk }) : wpAny (model pr wd) Ar (call (.type "list") [.ref it]) Q Er st := by
  obtain ⟨oi, hoi, _⟩ := id hit
  obtain ⟨ol, hol, _⟩ := id hl
  refine callType_codes (Q₁ := fun u z => u = .ref st.heap.objs.size ∧ z = { st with heap := st.heap.push { cls := .type "list", data := .seq #[] } }) F.called_list (F.typeCall_list_1 _) F.entry_list_init (code_list_new _ ⟨rfl, rfl⟩) ?_
  rintro u z ⟨rfl, rfl⟩
  have hS : (st.heap.push { cls := .type "list", data := .seq #[] }).get? st.heap.objs.size = some { cls := .type "list", data := .seq #[] } := Heap.get?_push_size _ rfl
  refine ⟨⟨_, hS, rfl⟩, F.args_list_init_2 _ _, list_init_rev (Ar := Ar.in1) (it := it) (l := l) (vs := vs) hh (hit.at fun o e => Heap.get?_push_of_some _ e) (hl.push _) n1 (Nat.ne_of_gt (Heap.lt_size hoi)) (Nat.ne_of_gt (Heap.lt_size hol)) hn hS fun h' tk acc c' q hz hi => ⟨rfl, ?_⟩⟩
  exact k h' tk acc c' (fun b o hb e => q b o (Nat.ne_of_lt (Heap.lt_size e)) hb (Heap.get?_push_of_some _ e)) hz hi
end
/-- list(reversed(e)), e a list -/
def tLstRev (K : PySem.W.Frag) (te : TE) : TE := fun σ H Q => te σ H fun x H1 => ∃ (a : Addr) (xs : List V), x = .ref a ∧ SqL K H1 a xs ∧ ∀ p, H1 p = none → Q (.ref p) (upd H1 p (.lst xs.reverse))
section
variable {X : Cx}
theorem pe_lstRev {e : Expr} {te : TE} {q1 q2 c1 c2 : Pos} (hc : X.calm = true) (g1 : Gl X "list") (m1 : X.mg "list" = none) (g2 : Gl X "reversed") (m2 : X.mg "reversed" = none) (he : PE X e te)
    (h1 : starEach [e] X.env = (false, eval e X.env) :: starEach [] X.env := by rfl)
    (h2 : starEach [.Call (.Name "reversed" q2) [e] [] c2] X.env = (false, eval (.Call (.Name "reversed" q2) [e] [] c2) X.env) :: starEach [] X.env := by rfl) :
    PE X (.Call (.Name "list" q1) [.Call (.Name "reversed" q2) [e] [] c2] [] c1) (tLstRev X.K te) := by
  refine ⟨fun pins s σ H Q I h => ?_⟩
  refine Call_ (ld_blt I g1 m1 boot_list (PyProof.Rows.callWith_type1 (args_cons ?_ h2) h2 rfl))
  refine Call_ (ld_blt I g2 m2 PyProof.Rows.boot_reversed (PyProof.Rows.callWith_type1 (args_cons ?_ h1) h1 rfl))
  refine thn (he.run pins s σ H _ I h) fun u s1 ⟨v, H1, I1, r1, a, xs, ev, hq, q⟩ => args_nil ?_
  subst ev
  obtain rfl : u = Value.ref a := r1
  obtain ⟨its, rv, pl, hz⟩ := I1.list hq
  have il := pl.isList
  obtain ⟨ol, hol, _⟩ := id il
  refine call_reversed_list il (args_nil ?_)
  have I2 : Inv X pins σ H1 { s1 with heap := s1.heap.push (revObj a ((its.toArray.size : Int) - 1)) } := I1.kept (t' := s1.toks) fun b o e => Heap.get?_push_of_some _ e
  obtain ⟨f0, f1, f2, f3, f4, f5⟩ := I1.fpOk (H' := H1) (b := s1.heap.objs.size) (Nat.le_refl _) (I1.hok.fresh (Nat.le_refl _))
  have small : its.toArray.size ≤ sizeLine := by rw [List.size_toArray, ← rv.length]; exact hz
  refine call_list_rev (st := { s1 with heap := s1.heap.push (revObj a ((its.toArray.size : Int) - 1)) }) (it := s1.heap.objs.size) (l := a) (vs := its.toArray) (I1.ok.hd hc) ⟨_, Heap.get?_push_size _ rfl, rfl, rfl⟩ (il.push _) (Nat.ne_of_lt (Heap.lt_size hol)) small fun h' tk acc c' hk hz' hi => ?_
  have all : ∀ b o, s1.heap.get? b = some o → h'.get? b = some o := fun b o e => hk b o (Nat.ne_of_lt (Heap.lt_size e)) (Heap.get?_push_of_some _ e)
  have lo : s1.heap.objs.size ≤ (s1.heap.push (revObj a ((its.toArray.size : Int) - 1))).objs.size := by
    show s1.heap.objs.size ≤ (s1.heap.objs.push _).size
    rw [Array.size_push]; omega
  exact ⟨.ref _, upd H1 _ (.lst xs.reverse), I1.laid (t' := tk) all lo (show ObjOk X.prog X.w _ _ _ (.lst xs.reverse) from ⟨by rw [List.length_reverse]; exact hz, acc.toList, c', vals_rev rv hi, by rw [Array.toArray_toList]; exact hz'⟩), rfl, q _ (I1.hok.fresh lo)⟩
end
end Ssb

/-! f"{i:x}" of an int. -/
namespace Ssb
open PySem PySem.Spec PyProof.Rows Builtin Float
/-- an int in hex signs -/
def hexT (a : Int) : Str := ⟨((if a < 0 then [45] else []) ++ (Nat.toDigits 16 a.natAbs).map Char.toNat).toArray⟩
def fX : FormatSpec := { fill := 32, align := 62, type := some 120 }
theorem fX_ok : parseFormatSpec ("x" : Str).cps.toList "int" 62 = .ok fX := by kernel_rfl
section
variable {prog : Program} {w : World} {A : Around} {E : Value → Shared → Prop} {s : Shared}
theorem hexT_len (a : Int) : (hexT a).length ≤ 1 + (Nat.toDigits 16 a.natAbs).length := by
  show (((if a < 0 then [45] else []) ++ (Nat.toDigits 16 a.natAbs).map Char.toNat).toArray).size ≤ _
  rw [List.size_toArray, List.length_append, List.length_map]
  split <;> simp
theorem hex_field {f : FormatSpec} (hw : f.width = none) (hgr : f.grouping = none) (hsg : f.sign = none) (hfi : f.fill = 32) (hli : f.align = 62) (neg : Bool) (ds : List Nat) : intField' f neg [] ds [] 4 = ⟨((if neg = true then [45] else []) ++ ds).toArray⟩ := by
  have e : (if ds.isEmpty = true then ([] : List Nat) else List.replicate ((0 : Int).toNat - ds.length) 48 ++ ds) = ds := by
    cases ds with
    | nil => rfl
    | cons d ds => simp
  unfold intField'
  simp only [hw, hgr, hsg, hfi, hli]
  rw [if_neg (show ¬ ((32 : Nat) == 48 && (62 : Nat) == 61) = true by decide), e, if_neg (show ¬ ((62 : Nat) == 60) = true by decide), if_neg (show ¬ ((62 : Nat) == 94) = true by decide), if_neg (show ¬ ((62 : Nat) == 61) = true by decide)]
  have hp : ∀ k m : Nat, (-1 - ((k : Int) + (([] : List Nat).length : Int) + (([] : List Nat).length : Int)) - (m : Int)).toNat = 0 := fun k m => by
    rw [Int.toNat_eq_zero]
    simp only [List.length_nil]
    omega
  simp only [hp]
  cases neg <;> simp
theorem formatField_hex {a : Int} {t : Tok} {Q : Value → Shared → Prop} (hd : (Nat.toDigits 16 a.natAbs).length ≤ 100000) (h : Q (.str (hexT a) (s.toks + 1)) { s with toks := s.toks + 1 + 1 }) : wpAny (model prog w) A (formatField (.int a t) "x") Q E s := by
  have hlen : (hexT a).length ≤ sizeLine := by
    have := hexT_len a
    rw [sizeLine_eq]; omega
  have hne : (("x" : Str).length == 0) = false := by kernel_rfl
  have hasc : ((("x" : Str).cps.toList.drop 1).any (· ≥ 128) || (("x" : Str).cps.getD 0 0 ≥ 128 && !([60, 62, 61, 94] : List Nat).contains (("x" : Str).cps.getD 1 0))) = false := by kernel_rfl
  have hp := fX_ok
  show wpAny _ _ (holding [.int a t] (pyFormat (.int a t) ("x" : Str))) Q E s
  generalize hx : ("x" : Str) = spec at hne hasc hp ⊢
  have hsz : spec.length ≤ sizeLine := by rw [← hx]; decide
  refine wpAny_holding ?_
  unfold pyFormat
  refine wpAny_bind (wpAny_mkStr ?_ hsz)
  refine wpAny_bind (m := callSpecial? (.int a t) (Str.ofString "__format__") [.str spec s.toks]) (wpAny_callSpecial?_slot (name := Str.ofString "__format__") (typeIs_int _ a t) slot_int_format ?_)
  refine wpAny_call (codeAny_call_builtin slot_int_format.plain entry_int_format (slot_int_format.check _ _ _ _ _ _ _ _ (typeIs_int _ a t) (args_int_format _ _) ?_))
  unfold Builtin.«int.__format__»
  simp only [selfAndOne, noKeywords, Int.intOfSelf, asInt?, asStr?, List.isEmpty_nil, if_true, pure_bind, bind_pure, bind_assoc, hne, hasc, Bool.false_eq_true, if_false,
    show (Value.str spec s.toks == Value.none) = false from rfl]
  refine wpAny_bind (wpAny_typeNameOf (T := "str") (typeIs_str _ _ _) (by decide) fun _ => ?_)
  first | refine wpAny_bind (wpAny_typeNameOfCut_int ?_) | refine wpAny_bind (wpAny_typeNameOf_int ?_)
  simp only [hp]
  have hty : ∀ d, fX.type.getD d = 120 := fun _ => rfl
  have hpr : fX.precision = none := rfl
  have hz : fX.noNeg0 = false := rfl
  have hal : fX.alt = false := rfl
  have hw : fX.width = none := rfl
  have hgr : fX.grouping = none := rfl
  have hsg : fX.sign = none := rfl
  have hfi : fX.fill = 32 := rfl
  have hli : fX.align = 62 := rfl
  clear hp
  generalize fX = f at hty hpr hz hal hw hgr hsg hfi hli ⊢
  simp only [hty]
  rw [if_pos (by decide)]
  show wpAny _ _ (if _ then _ else _) _ _ _
  rw [if_neg (by simp [hpr])]
  show wpAny _ _ (if _ then _ else _) _ _ _
  rw [if_neg (by simp [hz])]
  show wpAny _ _ (if _ then _ else _) _ _ _
  rw [if_neg (by decide)]
  show wpAny _ _ (if _ then _ else _) _ _ _
  rw [if_neg (by decide)]
  show wpAny _ _ (if _ then _ else _) _ _ _
  rw [if_neg (by simp [hw])]
  show wpAny _ _ (retStr _) _ _ _
  unfold retStr
  have ez : intField' f (decide (a < 0)) [] ((Nat.toDigits 16 a.natAbs).map Char.toNat) [] 4 = hexT a := by
    rw [hex_field hw hgr hsg hfi hli]
    unfold hexT
    by_cases c : a < 0
    · rw [if_pos (decide_eq_true c), if_pos c]
    · rw [if_neg (by rw [decide_eq_false c]; exact Bool.false_ne_true), if_neg c]
  have hl2 : (intField' f (decide (a < 0)) [] ((Nat.toDigits 16 a.natAbs).map fun c => c.toNat) [] 4).length ≤ sizeLine := by
    have := hlen
    rw [← ez] at this
    exact this
  have hq2 : Q (.str (intField' f (decide (a < 0)) [] ((Nat.toDigits 16 a.natAbs).map fun c => c.toNat) [] 4) (s.toks + 1)) { s with toks := s.toks + 1 + 1 } := by
    have := h
    rw [← ez] at this
    exact this
  clear h hlen ez
  refine wpAny_bind (wpAny_mkStr (wpAny_pure ?_) ?hs2)
  case hs2 =>
    simp only [hal, Bool.false_eq_true, if_false, show ((120 : Nat) == 88) = false by decide, show ((16 : Nat) == 10) = false by decide]
    conv => lhs; arg 1; whnf
    simp only [intField', hgr, hsg] at hl2 ⊢
    exact hl2
  dsimp only
  refine wpAny_bind (wpAny_isInstance (typeIs_str _ _ _) isSubtype_str_str (wpAny_pure ?_))
  simp only [hal, Bool.false_eq_true, if_false, show ((120 : Nat) == 88) = false by decide, show ((16 : Nat) == 10) = false by decide]
  conv => arg 1; arg 1; whnf
  simp only [intField', hgr, hsg] at hq2 ⊢
  exact hq2
end
end Ssb

/-! list.index with a start; a slice assigned; a field in hex. -/
namespace PySem
namespace SeqAt
open AutoSeq1 (wpAny_loadPart')
open MeetsSeq MeetsSeq2 MeetsSeq3 SeqRoads2
theorem list_indexFrom (l : Addr) (items : Array Value) (n : Nat) (dd : Option Addr) (sl : Array (Option Value)) (x : Value) (e : Value → Bool) (a : Nat) (ta : Tok) (j : Nat) (hj : j < items.size) (haj : a ≤ j) (hsmall : (j : Int) < 2 ^ 63 - 1)
    (hit : e items[j] = true) (hno : ∀ m (hm : m < items.size), a ≤ m → m < j → e items[m] = false) :
    Meets (Builtin.«list.index» ⟨[.ref l, x, .int a ta], []⟩)
      (fun A R s => s.heap.get? l = some { cls := .type "list", dict := dd, data := .seq items n, slots := sl } ∧ (∀ y, y ∈ items → EqAt A.in1 s y x (e y)) ∧ R (.ok (.ret (.int j s.toks))) { s with toks := s.toks + 1 }) := by
  intro prog w A R s h
  obtain ⟨hp, g, d, tk, os⟩ := s; obtain ⟨hl, he, h⟩ := h
  wp_walk using wpAny_loadPart' hl
  have a1 : ((fun i : Int => if i < 0 then max 0 (i + (items.size : Int)) else i) ((some (a : Int)).getD 0)) = (a : Int) := by
    show (if (a : Int) < 0 then max 0 ((a : Int) + (items.size : Int)) else (a : Int)) = (a : Int)
    rw [if_neg (by omega)]
  have a2 : ((fun i : Int => if i < 0 then max 0 (i + (items.size : Int)) else i) ((none : Option Int).getD (2 ^ 63 - 1))) = 2 ^ 63 - 1 := by simp
  rw [a1, a2]
  exact ⟨plainId_quiet plain_index_loop _, codeAny_builtin entry_index_loop (by
    rw [Around.under_plainId plain_index_loop _]
    exact index_loopAt l items n dd sl x e (2 ^ 63 - 1) j hj hsmall hit _ a rfl haj hno prog w A R _ ⟨hl, he, h⟩)⟩
end SeqAt
end PySem
namespace Ssb
open PySem PySem.Spec PyProof.Rows L2
section
variable {X : Cx}
/-- xs.index(y, a) -/
def rIndexF (K : PySem.W.Frag) : V → List V → Hp → VK → Prop := fun x xs H Q => ∃ (l : Addr) (ys : List V) (y : V) (a j : Nat) (z : V), x = V.ref l ∧ xs = [y, .int a] ∧ SqL K H l ys ∧ flatV y = true ∧ ys.all flatV = true ∧ a ≤ j ∧ ys[j]? = some z ∧ eqV z y = true ∧
  (∀ (m : Nat) (z' : V), a ≤ m → m < j → ys[m]? = some z' → eqV z' y = false) ∧ Q (.int (j : Nat)) H
theorem mt_indexF : MtR X "list.index" (rIndexF X.K) := by
  intro pins s σ H x xs v us Q I rx rxs h
  obtain ⟨l, ys, y, a, j, z, rfl, rfl, hs, fy, fys, haj, hz, hzj, hno, q⟩ := h
  cases rx
  cases rxs with
  | cons ry rt =>
    rename_i uy ut
    cases rt with
    | cons ra rt2 =>
    rename_i ua ut2
    cases rt2
    obtain ⟨ta, rfl⟩ := ra
    obtain ⟨its, rv, ⟨⟨cls, dd, data, sl⟩, n, ho, hc, hdn, hd⟩, hlen⟩ := I.list hs
    simp only at hc hd
    subst hc hd
    obtain ⟨u, hu, ru⟩ := rv.get hz
    obtain ⟨hjl, hje⟩ := List.getElem?_eq_some_iff.mp hu
    have hvl := rv.length
    have hj : j < its.toArray.size := by simpa using hjl
    have hsl := sizeLine_eq
    refine call_meets PySem.F.slot_list_index ⟨_, ho, rfl⟩ PySem.F.entry_list_index (PySem.F.args_list_index_3 _ _ _)
      (SeqAt.list_indexFrom l its.toArray n dd sl uy (eqU y) a ta j hj haj (by omega) ?_ ?_) ⟨ho, fun u' hu' => mem_eqAt ry fy rv fys u' (by simpa using hu'), ?_⟩
    · have e1 : its.toArray[j] = u := by simpa using hje
      rw [e1, eqU_of ru (flat_at fys hz)]
      exact hzj
    · intro m hm ham hmj
      have hml : m < its.length := by simpa using hm
      have hmy : m < ys.length := by omega
      have hy' : ys[m]? = some ys[m] := List.getElem?_eq_getElem hmy
      obtain ⟨u2, hu2, ru2⟩ := rv.get hy'
      obtain ⟨_, hme⟩ := List.getElem?_eq_some_iff.mp hu2
      have e1 : its.toArray[m] = u2 := by simpa using hme
      rw [e1, eqU_of ru2 (flat_at fys hy')]
      exact hno m _ ham hmj hy'
    · exact ⟨.int (j : Nat), H, I.tok _, ⟨_, rfl⟩, q⟩
/-- {x:x} of an int -/
def tHex (te : TE) : TE := fun σ H Q => te σ H fun x H1 => ∃ i : Int, x = .int i ∧ (Nat.toDigits 16 i.natAbs).length ≤ 100000 ∧ Q (.str (hexT i)) H1
theorem pe_hex {e : Expr} {te : TE} {pos p2 : Pos} {p1 : Nat} {p3 : Pos} (he : PE X e te) : PE X (.FormattedValue e (-1) (some (.JoinedStr [.Constant (.str "x") p1 p3] p2)) pos) (tHex te) := by
  refine ⟨fun pins s σ H Q I h => ?_⟩
  refine wpAny_FormattedValue_spec (thn (he.run pins s σ H _ I h) fun v s1 ⟨x, H1, I1, r1, q1⟩ => ?_)
  obtain ⟨i, rfl, hz, q⟩ := q1
  obtain ⟨t, rfl⟩ := r1
  have p0 : PE X (.JoinedStr [.Constant (.str "x") p1 p3] p2) (tC (.str "x")) := pe_joined1 pe_str
  refine thn (p0.run pins s1 σ H1 (fun v H2 => v = .str "x" ∧ H2 = H1) I1 ⟨rfl, rfl⟩) fun v2 s2 ⟨x2, H2, I2, r2, q2⟩ => ?_
  obtain ⟨rfl, rfl⟩ := q2
  obtain ⟨t2, rfl⟩ := r2
  exact ⟨_, _, rfl, formatField_hex hz ⟨.str (hexT i), H2, I2.tok _, ⟨_, rfl⟩, q⟩⟩
theorem signs_at {z : Str} : ∀ {us : List Value} {cs : List Nat} {k : Nat}, us.length = cs.length → (∀ (j : Nat) (v : Value), us[j]? = some v → SignAt z (k + j) v) → (∀ j, cs[j]? = z.cps[k + j]?) → Vals (cs.map fun c => V.str ⟨#[c]⟩) us
  | [], [], _, _, _, _ => .nil
  | [], _ :: _, _, h, _, _ => by simp at h
  | _ :: _, [], _, h, _, _ => by simp at h
  | u :: us, c :: cs, k, hl, h, hc => by
    obtain ⟨d, t, e1, e2⟩ := h 0 u rfl
    have e3 := hc 0
    rw [e1] at e3
    have e4 : c = d := Option.some.inj e3
    subst e4
    rw [List.map_cons]
    refine .cons ⟨t, e2⟩ (signs_at (z := z) (k := k + 1) (by simpa using hl) (fun j v e => ?_) fun j => ?_)
    · have := h (j + 1) v (by simpa using e)
      rw [show k + (j + 1) = k + 1 + j by omega] at this
      exact this
    · have := hc (j + 1)
      rw [show k + (j + 1) = k + 1 + j by omega] at this
      rw [← this]; rfl
/-- list(a text) -/
def rListStr : List V → Hp → VK → Prop := fun xs H Q => ∃ z : Str, xs = [.str z] ∧ z.length ≤ sizeLine ∧ ∀ p, H p = none → Q (.ref p) (upd H p (.lst (z.cps.toList.map fun c => V.str ⟨#[c]⟩)))
theorem call_listS (hcalm : X.calm = true) : CallR X (.type "list") rListStr := by
  intro pins s σ H xs us Q I r q
  obtain ⟨z, ex, hz, q⟩ := q
  subst ex
  obtain ⟨u, eu, rx⟩ := vals1 r
  subst eu
  obtain ⟨t, rfl⟩ := rx
  refine call_list_str (I.ok.hd hcalm) z t (fun h' tk acc c' hk hD hacc => ?_) hz
  have hv : Vals (z.cps.toList.map fun c => V.str ⟨#[c]⟩) acc.toList := by
    refine signs_at (z := z) (k := 0) (by rw [Array.length_toList, Array.length_toList]; exact hacc.1) (fun j v e => ?_) fun j => by rw [Nat.zero_add, Array.getElem?_toList]
    rw [Nat.zero_add]
    exact hacc.2 j v (by rw [← Array.getElem?_toList]; exact e)
  exact ⟨.ref s.heap.objs.size, upd H s.heap.objs.size (.lst (z.cps.toList.map fun c => V.str ⟨#[c]⟩)), I.laid (t' := tk) hk (Nat.le_refl _)
    (show ObjOk X.prog X.w _ _ _ (.lst _) from ⟨by rw [List.length_map]; exact hz, acc.toList, c', hv, by rw [Array.toArray_toList]; exact hD⟩), rfl, q _ (I.hok.fresh (Nat.le_refl _))⟩
end
end Ssb

/-! xs[a:a + 1] = [..]. -/
namespace Ssb
open PySem PySem.Spec PyProof.Rows L2
open AutoSeq1 (wpAny_loadPart')
open MeetsSeq MeetsSeq2 MeetsSeq3 SeqRoads2 Builtin
/-- the ends of xs[a:a + 1] where a is the list's length or less -/
theorem ends_at {a n : Nat} (ha : a ≤ n) : sliceBounds (some (a : Int)) (some ((a : Int) + 1)) none n = ((a : Int), ((min (a + 1) n : Nat) : Int), 1) := by
  unfold sliceBounds
  have h1 : ¬ ((a : Int) < 0) := by omega
  have h2 : ¬ ((a : Int) + 1 < 0) := by omega
  simp only [Option.getD_none, h1, h2, if_false, show (1 : Int) > 0 from by decide, if_true, Prod.mk.injEq, and_true]
  omega
theorem meets_put (l b sl : Addr) (items new : Array Value) (n n2 : Nat) (a : Nat) (ta tb : Tok) (ha : a ≤ items.size) (hne : l ≠ b) (hsz : items.size + new.size ≤ sizeLine) :
    Meets (Builtin.«list.__setitem__» ⟨[.ref l, .ref sl, .ref b], []⟩)
      (fun A R s => s.heap.get? l = some { cls := .type "list", data := .seq items n } ∧ s.heap.get? b = some { cls := .type "list", data := .seq new n2 } ∧ s.heap.IsSliceOf sl (.int a ta) (.int ((a : Int) + 1) tb) .none ∧
        R (.ok (.ret .none)) { s with heap := s.heap.update l (Obj.mapSeq fun xs => xs.extract 0 a ++ new ++ xs.extract (min (a + 1) items.size) xs.size) }) := by
  intro prog w A R s h
  obtain ⟨hl, hb, hs, h⟩ := h
  obtain ⟨os, ho, hc, hd⟩ := id hs
  have ty : s.TypeIs (.ref sl) "slice" := ⟨os, ho, hc⟩
  have one : Builtin.List.listSubscript? (.ref sl) = Builtin.List.listSubscript? (.ref sl) := rfl
  wp_walk using wpAny_loadPart' hl, wpAny_loadPart' hb
  rw [slice_no_index]
  wp_walk
  rw [hd]
  wp_walk using wpAny_loadPart' hl, wpAny_loadPart' hb
  rw [hd]
  wp_walk using wpAny_loadPart' hl, wpAny_loadPart' hb
  rw [PySem.F.slot_int_index.lookup]
  wp_walk using wpAny_loadPart' hl, wpAny_loadPart' hb
  rw [hd]
  wp_walk using wpAny_loadPart' hl, wpAny_loadPart' hb
  rw [PySem.F.slot_int_index.lookup]
  wp_walk using wpAny_loadPart' hl, wpAny_loadPart' hb
  have same : ¬ Builtin.List.listSameRef (.ref l) (.ref b) = true := by simp [Builtin.List.listSameRef, hne]
  rw [if_neg same]
  wp_walk using wpAny_loadPart' hl, wpAny_loadPart' hb
  have tl : ¬ Builtin.List.listTooLong (items.size + new.size) = true := by rw [notLongL hsz]; exact Bool.false_ne_true
  rw [if_neg tl]
  have z1 : (Max.max 0 (Min.min (if (a : Int) < 0 then (a : Int) + (items.size : Int) else (a : Int)) (items.size : Int))) = (a : Int) := by
    rw [if_neg (by omega)]; omega
  have z2 : (Max.max 0 (Min.min (if (a : Int) + 1 < 0 then (a : Int) + 1 + (items.size : Int) else (a : Int) + 1) (items.size : Int))) = ((min (a + 1) items.size : Nat) : Int) := by
    rw [if_neg (by omega)]; omega
  rw [z1, z2, show (Max.max (a : Int) ((min (a + 1) items.size : Nat) : Int)).toNat = min (a + 1) items.size by omega, Int.toNat_natCast]
  wp_walk using wpAny_loadPart' hl, wpAny_loadPart' hb
  have pl : (Obj.mapSeq (fun xs => xs.extract 0 a ++ new ++ xs.extract (min (a + 1) items.size)) { cls := .type "list", data := .seq items n }).data.pastItsLine = none :=
    pastItsLine_seq (by show (items.extract 0 a ++ new ++ items.extract (min (a + 1) items.size)).size ≤ _; simp only [Array.size_append, Array.size_extract]; omega)
  rw [pl]
  wp_walk
  exact h
section
variable {X : Cx}
/-- o[a:a + 1] = [..], a the list's length or less -/
def gSlice1 (to tl th : TE) : TG := fun v σ H Q => to σ H fun o H1 => tl σ H1 fun x H2 => th σ H2 fun y H3 => ∃ (l b : Addr) (xs ys : List V) (a : Nat), o = .ref l ∧ v = .ref b ∧ x = .int (a : Int) ∧ y = .int ((a : Int) + 1) ∧ H3 l = some (.lst xs) ∧ H3 b = some (.lst ys) ∧ l ≠ b ∧ a ≤ xs.length ∧ xs.length + ys.length ≤ sizeLine ∧
  Q σ (upd H3 l (.lst (xs.take a ++ ys ++ xs.drop (a + 1))))
theorem pg_slice1 {o lo hi : Expr} {to tl th : TE} {p2 pos : Pos} (ho : PE X o to) (hl : PE X lo tl) (hh : PE X hi th) : PG X (.Subscript o (.Slice (some lo) (some hi) none p2) pos) (gSlice1 to tl th) := by
  refine ⟨fun pins s σ H v u Q I r h => ?_⟩
  rw [arm_assign_Subscript]
  refine wpAny_bind (wpAny_holding (thn (ho.run pins s σ H _ I h) fun ov s1 ⟨x, H1, I1, r1, q1⟩ => ?_))
  refine wpAny_bind (wpAny_holding (wpAny_Slice ?_))
  rw [evalPart_some, evalPart_some, evalPart_none]
  refine thn (hl.run pins s1 σ H1 _ I1 q1) fun vl s2 ⟨xl, H2, I2, pl, q2⟩ => thn (hh.run pins s2 σ H2 _ I2 q2) fun vu s3 ⟨xh, H3, I3, pu, q3⟩ => wpAny_pure ?_
  obtain ⟨l, b, xs, ys, a, rfl, rfl, rfl, rfl, hx, hb, hne, ha, hz, q⟩ := q3
  cases r1
  cases r
  obtain ⟨ta, rfl⟩ := pl
  obtain ⟨tb, rfl⟩ := pu
  have I4 : Inv X pins σ H3 { s3 with heap := s3.heap.push { cls := .type "slice", data := .fields #[.int (a : Int) ta, .int ((a : Int) + 1) tb, .none] } } := I3.kept (t' := s3.toks) fun b ob q => Heap.get?_push_of_some _ q
  obtain ⟨_, its, n, rv, hl, e⟩ := I4.lstM hx
  obtain ⟨_, its2, n2, rv2, hl2, e2⟩ := I4.lstM hb
  refine wpAny_bind (wpAny_standAt (wpAny_bind (wpAny_holding ?_)))
  have IL := PySem.IsL.isList e
  refine wpAny_holding (wpAny_bind (wpAny_sequenceKey IL.typeIs (by decide) (wpAny_bind (wpAny_callSpecial?_slot (name := "__setitem__") IL.typeIs slot_list_setitem (call_meets slot_list_setitem IL.typeIs entry_list_setitem (args_list_setitem _ _ _)
    (meets_put l b _ its.toArray its2.toArray n n2 a ta tb (by rw [List.size_toArray]; omega) hne (by rw [List.size_toArray, List.size_toArray]; omega)) ⟨e, e2, Heap.IsSliceOf.new .., ?_⟩)))))
  refine wpAny_pure (wpAny_release ⟨σ, _, I4.lset (its' := its.take a ++ its2 ++ its.drop (a + 1)) (t' := _) hx e ?_ (Vals.append (Vals.append (rv.take _) rv2) (rv.drop _)) ?_, q⟩)
  · have := splice_eq its its2 a (min (a + 1) its.length)
    have dm : its.drop (min (a + 1) its.length) = its.drop (a + 1) := by
      rcases Nat.le_total (a + 1) its.length with c | c
      · rw [Nat.min_eq_left c]
      · rw [Nat.min_eq_right c, List.drop_eq_nil_of_le (Nat.le_refl _), List.drop_eq_nil_of_le c]
    rw [dm] at this
    rw [List.size_toArray] at this ⊢
    exact this
  · rw [List.length_append, List.length_append, List.length_take, List.length_drop]
    omega
end
end Ssb

/-! name = {k: v for ..}, the name a local. -/
namespace Ssb
open PySem PySem.Spec PyProof.Rows L2
abbrev Blk (X : Cx) (scope : Scope) (F : Cx → Prop) : Prop := ∀ (s : Shared) (H : Hp) (C : Addr) (cl : List (Str × Addr)) (fp : List Addr), F (X.blk s H scope (compEnvC scope cl C X.env) fp)
section
variable {X : Cx} {i : Nat} {y : Str} {py pos spos : Pos} {kx vx tg iter : Expr} {ifs : List Expr} {scope : Scope} {own : List (Str × Nat)} {wi : TI} {g : TG} {tt : TT} {tk tv : TE}
theorem ps_setDc (hc : X.calm = true) (hN : X.N.Nodup) (hy : X.N[i]? = some y) (hyl : X.env.scope.names.lookup y = some .local) (hsw : swapsWith (.DictComp kx vx [⟨tg, iter, ifs, 0⟩] scope pos) (some (.Name y py)) spos.line X.env = pure true)
    (hi : PI X tg iter wi) (ok : BlkOk X.N X.env.scope scope own) (hg : Blk X scope fun B => PG B tg g) (ht : Blk X scope fun B => PTs B ifs tt) (hk : Blk X scope fun B => PE B kx tk) (he : Blk X scope fun B => PE B vx tv)
    (hs : ∀ x, foldedSetIterable iter X.env x = pure x := by intro _; rfl) : PS X (.Assign [.Name y py] (.DictComp kx vx [⟨tg, iter, ifs, 0⟩] scope pos) spos) (tAsg (tDc wi g tt tk tv (own.map (·.2))) (gName i)) := by
  refine ⟨fun pins s σ H D I h => ?_⟩
  rw [exec_Assign_Name_used _ _ _ _ hsw]
  have h : tDc wi g tt tk tv (own.map (·.2)) σ H (fun x H1 => gName i x σ H1 D.nx) := h
  refine wpAny_bind (wpAny_standAt (wpAny_bind ?_))
  show wpAny _ X.A (do let _ ← comprehension (.DictComp kx vx [⟨tg, iter, ifs, 0⟩] scope pos) scope X.env (firstIterPos [⟨tg, iter, ifs, 0⟩] pos) newDict false (eval iter X.env) (some (assign (.Name y py) X.env))) _ _ s
  refine wpAny_bind (thn (dc_core (Qf := fun _ s' => SP X pins D .next s') hc hN I hi ok hg ht hk he hs h fun L C s' m H' I' q hn f => ?_) fun _ s' hq => wpAny_pure (wpAny_pure hq))
  show wpAny _ _ (assign (.Name y py) X.env (.ref L)) _ _ _
  refine wpAny_assign_Name (store_ok2 (v := V.ref L) I' hN hy (.inl hyl) rfl (fun s2 I2 ⟨a, sb, ha⟩ => ?_) (.inr hyl))
  obtain ⟨z0, z1, z3, z4, z5⟩ : _ ∧ _ ∧ _ ∧ _ ∧ _ := ⟨f.1, f.2.1, f.2.2.2.1, f.2.2.2.2.1, f.2.2.2.2.2⟩
  have ne : C ≠ a := by
    rcases ha with z | z
    · rw [z]; exact z1
    · exact fun e => z4 y a z e.symm
  exact ⟨m, hn.sameBut sb ne, fun h3 sb3 => ⟨_, H', I2.turned (t' := s2.toks) (fun b o hb e => (sb3.2 b hb).trans e) z0 z1 z3 z4 z5, q⟩⟩
theorem sw_trueD {gs : List Comprehension} {l : Nat} {env : Env} (hk : env.scope.kind = .function) (hy : env.scope.names.lookup y = some .local) (hl : (py.line == pos.line) = true) (ha : (scope.names.any fun (n, k) => n == y && (k == .local || k == .cell)) = false) :
    swapsWith (.DictComp kx vx gs scope pos) (some (.Name y py)) l env = pure true := by
  have e1 : env.kindOf y = some .local := hy
  have e2 : env.blockKind = .function := by
    unfold Env.blockKind
    rw [hk]; rfl
  unfold swapsWith
  simp only [e2, e1, ha, Expr.pos, hl]
  rfl
end
end Ssb

/-! x in a tuple of any data; a sign n times. -/
namespace Ssb
open PySem PySem.Spec PyProof.Rows L2
section
variable {X : Cx}
/-- x in (..), x not in (..): deep -/
def rInU (K : PySem.W.Frag) (neg : Bool) : R2 := fun x y H Q => ∃ d ds, Dp K H x d ∧ Dp K H y (.tuple ds) ∧ SeqAt.shaped d = true ∧ SeqAt.shaped (.tuple ds) = true ∧ Q (.bl (if neg then !ds.any (fun z => PyData.eqv z d) else ds.any fun z => PyData.eqv z d)) H
theorem op_inU (hu : X.A.units + 65 < cLine) : OpR X (compareOp .In) (rInU X.K false) := by
  rintro pins s σ H x y v u Q I rx ry ⟨d, ds, hd, he, sd, se, q⟩
  obtain ⟨bs, r2⟩ := Dp.reads I (.tuple ds) y u he ry
  obtain ⟨as, r1⟩ := Dp.reads I d x v hd rx
  exact SeqAt.in_tuple_reads r2 r1 (SeqAt.canLay_of_shaped se) (SeqAt.canLay_of_shaped sd) (room_in_shaped sd hu) ⟨.bl _, H, I, rfl, q⟩
theorem op_notInU (hu : X.A.units + 65 < cLine) : OpR X (compareOp .NotIn) (rInU X.K true) := by
  rintro pins s σ H x y v u Q I rx ry ⟨d, ds, hd, he, sd, se, q⟩
  obtain ⟨bs, r2⟩ := Dp.reads I (.tuple ds) y u he ry
  obtain ⟨as, r1⟩ := Dp.reads I d x v hd rx
  exact SeqAt.notIn_tuple_reads r2 r1 (SeqAt.canLay_of_shaped se) (SeqAt.canLay_of_shaped sd) (room_in_shaped sd hu) ⟨.bl _, H, I, rfl, q⟩
/-- "c" * n -/
def rMulS : R2 := fun x y H Q => ∃ (c : Nat) (n : Int), x = .str ⟨#[c]⟩ ∧ y = .int n ∧ 1 ≤ n ∧ n ≤ 1000 ∧ Q (.str ⟨(List.replicate n.toNat c).toArray⟩) H
theorem rep_sign (c : Nat) : ∀ (n : Nat) (acc : Array Nat), (List.replicate n #[c]).foldl (· ++ ·) acc = acc ++ (List.replicate n c).toArray
  | 0, acc => by simp
  | n + 1, acc => by
    rw [List.replicate_succ, List.foldl_cons, rep_sign c n, List.replicate_succ]
    apply Array.toList_inj.mp
    simp
theorem op_mulS : OpR X (binaryOp .Mult) rMulS := by
  rintro pins s σ H x y v u Q I rx ry ⟨c, n, rfl, rfl, n1, n2, q⟩
  obtain ⟨t, rfl⟩ := rx
  obtain ⟨t2, rfl⟩ := ry
  obtain ⟨k, rfl⟩ := Int.eq_ofNat_of_zero_le (show 0 ≤ n by omega)
  rw [Int.toNat_natCast] at q
  have l1 : (⟨#[c]⟩ : Str).length = 1 := rfl
  refine P.mul_str (by simp; omega) (fun _ _ => ?_) (fun _ _ => ?_) ?_
  · rw [l1]
    have : 1 ≤ ((2 : Int) ^ 63 - 1) / (k : Int) := (Int.le_ediv_iff_mul_le (by omega)).mpr (by omega)
    omega
  · rw [l1, Nat.one_mul, Int.toNat_natCast]
    unfold Builtin.Str.tooLong
    rw [sizeLine_eq]
    exact decide_eq_false (by omega)
  · rw [if_neg (by omega)]
    by_cases h1 : k = 1
    · subst h1
      rw [if_pos (by rfl)]
      exact ⟨.str _, H, I, ⟨t, rfl⟩, q⟩
    · rw [if_neg (by rw [l1]; simp; omega), Int.toNat_natCast, rep_sign, Array.empty_append]
      exact ⟨by show (List.replicate k c).toArray.size ≤ _; rw [List.size_toArray, List.length_replicate, sizeLine_eq]; omega, .str _, H, I.tok _, ⟨_, rfl⟩, q⟩
end
end Ssb

/-! tuples of the module: a constant that is a tuple of tuples of texts and ints -/
namespace Ssb
open PySem PySem.Spec PyProof.Rows L2
def lkTup (K : PySem.W.Frag) (a : Addr) (xs : List V) : Prop := ∃ (o : Obj) (its : Array Value) (n : Nat), K.lookup a = some o ∧ o.cls = .type "tuple" ∧ o.data = .seq its n ∧ its.size ≤ sizeLine ∧ Vals xs its.toList
theorem lkTup.sq {K : PySem.W.Frag} {a : Addr} {xs : List V} (h : lkTup K a xs) (H : Hp) : SqT K H a xs := .inr h
/-- the datum of the module at v -/
def RepK (K : PySem.W.Frag) : Nat → D → V → Prop
  | _ + 1, .int i, v => v = .int i
  | _ + 1, .str s, v => v = .str s
  | n + 1, .tup l, v => ∃ a xs, v = .ref a ∧ lkTup K a xs ∧ Paired (fun d x => RepK K n d x) l xs
  | _, _, _ => False
def TupK (K : PySem.W.Frag) (a : Addr) (l : List D) : Prop := ∃ xs, lkTup K a xs ∧ Paired (fun d x => RepK K 3 d x) l xs
theorem tup_mk {K : PySem.W.Frag} {a a1 a2 a3 : Addr} {s1 s2 s3 : Str} {i1 i2 i3 : Int} {k1 k2 k3 t1 t2 t3 : Tok} {d0 d1 d2 d3 : Option Addr} {n0 n1 n2 n3 : Nat} {l0 l1 l2 l3 : Array (Option Value)}
    (h0 : K.lookup a = some ⟨.type "tuple", d0, .seq #[.ref a1, .ref a2, .ref a3] n0, l0⟩)
    (h1 : K.lookup a1 = some ⟨.type "tuple", d1, .seq #[.str s1 k1, .int i1 t1] n1, l1⟩)
    (h2 : K.lookup a2 = some ⟨.type "tuple", d2, .seq #[.str s2 k2, .int i2 t2] n2, l2⟩)
    (h3 : K.lookup a3 = some ⟨.type "tuple", d3, .seq #[.str s3 k3, .int i3 t3] n3, l3⟩) : TupK K a [.tup [.str s1, .int i1], .tup [.str s2, .int i2], .tup [.str s3, .int i3]] :=
  have two : ∀ {b : Addr} {s : Str} {i : Int} {k t : Tok} {d : Option Addr} {n : Nat} {l : Array (Option Value)}, K.lookup b = some ⟨.type "tuple", d, .seq #[.str s k, .int i t] n, l⟩ → RepK K 3 (.tup [.str s, .int i]) (.ref b) := fun h =>
    ⟨_, [.str _, .int _], rfl, ⟨_, _, _, h, rfl, rfl, by show 2 ≤ sizeLine; decide, .cons ⟨_, rfl⟩ (.cons ⟨_, rfl⟩ .nil)⟩, .cons rfl (.cons rfl .nil)⟩
  ⟨[.ref a1, .ref a2, .ref a3], ⟨_, _, _, h0, rfl, rfl, by show 3 ≤ sizeLine; decide, .cons rfl (.cons rfl (.cons rfl .nil))⟩, .cons (two h1) (.cons (two h2) (.cons (two h3) .nil))⟩
end Ssb

/-! a text against a dict; (x, n) in a tuple of (text, int)s, x of any kind -/
namespace Ssb
open PySem PySem.Spec PyProof.Rows L2 PySem.SeqAt
open AutoSeq1 (wpAny_loadPart')
open MeetsSeq
theorem str_eq_declines_dict (b : Str) (u : Tok) (l : Addr) (c : Value) (es : Array DictEntry) (ep : Nat) (dd : Option Addr) (sl : Array (Option Value)) :
    Meets (Builtin.«str.__eq__» ⟨[.str b u, .ref l], []⟩) (fun _ R s => s.heap.get? l = some { cls := c, dict := dd, data := .dict es ep, slots := sl } ∧ R (.ok (.ret .notImplemented)) s) :=
  .of_wp fun prog w A R s h => by obtain ⟨hp, g, d, tk, os⟩ := s; obtain ⟨hl, h⟩ := h; wp_walk using wpAny_loadPart' hl, wpAny_load hl; exact ⟨_, rfl, h⟩
theorem dict_eq_declines_str (l : Addr) (es : Array DictEntry) (ep : Nat) (dd : Option Addr) (sl : Array (Option Value)) (b : Str) (u : Tok) :
    Meets (Builtin.«dict.__eq__» ⟨[.ref l, .str b u], []⟩) (fun _ R s => s.heap.get? l = some { cls := .type "dict", dict := dd, data := .dict es ep, slots := sl } ∧ R (.ok (.ret .notImplemented)) s) :=
  .of_wp fun prog w A R s h => by
    obtain ⟨hl, h⟩ := h
    unfold Builtin.«dict.__eq__»
    refine wpAny_bind ?_
    unfold Builtin.Dict.dictSlotArgs
    refine wpAny_bind (wpAny_notOrdered_dict ⟨_, hl, rfl⟩ ?_)
    show wpAny _ _ (pure (Value.ref l, Value.str b u)) _ _ s
    refine wpAny_pure ?_
    obtain ⟨hp, g, d, tk, os⟩ := s
    have f1 := F.sub_str_dict
    wp_walk using wpAny_loadPart' hl, wpAny_load hl
    exact ⟨_, rfl, h⟩
section
variable {A : Around} {s : Shared}
theorem RcAt.str_dict {l : Addr} {es : Array DictEntry} {ep : Nat} {dd : Option Addr} {sl : Array (Option Value)} (b : Str) (u : Tok) (ho : s.heap.get? l = some { cls := .type "dict", dict := dd, data := .dict es ep, slots := sl }) (hu : A.units < cLine) : RcAt A s (.str b u) (.ref l) false := fun prog w E Q h =>
  rc_eq_decline_or (k := false) (typeIs_str s b u) ⟨_, ho, rfl⟩ (by decide) F.sub_dict_str F.slot_str_eq F.slot_dict_eq_refl
    (fun _ hq => call_meets F.slot_str_eq (typeIs_str s b u) F.entry_str_eq (F.args_str_eq_2 _ _) (str_eq_declines_dict b u l (.type "dict") es ep dd sl) ⟨ho, hq⟩)
    (fun _ hq => call_meets F.slot_dict_eq_refl ⟨_, ho, rfl⟩ F.entry_dict_eq (F.args_dict_eq_2 _ _) (dict_eq_declines_str l es ep dd sl b u) ⟨ho, hq⟩)
    (fun _ hq => wpAny_of_eq (rfl : isSame (.str b u) (.ref l) = pure false) hq) (.inr hu) h
theorem EqAt.str_dict {l : Addr} {es : Array DictEntry} {ep : Nat} {dd : Option Addr} {sl : Array (Option Value)} (b : Str) (u : Tok) (ho : s.heap.get? l = some { cls := .type "dict", dict := dd, data := .dict es ep, slots := sl }) (hu : A.units < cLine) : EqAt A s (.str b u) (.ref l) false := fun prog w E Q h => by
  unfold eqBool
  refine wpAny_holding ?_
  refine wpAny_ite_split (fun hab => absurd (eq_of_beq hab) nofun) (fun _ => ?_)
  exact wpAny_bind (RcAt.str_dict b u ho hu prog w E _ (wpAny_truthy_bool h))
end
/-- of any kind: flat, or a list, a tuple, a dict -/
inductive Kd (H : Hp) : V → Prop
  | flat {x : V} : flatV x = true → Kd H x
  | lst {a : Addr} {xs : List V} : H a = some (.lst xs) → Kd H (.ref a)
  | tup {a : Addr} {xs : List V} : H a = some (.tup xs) → Kd H (.ref a)
  | dic {a : Addr} {es : List (Key × V)} : H a = some (.dK es) → Kd H (.ref a)
section
variable {X : Cx} {pins : List (Addr × Obj)} {σ : L2.St} {H : Hp} {sh : Shared}
theorem eqAt_str (I : Inv X pins σ H sh) {A : Around} {x : V} {v : Value} {s0 : Str} {t : Tok} (h : Kd H x) (rx : RelV x v) (hu : A.units < cLine) : SeqAt.EqAt A sh (.str s0 t) v (decide (x = .str s0)) := by
  cases h with
  | flat f =>
    have := eqAt_V (A := A) (s := sh) (y := .str s0) (u := .str s0 t) ⟨t, rfl⟩ rx rfl f
    have e : eqV (.str s0) x = decide (x = .str s0) := by
      cases x with
      | str z => show (s0 == z) = _; rw [Bool.eq_iff_iff, beq_iff_eq, decide_eq_true_eq]; exact ⟨fun e => by rw [e], fun e => by cases e; rfl⟩
      | non => rfl
      | bl b => rfl
      | int i => rfl
      | _ => cases f
    rw [← e]; exact this
  | lst ha =>
    cases rx
    obtain ⟨its, _, ⟨o, n, e, c, _, d⟩, _⟩ := I.list (.of ha)
    exact EqAt.str_list s0 t ⟨o, e, c, n, d⟩ hu
  | tup ha =>
    cases rx
    obtain ⟨its, _, p, _⟩ := I.tuple (.of ha)
    exact EqAt.str_tuple s0 t p hu
  | dic ha =>
    cases rx
    obtain ⟨_, ya, va, ra, da⟩ := (show ObjOk X.prog X.w H sh.heap _ (.dK _) from I.hok _ _ ha)
    obtain ⟨⟨cls, dd, data, sl⟩, es, ep, ho, hc, hdat, _⟩ := id da
    have hcls : cls = .type "dict" := hc.1
    simp only at hdat
    subst hcls hdat
    exact EqAt.str_dict s0 t ho hu
end
theorem lk_inj {K : PySem.W.Frag} {a : Addr} {xs ys : List V} (h : lkTup K a xs) (h2 : lkTup K a ys) : xs = ys := by
  obtain ⟨o, its, n, e, _, d, _, r⟩ := h
  obtain ⟨o', its', n', e', _, d', _, r'⟩ := h2
  rw [e] at e'; cases e'; rw [d] at d'; cases d'
  exact r.inj r'
theorem vals_refs : ∀ {cs : List Addr} {us : List Value}, Vals (cs.map V.ref) us → us = cs.map Value.ref
  | [], us, h => by cases h; rfl
  | c :: cs, us, h => by
    cases h with
    | cons a b => cases a; rw [vals_refs b]; rfl
theorem any_refs {e : Value → Bool} {g : Str × Int → Bool} {R : Str × Int → Addr → Prop} : ∀ {fs : List (Str × Int)} {cs : List Addr}, Paired R fs cs → (∀ p c, c ∈ cs → R p c → e (.ref c) = g p) → (cs.map Value.ref).any e = fs.any g
  | _, _, .nil, _ => rfl
  | _, _, .cons h t, k => by
    rw [List.map_cons, List.any_cons, List.any_cons, k _ _ List.mem_cons_self h, any_refs t fun p c hc r => k p c (List.mem_cons_of_mem _ hc) r]
/-- (x, n) in the module's tuple of (text, int)s -/
def rInF (K : PySem.W.Frag) : R2 := fun x y H Q => ∃ (a : Addr) (v0 : V) (n : Int) (c : Addr) (cs : List Addr) (fs : List (Str × Int)), x = .ref a ∧ H a = some (.tup [v0, .int n]) ∧ Kd H v0 ∧ y = .ref c ∧ lkTup K c (cs.map V.ref) ∧
  Paired (fun p a => lkTup K a [.str p.1, .int p.2]) fs cs ∧ Q (.bl (fs.any fun p => decide (v0 = .str p.1) && decide (p.2 = n))) H
theorem op_inF {X : Cx} (hu : X.A.units + 65 < cLine) : OpR X (compareOp .In) (rInF X.K) := by
  rintro pins s σ H x y v u Q I rx ry ⟨a, v0, n, c, cs, fs, rfl, ha, kd, rfl, hc, hfs, q⟩
  cases rx; cases ry
  obtain ⟨its, r1, p1, _⟩ := I.tuple (.of ha)
  obtain ⟨us, r2, p2, _⟩ := I.tuple (hc.sq H)
  have eus := vals_refs r2
  subst eus
  have hits : ∃ w0 t, its = [w0, .int n t] ∧ RelV v0 w0 := by
    cases r1 with
    | cons r0 r =>
      cases r with
      | cons r1 r => cases r; obtain ⟨t, rfl⟩ := r1; exact ⟨_, t, rfl, r0⟩
  obtain ⟨w0, t, rfl, r0⟩ := hits
  have key : ∀ (p : Str × Int) (b : Addr), lkTup X.K b [.str p.1, .int p.2] → SeqAt.EqAt X.A.in1 s (.ref b) (.ref a) (decide (v0 = .str p.1) && decide (p.2 = n)) := fun p b hb => by
    by_cases e : b = a
    · subst e
      have := I.tuple_inj (hb.sq H) (.of ha)
      simp only [List.cons.injEq, V.int.injEq, and_true] at this
      rw [← this.1, this.2, decide_eq_true rfl, decide_eq_true rfl]
      exact SeqAt.EqAt.same _
    · obtain ⟨ws, r3, p3, _⟩ := I.tuple (hb.sq H)
      have hws : ∃ t1 t2, ws = [.str p.1 t1, .int p.2 t2] := by
        cases r3 with
        | cons r0 r =>
          cases r with
          | cons r1 r => cases r; obtain ⟨t1, rfl⟩ := r0; obtain ⟨t2, rfl⟩ := r1; exact ⟨t1, t2, rfl⟩
      obtain ⟨t1, t2, rfl⟩ := hws
      have := SeqAt.RcAt.tuples (A := X.A.in1) (e := fun j => if j = 0 then decide (v0 = .str p.1) else decide (p.2 = n)) p3 p1 (by show X.A.units + 1 < cLine; omega) fun j h1 h2 => by
        have h1 : j < 2 := h1
        match j, h1 with
        | 0, _ => exact eqAt_str I kd r0 (by show X.A.units + 1 + 1 < cLine; omega)
        | 1, _ =>
          have := SeqAt.EqAt.int_int (A := X.A.in1.in1) (s := s) p.2 t2 n t
          rw [show (p.2 == n) = decide (p.2 = n) by rw [Bool.eq_iff_iff, beq_iff_eq, decide_eq_true_eq]] at this
          exact this
      have h2 := SeqAt.EqAt.of_refs e this
      have e2 : ((List.range (min #[Value.str p.1 t1, Value.int p.2 t2].size #[w0, Value.int n t].size)).all (fun j => if j = 0 then decide (v0 = .str p.1) else decide (p.2 = n)) && #[Value.str p.1 t1, Value.int p.2 t2].size == #[w0, Value.int n t].size) = (decide (v0 = .str p.1) && decide (p.2 = n)) := by
        show ((List.range 2).all _ && true) = _
        simp [List.range_succ]
      rw [e2] at h2
      exact h2
  classical
  let e : Value → Bool := fun z => decide (∃ (p : Str × Int) (b : Addr), z = Value.ref b ∧ lkTup X.K b [.str p.1, .int p.2] ∧ (decide (v0 = .str p.1) && decide (p.2 = n)) = true)
  have he : ∀ (p : Str × Int) (b : Addr), lkTup X.K b [.str p.1, .int p.2] → e (.ref b) = (decide (v0 = .str p.1) && decide (p.2 = n)) := fun p b hb => by
    show decide _ = _
    rw [Bool.eq_iff_iff, decide_eq_true_eq]
    refine ⟨fun ⟨p2, b2, eb, h2, h3⟩ => ?_, fun h => ⟨p, b, rfl, hb, h⟩⟩
    cases eb
    have := lk_inj hb h2
    simp only [List.cons.injEq, V.str.injEq, V.int.injEq, and_true] at this
    rw [this.1, this.2]; exact h3
  refine SeqAt.in_tupleAt (e := e) p2 (fun z hz => ?_) ?_
  · have hz : z ∈ cs.map Value.ref := by simpa using hz
    obtain ⟨b, hb, rfl⟩ := List.mem_map.mp hz
    obtain ⟨i, hi⟩ := List.mem_iff_getElem?.mp hb
    obtain ⟨p, _, hp⟩ := pair_back hfs hi
    rw [he p b hp]
    exact key p b hp
  · have := any_refs (e := e) (g := fun p => decide (v0 = .str p.1) && decide (p.2 = n)) hfs fun p b _ hp => he p b hp
    rw [List.any_toArray, this]
    exact ⟨.bl _, H, I, rfl, q⟩
/-- the forms of a constant -/
theorem TupK.forms {K : PySem.W.Frag} {c : Addr} {fs : List (Str × Int)} (h : TupK K c (fs.map fun p => .tup [.str p.1, .int p.2])) : ∃ cs : List Addr, lkTup K c (cs.map V.ref) ∧ Paired (fun p a => lkTup K a [.str p.1, .int p.2]) fs cs := by
  obtain ⟨xs, hx, pr⟩ := h
  have : ∀ {fs : List (Str × Int)} {xs : List V}, Paired (fun d x => RepK K 3 d x) (fs.map fun p => D.tup [.str p.1, .int p.2]) xs → ∃ cs : List Addr, xs = cs.map V.ref ∧ Paired (fun p a => lkTup K a [.str p.1, .int p.2]) fs cs := by
    intro fs
    induction fs with
    | nil => intro xs h; cases h; exact ⟨[], rfl, .nil⟩
    | cons p fs ih =>
      intro xs h
      cases h with
      | cons h t =>
        obtain ⟨cs, rfl, pc⟩ := ih t
        obtain ⟨a, ys, rfl, ha, py⟩ := h
        refine ⟨a :: cs, rfl, .cons ?_ pc⟩
        cases py with
        | cons h1 t1 =>
          cases t1 with
          | cons h2 t2 =>
            cases t2
            have h1 : _ = V.str p.1 := h1
            have h2 : _ = V.int p.2 := h2
            subst h1 h2
            exact ha
  obtain ⟨cs, rfl, pc⟩ := this pr
  exact ⟨cs, hx, pc⟩
end Ssb

/-! try: .. except C0: .. except C as e: .. (C0 does not fit; e is not kept behind the suite). -/
namespace Ssb
open PySem PySem.Spec L2 PyProof.Rows
section
variable {X : Cx} {x0 x n : Str} {c0 c : Value} {i : Nat} {body suite suite0 : List Stmt} {b0 b₀ : Stmt} {np0 np pos pos0 pos' : Pos} {tb : WX → TS} {ts : Addr → Value → Option Addr → TS} {Wout : WX}
/-- the first clause is asked and does not fit -/
def wSkp (K : PySem.W.Frag) (c0 : Value) (W : WX) : WX := fun cls d σ H => PySem.W.exmOne K cls c0 = some false ∧ W cls d σ H
theorem ps_try_as2 (hs : X.stack = X.env :: X.outer) (hf : X.env.frame = some X.env.locals) (hN : X.N.Nodup) (hi : X.N[i]? = some n) (hln : X.env.kindOf n = some .local) (hc0 : Names X x0 c0) (hc : Names X x c) (tk : Takes X Wout)
    (hb : ∀ (W : WX) (pn : List (Addr × Obj)) (xe : Value → Shared → Prop), Takes (X.tr pn xe) W → PassesOwn (model X.prog X.w) X.A X.env xe → PSs (X.tr pn xe) body (tb W))
    (hsu : ∀ (a : Addr) (oe : Obj) (cls : Value) (d : Option Addr) (pn : List (Addr × Obj)), Zc cls d oe → (∃ vs, oe.data = .fields vs) → PSs (X.suite a ((a, oe) :: pn)) (b₀ :: suite) (ts a cls d)) :
    PS X (.Try body [.ExceptHandler (some (.Name x0 np0)) none (b0 :: suite0) pos0, .ExceptHandler (some (.Name x np)) (some n) (b₀ :: suite) pos'] [] [] pos) (fun D σ H => tb (wSkp X.K c0 (wAs X.K c i ts Wout D)) D σ H) := by
  refine ⟨fun pins s σ H D I h => ?_⟩
  have ok := I.ok
  have fr0 : X.A.frames = some (X.env :: X.outer) := by rw [ok.frames, hs]
  refine wpAny_Try_except (wpAny_mono ((hb (wSkp X.K c0 (wAs X.K c i ts Wout D)) (X.pn ++ pins) (fun e s₁ => wpAny (model X.prog X.w) X.A (noteFrame e X.env) (fun _ s₂ => wpAny (model X.prog X.w) X.A (setFlight e none) (fun _ s₃ => wpAny (model X.prog X.w) X.A (handleBy e X.env [.ExceptHandler (some (.Name x0 np0)) none (b0 :: suite0) pos0, .ExceptHandler (some (.Name x np)) (some n) (b₀ :: suite) pos']) (SP X pins D) X.xe s₃) X.xe s₂) X.xe s₁) (fun u s' xx => ?_) PassesOwn.looking).run [] s σ H D (I.toTry _) h) (fun f s1 hsp => ?_) (fun e s1 he => he))
  · obtain ⟨a, B, sI, pins', σ1, HH, cls, d, rfl, J0, nb, up, sky, na, os, ag, hb0, b, hb1, hyes, hno⟩ := xx
    have J : Inv X pins σ1 HH sI := J0.ofTry ok
    rw [show (X.tr (X.pn ++ pins) _).stack = X.env :: X.outer from hs] at sky
    refine Sky.land Zc.steady fr0 hf sky fun h3 fl3 up3 => ?_
    have J3 : Inv X pins σ1 HH { s' with heap := h3 } := J.landed nb fl3.1 (up.trans up3) os ag
    obtain ⟨oe3, vs3, he3, hz3, hd3⟩ := fl3.there
    have nfr : a ∉ frs (X.env :: X.outer) := fun hm => by
      obtain ⟨_, o', e', hnf⟩ := fl3.2.2.1.mem hm
      rw [he3] at e'; cases e'; exact hnf _ hd3
    have nL : a ≠ X.env.locals := fun z => nfr (List.mem_filterMap.mpr ⟨X.env, List.mem_cons_self, (by rw [hf, z])⟩)
    have nF : a ∉ X.fs := fun hm => (List.mem_filterMap.mp hm).elim fun e he => nfr (List.mem_filterMap.mpr ⟨e, List.mem_cons_of_mem _ he.1, he.2⟩)
    have young : sI.heap.get? a = none := by
      cases hg : sI.heap.get? a with
      | none => rfl
      | some o =>
        have := nb a o hg (by rw [show (X.tr (X.pn ++ pins) _).stack = X.env :: X.outer from hs]; exact nfr)
        rw [fl3.2.1] at this; cases this
    have n0 : ∀ b o, X.s_0.heap.get? b = some o → b ∉ X.ex → b ≠ a := fun b o q hx z => by
      obtain ⟨o', h'⟩ := J.base.there b o q hx
      rw [z, young] at h'; cases h'
    have np0 : ∀ p ∈ X.pn ++ pins, p.1 ≠ a := fun p hp z => by
      have := (J.pin p hp).1
      rw [z, young] at this; cases this
    have S3 := J3.suite he3 hd3 na nL nF
    have looks : PySem.W.Looks (model X.prog X.w) h3 (typeOf (.ref a)) cls := fun A Q E s k q => wpAny_typeOf_ref (k _ _ he3) (by rw [hz3.1]; exact q)
    have LM := PySem.W.exm_one (M := model X.prog X.w) J3.kIn looks hb1
    have LM0 := PySem.W.exm_one (M := model X.prog X.w) J3.kIn looks hb0
    have ask : ∀ {y : Str} {cy : Value} {npy : Pos}, Names X y cy → ∀ {Q : Value → Shared → Prop} {E : Value → Shared → Prop}, Q cy { s' with heap := h3 } → wpAny (model X.prog X.w) (X.A.mark (some (.ref a))) (eval (.Name y npy) X.env) Q E { s' with heap := h3 } := fun {y cy npy} hy {Q E} q => by
      obtain ⟨hg, hdb, hm | ⟨hm, hv, hnn⟩⟩ := hy
      · exact ld_glob S3 hg hm q hdb
      · exact ld_blt S3 hg hm hv q hnn hdb
    refine wpAny_handleBy_cons (codeAny_handlers_test (ask hc0 (LM0.here ?_))) (by intro q; cases q)
    show wpAny _ X.A (handleBy (.ref a) X.env [.ExceptHandler (some (.Name x np)) (some n) (b₀ :: suite) pos']) _ _ _
    refine wpAny_handleBy_cons (codeAny_handlers_test (ask hc (LM.here ?_))) (by intro q; cases q)
    cases b with
    | true =>
      refine codeAny_handlers_suite_as (HandSPX.lands_againZ fl3 fun h4 fl4 up4 => ?_)
      have J4 : Inv X pins σ1 HH { s' with heap := h4 } := J.landed nb fl4.1 ((up.trans up3).trans up4) os ag
      obtain ⟨oe4, vs4, he4, hz4, hd4⟩ := fl4.there
      refine store_ok (X := X.suite a ((a, oe4) :: (X.pn ++ pins))) (v := .ref a) (J4.suite he4 hd4 na nL nF) hN hi (.inl hln) rfl (fun s5 S5 => ?_) (.inr hln)
      refine wpAny_mono ((hsu a oe4 cls d (X.pn ++ pins) hz4 ⟨_, hd4⟩).run [] s5 _ HH _ S5 (hyes rfl a na)) (fun f s6 hsp => ?_) (fun _ _ z => False.elim z)
      have fin : ∀ {σ6 : L2.St} {H6 : Hp} {Q : Shared → Prop}, Inv (X.suite a ((a, oe4) :: (X.pn ++ pins))) [] σ6 H6 s6 → (∀ s7, Inv X pins (σ6.set i none) H6 s7 → Q s7) →
          wpAny (model X.prog X.w) X.A (do bindName X.env n .none; unbindBehindTheSuite X.env n pos') (fun _ s7 => Q s7) X.xe s6 := fun {σ6 H6 Q} S6 hq => gone_ok (S6.unsuite ok) hN hi hln hq
      cases f with
      | ret u => obtain ⟨v6, σ6, H6, S6, r6, q6⟩ := hsp; exact fin S6 fun s7 J7 => ⟨_, _, _, J7, r6, q6⟩
      | next => obtain ⟨σ6, H6, S6, q6⟩ := hsp; exact fin S6 fun s7 J7 => ⟨_, _, J7, q6⟩
      | brk => obtain ⟨σ6, H6, S6, q6⟩ := hsp; exact fin S6 fun s7 J7 => ⟨_, _, J7, q6⟩
      | cont => obtain ⟨σ6, H6, S6, q6⟩ := hsp; exact fin S6 fun s7 J7 => ⟨_, _, J7, q6⟩
    | false =>
      show wpAny _ X.A (handleBy (.ref a) X.env []) _ _ _
      obtain ⟨k1, k2, k3, oe, vs, T, oT, ts', he, hz, hd, h1, hr⟩ := id fl3
      refine wpAny_handleBy_nil ?_
      unfold PySem.passOn
      refine wpAny_bind (wpAny_field he hd h1 ?_)
      rw [if_neg (show ¬ ((Value.ref T == Value.none) = true) by simp)]
      have go : wpAny (model X.prog X.w) X.A (setFlight (.ref a) X.env.frame) (fun _ s4 => wpAny (model X.prog X.w) X.A (throw (.ref a) : Sem Flow) (SP X pins D) X.xe s4) X.xe { s' with heap := h3 } := by
        rw [hf]
        exact HandSPX.setFlight_upZ fl3 fun h4 hh4 up4 => wpAny_throw (tk _ _ ⟨a, B, sI, pins, σ1, HH, cls, d, rfl, J, nb, (up.trans up3).trans up4, .inr (.inr (by rw [hs]; exact hh4)), na, os, ag, hno rfl⟩)
      first
        | exact wpAny_bind go
        | exact wpAny_bind (wpAny_pure (wpAny_bind go))
  · cases f with
    | ret u => obtain ⟨v, σ1, HH, J, r, q⟩ := hsp; exact ⟨v, σ1, HH, J.ofTry ok, r, q⟩
    | next => obtain ⟨σ1, HH, J, q⟩ := hsp; exact wpAny_execs_nil ⟨σ1, HH, J.ofTry ok, q⟩
    | brk => obtain ⟨σ1, HH, J, q⟩ := hsp; exact ⟨σ1, HH, J.ofTry ok, q⟩
    | cont => obtain ⟨σ1, HH, J, q⟩ := hsp; exact ⟨σ1, HH, J.ofTry ok, q⟩
end
end Ssb

/-! try: .. except C1 as e: .. except C2 as e: .. except C0: .. (one of the first two fits). -/
namespace Ssb
open PySem PySem.Spec L2 PyProof.Rows
section
variable {X : Cx} {x0 x1 x n : Str} {c1 c : Value} {i : Nat} {body suite suite1 suite0 : List Stmt} {b0 b₀ b₁ : Stmt} {nq0 np1 np pos pos0 pos1 pos' : Pos} {tb : WX → TS} {ts ts1 : Addr → Value → Option Addr → TS} {Wout : WX}
/-- the first of two clauses that fits -/
def wTwo (K : PySem.W.Frag) (c1 c : Value) (i : Nat) (ts1 ts : Addr → Value → Option Addr → TS) (D : Ends) : WX := fun cls d σ H => ∃ b, PySem.W.exmOne K cls c1 = some b ∧
  (b = true → ∀ a, H a = none → ts1 a cls d { nx := fun σ' H' => D.nx (σ'.set i none) H', rt := D.rt, bk := fun σ' H' => D.bk (σ'.set i none) H', ct := fun σ' H' => D.ct (σ'.set i none) H' } (σ.set i (some (.ref a))) H) ∧
  (b = false → PySem.W.exmOne K cls c = some true ∧ ∀ a, H a = none → ts a cls d { nx := fun σ' H' => D.nx (σ'.set i none) H', rt := D.rt, bk := fun σ' H' => D.bk (σ'.set i none) H', ct := fun σ' H' => D.ct (σ'.set i none) H' } (σ.set i (some (.ref a))) H)
theorem ps_try_as3 (hs : X.stack = X.env :: X.outer) (hf : X.env.frame = some X.env.locals) (hN : X.N.Nodup) (hi : X.N[i]? = some n) (hln : X.env.kindOf n = some .local) (hc1 : Names X x1 c1) (hc : Names X x c)
    (hb : ∀ (W : WX) (pn : List (Addr × Obj)) (xe : Value → Shared → Prop), Takes (X.tr pn xe) W → PassesOwn (model X.prog X.w) X.A X.env xe → PSs (X.tr pn xe) body (tb W))
    (hsu1 : ∀ (a : Addr) (oe : Obj) (cls : Value) (d : Option Addr) (pn : List (Addr × Obj)), Zc cls d oe → (∃ vs, oe.data = .fields vs) → PSs (X.suite a ((a, oe) :: pn)) (b₁ :: suite1) (ts1 a cls d))
    (hsu : ∀ (a : Addr) (oe : Obj) (cls : Value) (d : Option Addr) (pn : List (Addr × Obj)), Zc cls d oe → (∃ vs, oe.data = .fields vs) → PSs (X.suite a ((a, oe) :: pn)) (b₀ :: suite) (ts a cls d)) :
    PS X (.Try body [.ExceptHandler (some (.Name x1 np1)) (some n) (b₁ :: suite1) pos1, .ExceptHandler (some (.Name x np)) (some n) (b₀ :: suite) pos', .ExceptHandler (some (.Name x0 nq0)) none (b0 :: suite0) pos0] [] [] pos) (fun D σ H => tb (wTwo X.K c1 c i ts1 ts D) D σ H) := by
  refine ⟨fun pins s σ H D I h => ?_⟩
  have ok := I.ok
  have fr0 : X.A.frames = some (X.env :: X.outer) := by rw [ok.frames, hs]
  refine wpAny_Try_except (wpAny_mono ((hb (wTwo X.K c1 c i ts1 ts D) (X.pn ++ pins) (fun e s₁ => wpAny (model X.prog X.w) X.A (noteFrame e X.env) (fun _ s₂ => wpAny (model X.prog X.w) X.A (setFlight e none) (fun _ s₃ => wpAny (model X.prog X.w) X.A (handleBy e X.env [.ExceptHandler (some (.Name x1 np1)) (some n) (b₁ :: suite1) pos1, .ExceptHandler (some (.Name x np)) (some n) (b₀ :: suite) pos', .ExceptHandler (some (.Name x0 nq0)) none (b0 :: suite0) pos0]) (SP X pins D) X.xe s₃) X.xe s₂) X.xe s₁) (fun u s' xx => ?_) PassesOwn.looking).run [] s σ H D (I.toTry _) h) (fun f s1 hsp => ?_) (fun e s1 he => he))
  · obtain ⟨a, B, sI, pins', σ1, HH, cls, d, rfl, J0, nb, up, sky, na, os, ag, b, hb1, hyes, hno⟩ := xx
    have J : Inv X pins σ1 HH sI := J0.ofTry ok
    rw [show (X.tr (X.pn ++ pins) _).stack = X.env :: X.outer from hs] at sky
    refine Sky.land Zc.steady fr0 hf sky fun h3 fl3 up3 => ?_
    have J3 : Inv X pins σ1 HH { s' with heap := h3 } := J.landed nb fl3.1 (up.trans up3) os ag
    obtain ⟨oe3, vs3, he3, hz3, hd3⟩ := fl3.there
    have nfr : a ∉ frs (X.env :: X.outer) := fun hm => by
      obtain ⟨_, o', e', hnf⟩ := fl3.2.2.1.mem hm
      rw [he3] at e'; cases e'; exact hnf _ hd3
    have nL : a ≠ X.env.locals := fun z => nfr (List.mem_filterMap.mpr ⟨X.env, List.mem_cons_self, (by rw [hf, z])⟩)
    have nF : a ∉ X.fs := fun hm => (List.mem_filterMap.mp hm).elim fun e he => nfr (List.mem_filterMap.mpr ⟨e, List.mem_cons_of_mem _ he.1, he.2⟩)
    have young : sI.heap.get? a = none := by
      cases hg : sI.heap.get? a with
      | none => rfl
      | some o =>
        have := nb a o hg (by rw [show (X.tr (X.pn ++ pins) _).stack = X.env :: X.outer from hs]; exact nfr)
        rw [fl3.2.1] at this; cases this
    have n0 : ∀ b o, X.s_0.heap.get? b = some o → b ∉ X.ex → b ≠ a := fun b o q hx z => by
      obtain ⟨o', h'⟩ := J.base.there b o q hx
      rw [z, young] at h'; cases h'
    have np0 : ∀ p ∈ X.pn ++ pins, p.1 ≠ a := fun p hp z => by
      have := (J.pin p hp).1
      rw [z, young] at this; cases this
    have S3 := J3.suite he3 hd3 na nL nF
    have looks : PySem.W.Looks (model X.prog X.w) h3 (typeOf (.ref a)) cls := fun A Q E s k q => wpAny_typeOf_ref (k _ _ he3) (by rw [hz3.1]; exact q)
    have LM := PySem.W.exm_one (M := model X.prog X.w) J3.kIn looks hb1
    have ask : ∀ {y : Str} {cy : Value} {npy : Pos}, Names X y cy → ∀ {Q : Value → Shared → Prop} {E : Value → Shared → Prop}, Q cy { s' with heap := h3 } → wpAny (model X.prog X.w) (X.A.mark (some (.ref a))) (eval (.Name y npy) X.env) Q E { s' with heap := h3 } := fun {y cy npy} hy {Q E} q => by
      obtain ⟨hg, hdb, hm | ⟨hm, hv, hnn⟩⟩ := hy
      · exact ld_glob S3 hg hm q hdb
      · exact ld_blt S3 hg hm hv q hnn hdb
    refine wpAny_handleBy_cons (codeAny_handlers_test (ask hc1 (LM.here ?_))) (by intro q; cases q)
    cases b with
    | true =>
      refine codeAny_handlers_suite_as (HandSPX.lands_againZ fl3 fun h4 fl4 up4 => ?_)
      have J4 : Inv X pins σ1 HH { s' with heap := h4 } := J.landed nb fl4.1 ((up.trans up3).trans up4) os ag
      obtain ⟨oe4, vs4, he4, hz4, hd4⟩ := fl4.there
      refine store_ok (X := X.suite a ((a, oe4) :: (X.pn ++ pins))) (v := .ref a) (J4.suite he4 hd4 na nL nF) hN hi (.inl hln) rfl (fun s5 S5 => ?_) (.inr hln)
      refine wpAny_mono ((hsu1 a oe4 cls d (X.pn ++ pins) hz4 ⟨_, hd4⟩).run [] s5 _ HH _ S5 (hyes rfl a na)) (fun f s6 hsp => ?_) (fun _ _ z => False.elim z)
      have fin : ∀ {σ6 : L2.St} {H6 : Hp} {Q : Shared → Prop}, Inv (X.suite a ((a, oe4) :: (X.pn ++ pins))) [] σ6 H6 s6 → (∀ s7, Inv X pins (σ6.set i none) H6 s7 → Q s7) →
          wpAny (model X.prog X.w) X.A (do bindName X.env n .none; unbindBehindTheSuite X.env n pos1) (fun _ s7 => Q s7) X.xe s6 := fun {σ6 H6 Q} S6 hq => gone_ok (S6.unsuite ok) hN hi hln hq
      cases f with
      | ret u => obtain ⟨v6, σ6, H6, S6, r6, q6⟩ := hsp; exact fin S6 fun s7 J7 => ⟨_, _, _, J7, r6, q6⟩
      | next => obtain ⟨σ6, H6, S6, q6⟩ := hsp; exact fin S6 fun s7 J7 => ⟨_, _, J7, q6⟩
      | brk => obtain ⟨σ6, H6, S6, q6⟩ := hsp; exact fin S6 fun s7 J7 => ⟨_, _, J7, q6⟩
      | cont => obtain ⟨σ6, H6, S6, q6⟩ := hsp; exact fin S6 fun s7 J7 => ⟨_, _, J7, q6⟩
    | false =>
      obtain ⟨hb2, hyes⟩ := hno rfl
      have LM2 := PySem.W.exm_one (M := model X.prog X.w) J3.kIn looks hb2
      show wpAny _ X.A (handleBy (.ref a) X.env [.ExceptHandler (some (.Name x np)) (some n) (b₀ :: suite) pos', .ExceptHandler (some (.Name x0 nq0)) none (b0 :: suite0) pos0]) _ _ _
      refine wpAny_handleBy_cons (codeAny_handlers_test (ask hc (LM2.here ?_))) (by intro q; cases q)
      refine codeAny_handlers_suite_as (HandSPX.lands_againZ fl3 fun h4 fl4 up4 => ?_)
      have J4 : Inv X pins σ1 HH { s' with heap := h4 } := J.landed nb fl4.1 ((up.trans up3).trans up4) os ag
      obtain ⟨oe4, vs4, he4, hz4, hd4⟩ := fl4.there
      refine store_ok (X := X.suite a ((a, oe4) :: (X.pn ++ pins))) (v := .ref a) (J4.suite he4 hd4 na nL nF) hN hi (.inl hln) rfl (fun s5 S5 => ?_) (.inr hln)
      refine wpAny_mono ((hsu a oe4 cls d (X.pn ++ pins) hz4 ⟨_, hd4⟩).run [] s5 _ HH _ S5 (hyes a na)) (fun f s6 hsp => ?_) (fun _ _ z => False.elim z)
      have fin : ∀ {σ6 : L2.St} {H6 : Hp} {Q : Shared → Prop}, Inv (X.suite a ((a, oe4) :: (X.pn ++ pins))) [] σ6 H6 s6 → (∀ s7, Inv X pins (σ6.set i none) H6 s7 → Q s7) →
          wpAny (model X.prog X.w) X.A (do bindName X.env n .none; unbindBehindTheSuite X.env n pos') (fun _ s7 => Q s7) X.xe s6 := fun {σ6 H6 Q} S6 hq => gone_ok (S6.unsuite ok) hN hi hln hq
      cases f with
      | ret u => obtain ⟨v6, σ6, H6, S6, r6, q6⟩ := hsp; exact fin S6 fun s7 J7 => ⟨_, _, _, J7, r6, q6⟩
      | next => obtain ⟨σ6, H6, S6, q6⟩ := hsp; exact fin S6 fun s7 J7 => ⟨_, _, J7, q6⟩
      | brk => obtain ⟨σ6, H6, S6, q6⟩ := hsp; exact fin S6 fun s7 J7 => ⟨_, _, J7, q6⟩
      | cont => obtain ⟨σ6, H6, S6, q6⟩ := hsp; exact fin S6 fun s7 J7 => ⟨_, _, J7, q6⟩
  · cases f with
    | ret u => obtain ⟨v, σ1, HH, J, r, q⟩ := hsp; exact ⟨v, σ1, HH, J.ofTry ok, r, q⟩
    | next => obtain ⟨σ1, HH, J, q⟩ := hsp; exact wpAny_execs_nil ⟨σ1, HH, J.ofTry ok, q⟩
    | brk => obtain ⟨σ1, HH, J, q⟩ := hsp; exact ⟨σ1, HH, J.ofTry ok, q⟩
    | cont => obtain ⟨σ1, HH, J, q⟩ := hsp; exact ⟨σ1, HH, J.ofTry ok, q⟩
end
end Ssb

/-! == and != of deep data that are alike: lists, tuples and dicts in one another. -/
namespace Ssb
open PySem PySem.Spec PyProof.Rows L2 PySem.SeqAt PySem.AutoSeq1
/-- names of a dict are different, all the way down -/
def kN : Nat → D → Prop
  | n + 1, .lst l => ∀ x ∈ l, kN n x
  | n + 1, .tup l => ∀ x ∈ l, kN n x
  | n + 1, .dic l => (l.map (·.1)).Nodup ∧ ∀ p ∈ l, kN n p.2
  | _, _ => True
theorem keys_pr {F : D → V → Prop} : ∀ {l : List (Str × D)} {es : List (Key × V)}, Paired (fun (q : Str × D) (e : Key × V) => e.1 = Sum.inr q.1 ∧ F q.2 e.2) l es → es.map (·.1) = (l.map (·.1)).map Sum.inr
  | _, _, .nil => rfl
  | _, _, .cons h t => by rw [List.map_cons, List.map_cons, List.map_cons, keys_pr t, h.1]
theorem val_mem {es : List (Key × V)} {k : Key} {v : V} (nd : (es.map (·.1)).Nodup) (h : (k, v) ∈ es) : valV es k = some v := by
  induction es with
  | nil => cases h
  | cons e es ih =>
    rw [List.map_cons, List.nodup_cons] at nd
    rw [vV_cons]
    rcases List.mem_cons.mp h with h | h
    · rw [← h, if_pos rfl]
    · rw [if_neg fun z => nd.1 (List.mem_map.mpr ⟨_, h, z.symm⟩)]
      exact ih nd.2 h
theorem all_tt {n : Nat} : ((List.range n).all fun _ => true) = true := List.all_eq_true.mpr fun _ _ => rfl
theorem vals_i {xs : List V} {us : List Value} (r : Vals xs us) {j : Nat} (h : j < us.length) : ∃ x, xs[j]? = some x ∧ RelV x us[j] := by
  induction r generalizing j with
  | nil => exact absurd h (Nat.not_lt_zero j)
  | cons a b ih =>
    cases j with
    | zero => exact ⟨_, rfl, a⟩
    | succ j => exact ih (Nat.lt_of_succ_lt_succ h)
section
variable {X : Cx} {pins : List (Addr × Obj)} {σ : L2.St} {H : Hp} {s : Shared}
theorem eqT_leaf {n : Nat} {x : V} {v u : Value} (f : flatV x = true) (e : eqV x x = true) (rx : RelV x v) (ry : RelV x u) : PySem.W.EqTree X.prog X.w s n v u true := by
  rw [← e]; exact .leaf fun A hu => eqAt_V rx ry f f
theorem kv_in {κ : Type} {ks : List (κ × V)} {va : List (κ × Value)} (ra : KV ks va) : ∀ {k : κ} {v : Value}, (k, v) ∈ va → ∃ x, (k, x) ∈ ks ∧ RelV x v := by
  unfold KV at ra
  induction ra with
  | nil => intro k v h; exact nomatch h
  | @cons p q ps qs h t ih =>
    intro k v hm
    rcases List.mem_cons.mp hm with hm | hm
    · refine ⟨p.2, ?_, ?_⟩
      · have : p.1 = k := by rw [h.1, ← hm]
        rw [← this]; exact List.mem_cons_self
      · rw [← hm] at h; exact h.2
    · obtain ⟨x, h1, h2⟩ := ih hm
      exact ⟨x, List.mem_cons_of_mem _ h1, h2⟩
theorem items_T {F : D → V → V → Prop} {n : Nat} {l : List D} {xs ys : List V} {us ws : List Value} {F1 F2 : D → V → Prop} (p1 : Paired F1 l xs) (p2 : Paired F2 l ys) (r1 : Vals xs us) (r2 : Vals ys ws)
    (ih : ∀ d ∈ l, ∀ x y v u, F1 d x → F2 d y → RelV x v → RelV y u → PySem.W.EqTree X.prog X.w s n v u true) : us.toArray.size = ws.toArray.size ∧ ∀ j (h1 : j < us.toArray.size) (h2 : j < ws.toArray.size), PySem.W.EqTree X.prog X.w s n us.toArray[j] ws.toArray[j] true := by
  refine ⟨by rw [List.size_toArray, List.size_toArray, ← r1.length, ← r2.length, ← pair_len p1, ← pair_len p2], fun j h1 h2 => ?_⟩
  obtain ⟨x, hx, rx⟩ := vals_i r1 (j := j) (by simpa using h1)
  obtain ⟨y, hy, ry⟩ := vals_i r2 (j := j) (by simpa using h2)
  obtain ⟨d1, hd1, q1⟩ := pair_back p1 hx
  obtain ⟨d2, hd2, q2⟩ := pair_back p2 hy
  rw [hd1] at hd2; cases hd2
  have := ih _ (List.mem_of_getElem? hd1) _ _ _ _ q1 q2 rx ry
  simpa using this
theorem dic_T {n : Nat} {l : List (Str × D)} {ks ls : List (Key × V)} {va vb : List (Key × Value)} {F1 F2 : D → V → Prop} (pr : Paired (fun (q : Str × D) (e : Key × V) => e.1 = Sum.inr q.1 ∧ F1 q.2 e.2) l ks) (pr' : Paired (fun (q : Str × D) (e : Key × V) => e.1 = Sum.inr q.1 ∧ F2 q.2 e.2) l ls)
    (ra : KV ks va) (rb : KV ls vb) (nd : (l.map (·.1)).Nodup) (ih : ∀ p ∈ l, ∀ x y v u, F1 p.2 x → F2 p.2 y → RelV x v → RelV y u → PySem.W.EqTree X.prog X.w s n v u true) :
    (va.length == vb.length && va.all fun p => (valueAt vb p.1).isSome && (fun _ => true) p.1) = true ∧ ∀ k v y, (k, v) ∈ va → valueAt vb k = some y → PySem.W.EqTree X.prog X.w s n v y true := by
  have k2 := keys_pr pr'
  have nd : ((l.map (·.1)).map (Sum.inr : Str → Key)).Nodup := List.Pairwise.map _ (fun a b h z => h (Sum.inr.inj z)) nd
  have there : ∀ {k : Key} {v : Value}, (k, v) ∈ va → ∃ (i : Nat) (q : Str × D) (x y : V), l[i]? = some q ∧ k = Sum.inr q.1 ∧ RelV x v ∧ F1 q.2 x ∧ valV ls k = some y ∧ F2 q.2 y := by
    intro k v hm
    obtain ⟨x, hx, rx⟩ := kv_in ra hm
    obtain ⟨i, hi⟩ := List.getElem?_of_mem hx
    obtain ⟨q, hq, e1, q1⟩ := pair_back pr hi
    obtain ⟨⟨k', y⟩, hy, e2, q2⟩ := pair_at pr' hq
    have e1 : k = Sum.inr q.1 := e1
    have e2 : k' = Sum.inr q.1 := e2
    refine ⟨i, q, x, y, hq, e1, rx, q1, ?_, q2⟩
    rw [e1, ← e2]
    exact val_mem (by rw [k2]; exact nd) (List.mem_of_getElem? hy)
  refine ⟨?_, fun k v y hm hv => ?_⟩
  · have : va.length = vb.length := by rw [← ra.length, ← rb.length, ← pair_len pr, ← pair_len pr']
    rw [this, beq_self_eq_true, Bool.true_and]
    refine List.all_eq_true.mpr fun p hp => ?_
    obtain ⟨i, q, x, y, _, _, _, _, hy, _⟩ := there (k := p.1) (v := p.2) hp
    have := rb.val p.1
    rw [hy] at this
    cases hv : valueAt vb p.1 with
    | none => rw [hv] at this; exact this.elim
    | some u => rfl
  · obtain ⟨i, q, x, y', hq, _, rx, q1, hy, q2⟩ := there hm
    have := rb.val k
    rw [hv, hy] at this
    exact ih _ (List.mem_of_getElem? hq) _ _ _ _ q1 q2 rx this
theorem eqT_rep (I : Inv X pins σ H s) : ∀ {n m1 m2 : Nat} {S1 S2 : Addr → Prop} {d : D} {x y : V} {v u : Value}, Rep H m1 S1 d x → Rep H m2 S2 d y → m1 ≤ n → kN n d → RelV x v → RelV y u → PySem.W.EqTree X.prog X.w s n v u true := by
  intro n
  induction n with
  | zero =>
    intro m1 m2 S1 S2 d x y v u h1 h2 hn
    have : m1 = 0 := by omega
    subst this; exact h1.elim
  | succ n ih =>
    intro m1 m2 S1 S2 d x y v u h1 h2 hn hk rx ry
    cases m1 with
    | zero => exact h1.elim
    | succ m1 =>
    cases m2 with
    | zero => exact h2.elim
    | succ m2 =>
    cases d with
    | non => rw [show x = .non from h1] at rx; rw [show y = .non from h2] at ry; exact eqT_leaf (X := X) (x := .non) rfl rfl rx ry
    | bl b => rw [show x = .bl b from h1] at rx; rw [show y = .bl b from h2] at ry; exact eqT_leaf (X := X) (x := .bl b) rfl (by simp [eqV]) rx ry
    | int i => rw [show x = .int i from h1] at rx; rw [show y = .int i from h2] at ry; exact eqT_leaf (X := X) (x := .int i) rfl (by simp [eqV]) rx ry
    | str t => rw [show x = .str t from h1] at rx; rw [show y = .str t from h2] at ry; exact eqT_leaf (X := X) (x := .str t) rfl (by simp [eqV]) rx ry
    | lst l =>
      obtain ⟨a, xs, rfl, _, ha, _, pr⟩ := h1
      obtain ⟨c, ys, rfl, _, hc, _, pr'⟩ := h2
      cases rx; cases ry
      by_cases e : a = c
      · subst e; exact .same
      obtain ⟨us, r1, p1, _⟩ := I.list (Evl.sq_of ha)
      obtain ⟨ws, r2, p2, _⟩ := I.list (Evl.sq_of hc)
      obtain ⟨sz, it⟩ := items_T (F := fun _ _ _ => True) pr pr' r1 r2 fun d hd x y v u q1 q2 rx ry => ih q1 q2 (by omega) (hk d hd) rx ry
      rw [← all_tt (n := us.toArray.size)]
      exact .lists e p1.isList p2.isList sz it
    | tup l =>
      obtain ⟨a, xs, rfl, ha, _, pr⟩ := h1
      obtain ⟨c, ys, rfl, hc, _, pr'⟩ := h2
      cases rx; cases ry
      by_cases e : a = c
      · subst e; exact .same
      obtain ⟨us, r1, p1, _⟩ := I.tuple (Evl.st_of ha)
      obtain ⟨ws, r2, p2, _⟩ := I.tuple (Evl.st_of hc)
      obtain ⟨sz, it⟩ := items_T (F := fun _ _ _ => True) pr pr' r1 r2 fun d hd x y v u q1 q2 rx ry => ih q1 q2 (by omega) (hk d hd) rx ry
      have et : ((List.range (min us.toArray.size ws.toArray.size)).all (fun _ => true) && us.toArray.size == ws.toArray.size) = true := by rw [all_tt, sz]; simp
      rw [← et]
      exact .tuples e p1 p2 it
    | dic l =>
      obtain ⟨a, ks, rfl, _, ha, _, pr⟩ := h1
      obtain ⟨c, ls, rfl, _, hc, _, pr'⟩ := h2
      cases rx; cases ry
      by_cases e : a = c
      · subst e; exact .same
      obtain ⟨_, ya, va, ra, da⟩ := (show ObjOk X.prog X.w H s.heap a (.dK ks) from I.hok a _ ha)
      obtain ⟨_, yb, vb, rb, db⟩ := (show ObjOk X.prog X.w H s.heap c (.dK ls) from I.hok c _ hc)
      obtain ⟨et, it⟩ := dic_T pr pr' ra rb hk.1 fun p hp x y v u q1 q2 rx ry => ih q1 q2 (by omega) (hk.2 p hp) rx ry
      rw [← et]
      exact .dicts (knd := mixKind X.prog X.w) (e := fun _ => true) e ya yb da db it
end
/-- two tuples that are alike, by != -/
theorem ne_like {prog : Program} {w : World} (l b : Addr) (us ws : Array Value) (n m : Nat) (d d2 : Option Addr) (t t2 : Array (Option Value)) (sz : us.size = ws.size) :
    MeetsIn prog w (Builtin.«tuple.__ne__» ⟨[.ref l, .ref b], []⟩) (fun A R s => s.heap.get? l = some ⟨.type "tuple", d, .seq us n, t⟩ ∧ s.heap.get? b = some ⟨.type "tuple", d2, .seq ws m, t2⟩ ∧ (∀ p ∈ us.toList.zip ws.toList, EqIn prog w A.in1 s p.1 p.2 true) ∧ R (.ok (.ret (.bool false))) s) :=
  .of_wp fun A R s h => by
    obtain ⟨H, c1, c2, c3, c4⟩ := s
    obtain ⟨hl, hb, hq, hr⟩ := h
    have f2 := AutoSeq1.sub_tuple_tuple
    wp_walk using wpAny_loadPart' hl, wpAny_loadPart' hb, wpAny_forIn_list _ (fun rest b s' => b.1 = none ∧ s' = ⟨H, c1, c2, c3, c4⟩ ∧ ∀ p ∈ rest, EqIn prog w A.in1 ⟨H, c1, c2, c3, c4⟩ p.1 p.2 true) _
    case turn =>
      rintro ⟨y, x⟩ rest b s' ⟨_, rfl, hp⟩
      refine wpAny_bind (hp _ List.mem_cons_self _ _ ?_)
      wp_walk
      exact ⟨rfl, rfl, fun p h => hp p (List.mem_cons_of_mem _ h)⟩
    case fin =>
      rintro ⟨b1, b2⟩ s' ⟨hb', rfl, _⟩
      cases (show b1 = none from hb')
      wp_walk
      exact ⟨_, rfl, by simpa [Builtin.Tuple.tupleCompareSizes, bne, sz] using hr⟩
    case h => exact ⟨rfl, rfl, hq⟩
section
variable {X : Cx}
/-- a != b, two tuples of the same data -/
def rNeT : R2 := fun x y H Q => ∃ (m1 m2 : Nat) (S1 S2 : Addr → Prop) (l : List D), m1 ≤ 50 ∧ Rep H m1 S1 (.tup l) x ∧ Rep H m2 S2 (.tup l) y ∧ kN m1 (.tup l) ∧ Q (.bl false) H
theorem op_neT (hu : X.A.units + 64 < cLine) : OpR X (compareOp .NotEq) rNeT := by
  intro pins s σ H x y v u Q I rx ry h
  obtain ⟨m1, m2, S1, S2, l, hm, h1, h2, hk, q⟩ := h
  cases m1 with
  | zero => exact h1.elim
  | succ m1 =>
  cases m2 with
  | zero => exact h2.elim
  | succ m2 =>
  obtain ⟨a, xs, rfl, ha, _, pr⟩ := h1
  obtain ⟨c, ys, rfl, hc, _, pr'⟩ := h2
  cases rx; cases ry
  obtain ⟨us, r1, p1, _⟩ := I.tuple (Evl.st_of ha)
  obtain ⟨ws, r2, p2, _⟩ := I.tuple (Evl.st_of hc)
  obtain ⟨sz, it⟩ := items_T (F := fun _ _ _ => True) pr pr' r1 r2 fun d hd x y v u q1 q2 rx ry => eqT_rep I q1 q2 (Nat.le_refl _) (hk d hd) rx ry
  obtain ⟨⟨cls, dd, data, sl⟩, ho, hcl, n, hd⟩ := id p1
  obtain ⟨⟨cls2, dd2, data2, sl2⟩, ho2, hcl2, n2, hd2⟩ := id p2
  simp only at hcl hd hcl2 hd2
  subst hcl hd hcl2 hd2
  refine wpAny_richCompare_same_room (T := "tuple") (op := .NotEq) ⟨_, ho, rfl⟩ ⟨_, ho2, rfl⟩ PySem.F.slot_tuple_ne (call_meetsIn PySem.F.slot_tuple_ne ⟨_, ho, rfl⟩ PySem.F.entry_tuple_ne (PySem.F.args_tuple_ne_2 _ _) (ne_like a c us.toArray ws.toArray n n2 dd dd2 sl sl2 sz) ⟨ho, ho2, fun p hp => ?_, (fun z => nomatch z), ?_⟩) (by omega)
  · obtain ⟨j, hj⟩ := List.getElem?_of_mem hp
    rw [List.getElem?_zip_eq_some] at hj
    obtain ⟨h1, h2⟩ := hj
    obtain ⟨l1, e1⟩ := List.getElem?_eq_some_iff.mp h1
    obtain ⟨l2, e2⟩ := List.getElem?_eq_some_iff.mp h2
    have := (it j (by simpa using l1) (by simpa using l2)).at X.A.in1 (by show X.A.units + 1 + _ < cLine; omega)
    rw [← e1, ← e2]
    simpa using this
  · exact ⟨.bl false, H, I, rfl, q⟩
end
section
variable {X : Cx}
/-- a == b, the same data twice: two dicts or two tuples -/
def rEqT : R2 := fun x y H Q => ∃ (m1 m2 : Nat) (S1 S2 : Addr → Prop) (d : D), m1 ≤ 50 ∧ ((∃ l, d = .tup l) ∨ ∃ l, d = .dic l) ∧ Rep H m1 S1 d x ∧ Rep H m2 S2 d y ∧ kN m1 d ∧ Q (.bl true) H
theorem op_eqT (hu : X.A.units + 64 < cLine) : OpR X (compareOp .Eq) rEqT := by
  intro pins s σ H x y v u Q I rx ry h
  obtain ⟨m1, m2, S1, S2, d, hm, hd, h1, h2, hk, q⟩ := h
  cases m1 with
  | zero => exact h1.elim
  | succ m1 =>
  cases m2 with
  | zero => exact h2.elim
  | succ m2 =>
  rcases hd with ⟨l, rfl⟩ | ⟨l, rfl⟩
  · obtain ⟨a, xs, rfl, ha, _, pr⟩ := h1
    obtain ⟨c, ys, rfl, hc, _, pr'⟩ := h2
    cases rx; cases ry
    obtain ⟨us, r1, p1, _⟩ := I.tuple (Evl.st_of ha)
    obtain ⟨ws, r2, p2, _⟩ := I.tuple (Evl.st_of hc)
    obtain ⟨sz, it⟩ := items_T (F := fun _ _ _ => True) pr pr' r1 r2 fun d hd x y v u q1 q2 rx ry => eqT_rep I q1 q2 (Nat.le_refl _) (hk d hd) rx ry
    have et : ((List.range (min us.toArray.size ws.toArray.size)).all (fun _ => true) && us.toArray.size == ws.toArray.size) = true := by rw [all_tt, sz]; simp
    refine PySem.W.eq_tuplesT (n := m1) p1 p2 it (by omega) ?_
    rw [et]
    exact ⟨.bl true, H, I, rfl, q⟩
  · obtain ⟨a, ks, rfl, _, ha, _, pr⟩ := h1
    obtain ⟨c, ls, rfl, _, hc, _, pr'⟩ := h2
    cases rx; cases ry
    obtain ⟨_, ya, va, ra, da⟩ := (show ObjOk X.prog X.w H s.heap a (.dK ks) from I.hok a _ ha)
    obtain ⟨_, yb, vb, rb, db⟩ := (show ObjOk X.prog X.w H s.heap c (.dK ls) from I.hok c _ hc)
    obtain ⟨et, it⟩ := dic_T pr pr' ra rb hk.1 fun p hp x y v u q1 q2 rx ry => eqT_rep I q1 q2 (Nat.le_refl _) (hk.2 p hp) rx ry
    refine PySem.W.eq_dictsT (knd := mixKind X.prog X.w) (n := m1) (e := fun _ => true) ya yb da db it (by omega) ?_
    rw [et]
    exact ⟨.bl true, H, I, rfl, q⟩
end
end Ssb

namespace Ssb
open PySem PySem.Spec PyProof.Rows L2 PySem.SeqAt
section
variable {X : Cx}
/-- a tuple of data == (a text, a text): either answer -/
def rEqHd : R2 := fun x y H Q => ∃ (a b : Addr) (s0 t0 t1 : Str) (x1 : V) (xs : List V), x = .ref a ∧ y = .ref b ∧ H a = some (.tup (.str s0 :: x1 :: xs)) ∧ H b = some (.tup [.str t0, .str t1]) ∧ ((∃ s1, x1 = .str s1) ∨ ∃ c ws, x1 = .ref c ∧ H c = some (.tup ws)) ∧ Q (.bl (decide (s0 = t0) && decide (x1 = .str t1) && xs.isEmpty)) H
theorem op_eqHd (hu : X.A.units + 64 < cLine) : OpR X (compareOp .Eq) rEqHd := by
  intro pins s σ H x y v u Q I rx ry h
  obtain ⟨a, b, s0, t0, t1, x1, xs, rfl, rfl, ha, hb, h1, q⟩ := h
  cases rx; cases ry
  obtain ⟨us, r1, p1, _⟩ := I.tuple (Evl.st_of ha)
  obtain ⟨ws, r2, p2, _⟩ := I.tuple (Evl.st_of hb)
  obtain _ | ⟨ra, _ | ⟨rb, rc⟩⟩ := r1
  obtain _ | ⟨rd, _ | ⟨re, _ | _⟩⟩ := r2
  rename_i u0 u1 us w0 w1
  obtain ⟨k0, rfl⟩ := ra
  obtain ⟨k1, rfl⟩ := rd
  obtain ⟨k2, rfl⟩ := re
  have e1 : ∀ A : Around, A.units + 1 < cLine → SeqAt.EqAt A s u1 (.str t1 k2) (decide (x1 = .str t1)) := fun A hA => by
    rcases h1 with ⟨s1, rfl⟩ | ⟨c, zs, rfl, hc⟩
    · obtain ⟨k3, rfl⟩ := rb
      have := SeqAt.EqAt.str_str (A := A) (s := s) s1 k3 t1 k2
      have e : (s1 == t1) = decide (V.str s1 = V.str t1) := by
        by_cases c : s1 = t1
        · subst c; simp
        · rw [decide_eq_false (fun z => c (V.str.inj z))]; simpa using c
      rw [e] at this
      exact this
    · cases rb
      obtain ⟨us2, _, p3, _⟩ := I.tuple (Evl.st_of hc)
      have := SeqAt.EqAt.tuple_str (A := A) t1 k2 p3 (by omega)
      rw [decide_eq_false (fun z => nomatch z)]
      exact this
  refine PySem.W.eq_tuplesT (n := 1) (e := fun j => if j = 0 then decide (s0 = t0) else decide (x1 = .str t1)) p1 p2 (fun j h1 h2 => ?_) (by omega) ?_
  · have h2 : j < 2 := h2
    rcases j with _ | _ | j
    · refine .leaf fun A _ => ?_
      have := SeqAt.EqAt.str_str (A := A) (s := s) s0 k0 t0 k1
      have e : (s0 == t0) = decide (s0 = t0) := by
        by_cases c : s0 = t0
        · subst c; simp
        · rw [decide_eq_false c]; simpa using c
      rw [e] at this
      exact this
    · exact .leaf fun A hA => e1 A hA
    · omega
  · refine ⟨_, H, I, ?_, q⟩
    have lr : us.length = xs.length := rc.length.symm
    have : ((List.range (min (Value.str s0 k0 :: u1 :: us).toArray.size [Value.str t0 k1, Value.str t1 k2].toArray.size)).all (fun j => if j = 0 then decide (s0 = t0) else decide (x1 = .str t1)) && (Value.str s0 k0 :: u1 :: us).toArray.size == [Value.str t0 k1, Value.str t1 k2].toArray.size) = (decide (s0 = t0) && decide (x1 = .str t1) && xs.isEmpty) := by
      have m : min (Value.str s0 k0 :: u1 :: us).toArray.size [Value.str t0 k1, Value.str t1 k2].toArray.size = 2 := by
        show min (us.length + 1 + 1) 2 = 2
        omega
      rw [m]
      have e : ((Value.str s0 k0 :: u1 :: us).toArray.size == [Value.str t0 k1, Value.str t1 k2].toArray.size) = xs.isEmpty := by
        show (us.length + 1 + 1 == 2) = _
        rw [lr]
        cases xs with
        | nil => rfl
        | cons x xs => show (xs.length + 1 + 1 + 1 == 2) = false; simp
      rw [e]
      show ((if (0 : Nat) = 0 then _ else _) && ((if (1 : Nat) = 0 then _ else _) && true) && _) = _
      simp
    rw [this]
    rfl
/-- d != e, the same data twice: two dicts -/
def rNeDT : R2 := fun x y H Q => ∃ (m1 m2 : Nat) (S1 S2 : Addr → Prop) (l : List (Str × D)), m1 ≤ 50 ∧ Rep H m1 S1 (.dic l) x ∧ Rep H m2 S2 (.dic l) y ∧ kN m1 (.dic l) ∧ Q (.bl false) H
theorem hits_T {prog : Program} {w : World} {A : Around} {s : Shared} {n : Nat} {vb : List (Key × Value)} (hu : A.units + n < cLine) : ∀ {va : List (Key × Value)}, (∀ p ∈ va, (valueAt vb p.1).isSome = true) → (∀ k v y, (k, v) ∈ va → valueAt vb k = some y → PySem.W.EqTree prog w s n v y true) → PySem.W.KeqHitsP prog w A s vb va true
  | [], _, _ => .nil
  | (k, v) :: va, h1, h2 => by
    obtain ⟨y, hy⟩ := Option.isSome_iff_exists.mp (h1 (k, v) List.mem_cons_self)
    show PySem.W.KeqHitsP prog w A s vb ((k, v) :: va) (true && true)
    exact .hit hy ((h2 k v y List.mem_cons_self hy).at A hu) (hits_T hu (fun p hp => h1 p (List.mem_cons_of_mem _ hp)) fun k v y hm => h2 k v y (List.mem_cons_of_mem _ hm))
theorem op_neDT (hu : X.A.units + 64 < cLine) : OpR X (compareOp .NotEq) rNeDT := by
  intro pins s σ H x y v u Q I rx ry h
  obtain ⟨m1, m2, S1, S2, l, hm, h1, h2, hk, q⟩ := h
  cases m1 with
  | zero => exact h1.elim
  | succ m1 =>
  cases m2 with
  | zero => exact h2.elim
  | succ m2 =>
  obtain ⟨a, ks, rfl, _, ha, _, pr⟩ := h1
  obtain ⟨c, ls, rfl, _, hc, _, pr'⟩ := h2
  cases rx; cases ry
  obtain ⟨_, ya, va, ra, da⟩ := (show ObjOk X.prog X.w H s.heap a (.dK ks) from I.hok a _ ha)
  obtain ⟨_, yb, vb, rb, db⟩ := (show ObjOk X.prog X.w H s.heap c (.dK ls) from I.hok c _ hc)
  obtain ⟨et, it⟩ := dic_T pr pr' ra rb hk.1 fun p hp x y v u q1 q2 rx ry => eqT_rep I q1 q2 (Nat.le_refl _) (hk.2 p hp) rx ry
  rw [Bool.and_eq_true] at et
  have hall : ∀ p ∈ va, (valueAt vb p.1).isSome = true := fun p hp => by
    have := List.all_eq_true.mp et.2 p hp
    rw [Bool.and_true] at this
    exact this
  have hits : va.length = vb.length → PySem.W.KeqHitsP X.prog X.w X.A.in1 s vb va true := fun _ => hits_T (n := m1) (by show X.A.units + 1 + m1 < cLine; omega) hall it
  refine wpAny_richCompare_same_room (op := .NotEq) da.typeIs db.typeIs PySem.F.slot_dict_ne (wpAny_call_entry PySem.F.slot_dict_ne da.typeIs PySem.F.entry_dict_ne ?_ (PySem.F.args_dict_ne_2 _ _)) (by omega)
  show wpAny _ _ (Builtin.Dict.dictSlotArgs "__ne__" ⟨[.ref a, .ref c], []⟩ >>= _) _ _ s
  refine wpAny_bind ?_
  unfold Builtin.Dict.dictSlotArgs
  refine wpAny_bind (wpAny_notOrdered_dict da.typeIs ?_)
  show wpAny _ _ (pure (Value.ref a, Value.ref c)) _ _ s
  refine wpAny_pure ?_
  refine wpAny_bind (wpAny_isInstance (T := "dict") db.typeIs PySem.F.sub_dict_dict ?_)
  simp only [Bool.not_true, Bool.false_eq_true, if_false]
  refine wpAny_bind (wpAny_pure (wpAny_bind (wpAny_pure ?_)))
  refine wpAny_bind (PySem.W.samePairsP ya yb da db hits ?_)
  refine wpAny_pure ⟨_, rfl, ?_, ?_⟩
  · exact fun x => nomatch x
  · rw [et.1]
    exact ⟨.bl false, H, I, rfl, q⟩
end
end Ssb

/-! == of nested tuples and dicts, either answer; == and != of instances by an own __eq__, either answer. -/
namespace Ssb
open PySem PySem.Spec PyProof.Rows L2
open Evl (Ex Ev EvT EvL EvA EvU)
/-- x == y answers b -/
inductive EqB (K : PySem.W.Frag) (H : Hp) : Nat → V → V → Bool → Prop
  | leaf {n : Nat} {x y : V} : flatV x = true → flatV y = true → EqB K H n x y (eqV x y)
  | same {n : Nat} {a : Addr} : EqB K H n (.ref a) (.ref a) true
  | tups {n : Nat} {a c : Addr} {xs ys : List V} {e : Nat → Bool} : a ≠ c → SqT K H a xs → SqT K H c ys → (∀ (j : Nat) (x y : V), xs[j]? = some x → ys[j]? = some y → EqB K H n x y (e j)) →
      EqB K H (n + 1) (.ref a) (.ref c) ((List.range (min xs.length ys.length)).all e && xs.length == ys.length)
  | dics {n : Nat} {a c : Addr} {ks ls : List (Key × V)} {e : Key → Bool} : a ≠ c → H a = some (.dK ks) → H c = some (.dK ls) → (∀ (k : Key) (x y : V), (k, x) ∈ ks → valV ls k = some y → EqB K H n x y (e k)) →
      EqB K H (n + 1) (.ref a) (.ref c) (ks.length == ls.length && ks.all fun p => (valV ls p.1).isSome && e p.1)
theorem kv_some {κ : Type} [DecidableEq κ] {ls : List (κ × V)} {vb : List (κ × Value)} (rb : KV ls vb) (k : κ) : (valV ls k).isSome = (valueAt vb k).isSome := by
  have := rb.val k
  cases c : valV ls k with
  | none =>
    rw [c] at this
    cases d : valueAt vb k with
    | none => rfl
    | some u => rw [d] at this; exact this.elim
  | some v =>
    rw [c] at this
    cases d : valueAt vb k with
    | none => rw [d] at this; exact this.elim
    | some u => rfl
theorem kv_all {κ : Type} [DecidableEq κ] {ls : List (κ × V)} {vb : List (κ × Value)} (rb : KV ls vb) (e : κ → Bool) {ks : List (κ × V)} {va : List (κ × Value)} (ra : KV ks va) : (ks.all fun p => (valV ls p.1).isSome && e p.1) = va.all fun p => (valueAt vb p.1).isSome && e p.1 := by
  unfold KV at ra
  induction ra with
  | nil => rfl
  | @cons p q ps qs h t ih => rw [List.all_cons, List.all_cons, ih, h.1, kv_some rb]
theorem kv_mem {κ : Type} {ks : List (κ × V)} {va : List (κ × Value)} (ra : KV ks va) : ∀ {k : κ} {v : Value}, (k, v) ∈ va → ∃ x, (k, x) ∈ ks ∧ RelV x v := by
  unfold KV at ra
  induction ra with
  | nil => intro k v h; exact nomatch h
  | @cons p q ps qs h t ih =>
    intro k v hm
    rcases List.mem_cons.mp hm with hm | hm
    · refine ⟨p.2, ?_, ?_⟩
      · have : p.1 = k := by rw [h.1, ← hm]
        rw [← this]; exact List.mem_cons_self
      · rw [← hm] at h; exact h.2
    · obtain ⟨x, h1, h2⟩ := ih hm
      exact ⟨x, List.mem_cons_of_mem _ h1, h2⟩
section
variable {X : Cx} {pins : List (Addr × Obj)} {σ : L2.St} {H : Hp} {s : Shared}
theorem vals_at {xs : List V} {us : List Value} (r : Vals xs us) {j : Nat} (h : j < us.length) : ∃ x, xs[j]? = some x ∧ RelV x us[j] := by
  induction r generalizing j with
  | nil => exact absurd h (Nat.not_lt_zero j)
  | cons a b ih =>
    cases j with
    | zero => exact ⟨_, rfl, a⟩
    | succ j => exact ih (Nat.lt_of_succ_lt_succ h)
theorem eqB_tree (I : Inv X pins σ H s) {n : Nat} {x y : V} {b : Bool} (h : EqB X.K H n x y b) : ∀ {v u : Value}, RelV x v → RelV y u → PySem.W.EqTree X.prog X.w s n v u b := by
  induction h with
  | leaf fx fy => exact fun rx ry => .leaf fun A hu => eqAt_V rx ry fx fy
  | same => exact fun rx ry => by cases rx; cases ry; exact .same
  | @tups n a c xs ys e ne ha hc _ ih =>
    intro v u rx ry
    cases rx; cases ry
    obtain ⟨us, r1, p1, _⟩ := I.tuple ha
    obtain ⟨ws, r2, p2, _⟩ := I.tuple hc
    have e1 : xs.length = us.toArray.size := by rw [List.size_toArray]; exact r1.length
    have e2 : ys.length = ws.toArray.size := by rw [List.size_toArray]; exact r2.length
    rw [e1, e2]
    refine .tuples ne p1 p2 fun j h1 h2 => ?_
    obtain ⟨x, hx, rx⟩ := vals_at r1 (j := j) (by simpa using h1)
    obtain ⟨y, hy, ry⟩ := vals_at r2 (j := j) (by simpa using h2)
    have := ih j x y hx hy rx ry
    simpa using this
  | @dics n a c ks ls e ne ha hc _ ih =>
    intro v u rx ry
    cases rx; cases ry
    obtain ⟨_, ya, va, ra, da⟩ := (show ObjOk X.prog X.w H s.heap a (.dK ks) from I.hok a _ ha)
    obtain ⟨_, yb, vb, rb, db⟩ := (show ObjOk X.prog X.w H s.heap c (.dK ls) from I.hok c _ hc)
    rw [kv_all rb e ra, ra.length, rb.length]
    refine .dicts (knd := mixKind X.prog X.w) ne ya yb da db fun k v y hm hv => ?_
    obtain ⟨x, hx, rx⟩ := kv_mem ra hm
    have := rb.val k
    rw [hv] at this
    cases hy : valV ls k with
    | none => rw [hy] at this; exact this.elim
    | some y' => rw [hy] at this; exact ih k x y' hx hy rx this
end
section
variable {X : Cx}
/-- a == b of two dicts, at the top -/
def rEqQ (K : PySem.W.Frag) : R2 := fun x y H Q => ∃ n a c ks ls, ∃ e : Key → Bool, n ≤ 50 ∧ x = .ref a ∧ y = .ref c ∧ H a = some (.dK ks) ∧ H c = some (.dK ls) ∧ (∀ (k : Key) (x y : V), (k, x) ∈ ks → valV ls k = some y → EqB K H n x y (e k)) ∧
  Q (.bl (ks.length == ls.length && ks.all fun p => (valV ls p.1).isSome && e p.1)) H
theorem op_eqQ (hu : X.A.units + 64 < cLine) : OpR X (compareOp .Eq) (rEqQ X.K) := by
  intro pins s σ H x y v u Q I rx ry h
  obtain ⟨n, a, c, ks, ls, e, hn, rfl, rfl, ha, hc, he, q⟩ := h
  cases rx; cases ry
  obtain ⟨_, ya, va, ra, da⟩ := (show ObjOk X.prog X.w H s.heap a (.dK ks) from I.hok a _ ha)
  obtain ⟨_, yb, vb, rb, db⟩ := (show ObjOk X.prog X.w H s.heap c (.dK ls) from I.hok c _ hc)
  refine PySem.W.eq_dictsT (knd := mixKind X.prog X.w) (n := n) (e := e) ya yb da db (fun k v y hm hv => ?_) (by omega) ?_
  · obtain ⟨x, hx, rx⟩ := kv_mem ra hm
    have := rb.val k
    rw [hv] at this
    cases hy : valV ls k with
    | none => rw [hy] at this; exact this.elim
    | some y' => rw [hy] at this; exact eqB_tree I (he k x y' hx hy) rx this
  · rw [← kv_all rb e ra, ← ra.length, ← rb.length]
    exact ⟨.bl _, H, I, rfl, q⟩
end
end Ssb

/-! == and != of an instance by an own __eq__ (no own __ne__), either answer, with a value of any type on the right. -/
namespace PySem.W
open Builtin PyProof.Rows
section
variable {prog : Program} {w : World} {M : Model} {A : Around} {E : Value → Shared → Prop} {s : Shared} {K : Frag} {x C f : Addr} {ox : Obj} {od : Option Obj}
/-- a built-in bound to it -/
theorem sq_bound {name : Str} {id : String} {args : List Value} {Q : Option Value → Shared → Prop} (X : K.In s.heap) (I : InstAt s.heap x ox C od) (hs : findIn K (.ref C) name = some (some (.builtin id)))
    (hb : ∀ self, bindSpecial (.builtin id) self = pure (.builtin id, [self])) (h : wpAny M A (call (.builtin id) (.ref x :: args)) (fun v => Q (some v)) E s) : wpAny M A (callSpecialIfBound? (.ref x) name args) Q E s := by
  simp only [callSpecialIfBound?, bindSpecialIfBound?]
  refine wpAny_holding (wpAny_bind (wpAny_bind (wpAny_bind (I.type.here ((looks_findIn X hs).here ?_)))))
  refine wpAny_bind (wpAny_askSetting (wpAny_ite ?_))
  have fin : wpAny M A (call (.builtin id) ([.ref x] ++ args) >>= fun v => pure (some v)) Q E s := wpAny_bind (wpAny_mono h (fun v s' h' => wpAny_pure h') fun _ _ h' => h')
  split
  · exact wpAny_bind ((Looks.of_pure (hb _)).here (wpAny_pure (by exact fin)))
  · exact wpAny_tryCatch (wpAny_bind ((Looks.of_pure (hb _)).here (wpAny_pure (by exact fin))))
/-- object.__ne__ by an own __eq__ that answers True or False -/
theorem sq_one {b : Value} {Q : Value → Shared → Prop} (hu : A.in1.units < cLine) (X : K.In s.heap) (I : InstAt s.heap x ox C od) (hm : mroIn K C (.type "object") = some true) (hn : findIn K (.ref C) "__ne__" = some (some (.builtin "object.__ne__")))
    (hs : findIn K (.ref C) "__eq__" = some (some (.ref f))) (hf : isFn K (.ref f) = true)
    (h : wpAny (model prog w) A.in1 (call (.ref f) [.ref x, b]) (fun v s' => ∃ r, v = .bool r ∧ Q (.bool (!r)) s') E s) : wpAny (model prog w) A (tryCompare (.ref x) "__ne__" b) (fun r s' => ∃ v, r = some v ∧ Q v s') E s := by
  unfold tryCompare
  refine wpAny_bind (sq_bound X I hn (by intro self; exact PySem.F.slot_tuple_iterator_ne.bind self) (wpAny_call (codeAny_call_builtin PySem.F.slot_tuple_iterator_ne.plain PySem.F.cmpEntry_ne (check_slot (i := "object.__ne__") (owner := "object") (n := "__ne__") PySem.F.cmpKind_ne PySem.F.cmpSplit_ne (I.type.andThen (looks_mroIn X hm)) (PySem.F.cmpArgs_ne _ _) ?_))))
  unfold Builtin.«object.__ne__»
  refine wpAny_bind (m := slotArgs "__ne__" 1 _) (wpAny_pure ?_)
  refine wpAny_bind (m := cRoomFor _ _) (wpAny_cRoomFor hu ?_)
  refine wpAny_bind (m := callSpecialIfBound? (.ref x) (Str.ofString "__eq__") [b]) (ifBound_K X I hs hf (wpAny_mono h (fun r s' hq => ?_) fun _ _ y => y))
  obtain ⟨r', rfl, q⟩ := hq
  refine wpAny_bind (m := truthy (.bool _)) (wpAny_truthy_bool ?_)
  first | exact ⟨_, rfl, wpAny_pure q⟩ | exact wpAny_pure ⟨_, rfl, q⟩ | exact wpAny_pure (wpAny_pure ⟨_, rfl, q⟩)
end
section
variable {prog : Program} {w : World} {A : Around} {E : Value → Shared → Prop} {s : Shared} {K : Frag} {x C L f : Addr} {h₀ : Heap} {m : Str → Option Value} {ox : Obj} {od : Option Obj} {b tb : Value}
theorem sq_ne {Q : Value → Shared → Prop} (hu : A.units < cLine) (hu1 : A.in1.units < cLine) (F : Fr h₀ L s.heap m) (X₀ : K.In h₀) (I : InstAt s.heap x ox C od) (hb : Looks (model prog w) s.heap (typeOf b) tb) (hn : notFirst K C tb = true)
    (hm : mroIn K C (.type "object") = some true) (hne : findIn K (.ref C) "__ne__" = some (some (.builtin "object.__ne__"))) (hs : findIn K (.ref C) "__eq__" = some (some (.ref f))) (hf : isFn K (.ref f) = true)
    (h : wpAny (model prog w) A.in1 (call (.ref f) [.ref x, b]) (fun v s' => ∃ r, v = .bool r ∧ Q (.bool (!r)) s') E s) : wpAny (model prog w) A (richCompare .NotEq (.ref x) b) Q E s := by
  have X := X₀.keeps F.keep
  have one := sq_one (Q := Q) hu1 X I hm hne hs hf h
  unfold richCompare
  simp only [oneThing_ref]
  refine wpAny_holding (wpAny_bind (wpAny_cRoomFor hu ?_))
  refine wpAny_bind (I.type.here (wpAny_bind (hb.here ?_)))
  split
  · rename_i q
    have e : subIn K tb (.ref C) = some false := by
      rcases Bool.or_eq_true_iff.mp hn with e | e
      · rw [beq_iff_eq.mp e] at q; simp at q
      · exact beq_iff_eq.mp e
    refine wpAny_bind ((looks_subIn X e).here ?_)
    simp only [Bool.false_eq_true, if_false]
    refine wpAny_bind (wpAny_mono one (fun r s' z => ?_) fun _ _ e => e)
    obtain ⟨v, rfl, hq⟩ := z
    exact wpAny_pure hq
  · refine wpAny_bind (wpAny_pure ?_)
    simp only [Bool.false_eq_true, if_false]
    refine wpAny_bind (wpAny_mono one (fun r s' z => ?_) fun _ _ e => e)
    obtain ⟨v, rfl, hq⟩ := z
    exact wpAny_pure hq
end
end PySem.W
namespace Ssb
open PySem PySem.Spec PyProof.Rows L2
section
variable {X : Cx}
/-- an own __eq__ answers: what sp says of the two -/
def spB2 (R : V → V → Hp → Bool → Prop) : Sp := fun vs H Q _ => ∃ (a : Addr) (y : V) (b : Bool), vs = [.ref a, y] ∧ R (.ref a) y H b ∧ ∀ H', Evl.Ex H H' → Q (.bl b) H'
structure EqFacts (K : PySem.W.Frag) (C f : Addr) : Prop where
  fn : PySem.W.isFn K (.ref f) = true
  eq : PySem.W.findIn K (.ref C) "__eq__" = some (some (.ref f))
structure NeFacts (K : PySem.W.Frag) (C : Addr) : Prop where
  ne : PySem.W.findIn K (.ref C) "__ne__" = some (some (.builtin "object.__ne__"))
  ob : PySem.W.mroIn K C (.type "object") = some true
/-- x == y where x is an instance of C with an own __eq__; y of a type that is no subclass of C -/
def rOwnB (K : PySem.W.Frag) (C : Addr) (R : V → V → Hp → Bool → Prop) (g : Bool → Bool) : R2 := fun x y H Q => ∃ a dx fs t b, x = .ref a ∧ H a = some (.ins C dx fs) ∧ TyX K H y t ∧ PySem.W.notFirst K C t = true ∧ R x y H b ∧ ∀ H', Evl.Ex H H' → Q (.bl (g b)) H'
theorem op_ownEq {CX : CXT} {C f : Addr} {fd : FuncData} {ps : List Str} {n : Nat} {R : V → V → Hp → Bool → Prop} (hr : Room n X.A) (F : FnOk X.prog X.w X.K X.mg X.base CX n f fd ps (spB2 R))
    (hs : EqFacts X.K C f) (hb : Binds X.K fd ps []) (hx : Passes CX X (fun _ _ _ => False)) : OpR X (compareOp .Eq) (rOwnB X.K C R id) := by
  intro pins s σ H x y u v Q I rx ry d
  obtain ⟨a, dx, fs, t, b, rfl, ha, ty, hn, hR, q⟩ := d
  cases rx
  obtain ⟨mA, J, _⟩ := ins_get I.hok ha
  obtain ⟨od, J, _⟩ := J.look
  obtain ⟨m, hF⟩ := I.fr
  obtain ⟨P, Z, hP, _⟩ := kit_of I ry ty
  show wpAny (model X.prog X.w) X.A (richCompare .Eq (.ref a) v) (EP X pins σ Q) X.xe s
  refine PySem.W.cmp_K (op := .Eq) (tb := t) hr.units0 hF I.ok.mod.kin J (Z.ty _ _ I.kIn hP) hn hs.eq hs.fn ?_
  have hsp : spB2 R [.ref a, y] H (fun v H' => v = .bl b ∧ Evl.Ex H H') (fun _ _ _ => False) := ⟨a, y, b, rfl, hR, fun H' e => ⟨rfl, e⟩⟩
  have e0 : Env0 X.prog X.w X.K X.mg X.base X.A X.stack s H := I.env0
  have hl := F.len _ _ _ _ hsp
  have r2 : Vals [V.ref a, y] [Value.ref a, v] := .cons rfl (.cons ry .nil)
  refine wpAny_call (codeAny_mono (F.run X.A X.stack s H ⟨[.ref a, v], []⟩ [.ref a, v] [.ref a, y] _ (fun _ _ _ => False) hr e0 (by
    have := hb s [.ref a, v] I.kIn (by simpa using hl)
    simpa using this) r2 hsp) fun r s' hq => ?_)
  cases r with
  | error e => exact hx pins σ H s e s' I hq
  | ok fl =>
    cases fl with
    | ret w =>
      obtain ⟨z, H', I', rz, ez, ex⟩ := I.after hq
      subst ez
      cases rz
      exact ⟨.bl b, H', I', rfl, q H' ex⟩
    | next => exact False.elim hq
    | brk => exact False.elim hq
    | cont => exact False.elim hq
theorem op_ownNe {CX : CXT} {C f : Addr} {fd : FuncData} {ps : List Str} {n : Nat} {R : V → V → Hp → Bool → Prop} (hr : Room (n + 1) X.A) (F : FnOk X.prog X.w X.K X.mg X.base CX n f fd ps (spB2 R))
    (hs : EqFacts X.K C f) (hn2 : NeFacts X.K C) (hb : Binds X.K fd ps []) (hx : Passes CX X (fun _ _ _ => False)) : OpR X (compareOp .NotEq) (rOwnB X.K C R not) := by
  intro pins s σ H x y u v Q I rx ry d
  obtain ⟨a, dx, fs, t, b, rfl, ha, ty, hn, hR, q⟩ := d
  cases rx
  obtain ⟨mA, J, _⟩ := ins_get I.hok ha
  obtain ⟨od, J, _⟩ := J.look
  obtain ⟨m, hF⟩ := I.fr
  obtain ⟨P, Z, hP, _⟩ := kit_of I ry ty
  show wpAny (model X.prog X.w) X.A (richCompare .NotEq (.ref a) v) (EP X pins σ Q) X.xe s
  refine PySem.W.sq_ne (tb := t) hr.units0 hr.in1.units0 hF I.ok.mod.kin J (Z.ty _ _ I.kIn hP) hn hn2.ob hn2.ne hs.eq hs.fn ?_
  have hsp : spB2 R [.ref a, y] H (fun v H' => v = .bl b ∧ Evl.Ex H H') (fun _ _ _ => False) := ⟨a, y, b, rfl, hR, fun H' e => ⟨rfl, e⟩⟩
  have e0 : Env0 X.prog X.w X.K X.mg X.base X.A.in1 X.stack s H := by
    have e := I.env0
    exact ⟨e.frames, e.mod, e.bs, e.bsz, e.funs, e.frf, e.hok, e.bare⟩
  have hl := F.len _ _ _ _ hsp
  have r2 : Vals [V.ref a, y] [Value.ref a, v] := .cons rfl (.cons ry .nil)
  refine wpAny_call (codeAny_mono (F.run X.A.in1 X.stack s H ⟨[.ref a, v], []⟩ [.ref a, v] [.ref a, y] _ (fun _ _ _ => False) hr.in1 e0 (by
    have := hb s [.ref a, v] I.kIn (by simpa using hl)
    simpa using this) r2 hsp) fun r s' hq => ?_)
  cases r with
  | error e => exact hx pins σ H s e s' I hq
  | ok fl =>
    cases fl with
    | ret w =>
      obtain ⟨z, H', I', rz, ez, ex⟩ := I.after hq
      subst ez
      cases rz
      exact ⟨b, rfl, .bl (!b), H', I', rfl, q H' ex⟩
    | next => exact False.elim hq
    | brk => exact False.elim hq
    | cont => exact False.elim hq
end
end Ssb

namespace Pk
open PySem PySem.Spec PyProof.Rows L2 Ssb
/-- the i-th statement of the text -/
def topS (i : Nat) : Stmt := PySem.Challenge.pw_statestay_k64_whole_shapes_as_texts.main.body.getD i (.Pass ⟨0, 0, 0, 0⟩)
abbrev s_is_word : Stmt := topS 6
theorem sc_is_word : FnScope ["value", "letter"] ["value"] (defScope s_is_word) := ⟨rfl, rfl, rfl, by decide +kernel, rfl, by decide +kernel, by decide +kernel⟩
abbrev s_are_words : Stmt := topS 7
theorem sc_are_words : FnScope ["values", "least", "most", "value"] ["values", "least", "most"] (defScope s_are_words) := ⟨rfl, rfl, rfl, by decide +kernel, rfl, by decide +kernel, by decide +kernel⟩
abbrev s_has_names : Stmt := topS 8
theorem sc_has_names : FnScope ["value", "names", "name"] ["value", "names"] (defScope s_has_names) := ⟨rfl, rfl, rfl, by decide +kernel, rfl, by decide +kernel, by decide +kernel⟩
abbrev s_is_named : Stmt := topS 9
theorem sc_is_named : FnScope ["value", "most", "key"] ["value", "most"] (defScope s_is_named) := ⟨rfl, rfl, rfl, by decide +kernel, rfl, by decide +kernel, by decide +kernel⟩
abbrev s_has_form : Stmt := topS 10
theorem sc_has_form : FnScope ["value", "forms"] ["value", "forms"] (defScope s_has_form) := ⟨rfl, rfl, rfl, by decide +kernel, rfl, by decide +kernel, by decide +kernel⟩
abbrev s_line_of : Stmt := topS 13
theorem sc_line_of : FnScope ["level", "words"] ["level", "words"] (defScope s_line_of) := ⟨rfl, rfl, rfl, by decide +kernel, rfl, by decide +kernel, by decide +kernel⟩
abbrev s_read_lines : Stmt := topS 14
theorem sc_read_lines : FnScope ["text", "form_of", "found", "rows", "at", "row", "words", "spaces", "told"] ["text", "form_of"] (defScope s_read_lines) := ⟨rfl, rfl, rfl, by decide +kernel, rfl, by decide +kernel, by decide +kernel⟩
abbrev s_all_words : Stmt := topS 15
theorem sc_all_words : FnScope ["several", "one"] ["several"] (defScope s_all_words) := ⟨rfl, rfl, rfl, by decide +kernel, rfl, by decide +kernel, by decide +kernel⟩
abbrev s_shape_form : Stmt := topS 16
theorem sc_shape_form : FnScope ["words"] ["words"] (defScope s_shape_form) := ⟨rfl, rfl, rfl, by decide +kernel, rfl, by decide +kernel, by decide +kernel⟩
abbrev s_wrong_part : Stmt := topS 18
theorem sc_wrong_part : FnScope ["flags", "lists", "rows", "name", "parent", "fields"] ["flags", "lists"] (defScope s_wrong_part) := ⟨rfl, rfl, rfl, by decide +kernel, rfl, by decide +kernel, by decide +kernel⟩
abbrev s_are_lists : Stmt := topS 19
theorem sc_are_lists : FnScope ["lists", "outer", "inner"] ["lists"] (defScope s_are_lists) := ⟨rfl, rfl, rfl, by decide +kernel, rfl, by decide +kernel, by decide +kernel⟩
abbrev s_are_list_shapes : Stmt := topS 20
theorem sc_are_list_shapes : FnScope ["lists", "most", "one"] ["lists", "most"] (defScope s_are_list_shapes) := ⟨rfl, rfl, rfl, by decide +kernel, rfl, by decide +kernel, by decide +kernel⟩
abbrev s_list_rows : Stmt := topS 21
theorem sc_list_rows : FnScope ["lists", "rows", "name", "outer", "deep", "inner"] ["lists"] (defScope s_list_rows) := ⟨rfl, rfl, rfl, by decide +kernel, rfl, by decide +kernel, by decide +kernel⟩
abbrev s_are_fields : Stmt := topS 22
theorem sc_are_fields : FnScope ["fields", "words"] ["fields"] (defScope s_are_fields) := ⟨rfl, rfl, rfl, by decide +kernel, rfl, by decide +kernel, by decide +kernel⟩
abbrev s_Shape_init : Stmt := inClass (topS 24) 0
theorem sc_Shape_init : FnScope ["self", "flags", "lists", "part", "name", "parent", "fields"] ["self", "flags", "lists"] (defScope s_Shape_init) := ⟨rfl, rfl, rfl, by decide +kernel, rfl, by decide +kernel, by decide +kernel⟩
abbrev s_Shape_eq : Stmt := inClass (topS 24) 1
theorem sc_Shape_eq : FnScope ["self", "other"] ["self", "other"] (defScope s_Shape_eq) := ⟨rfl, rfl, rfl, by decide +kernel, rfl, by decide +kernel, by decide +kernel⟩
abbrev s_Shape_outer : Stmt := inClass (topS 24) 2
theorem sc_Shape_outer : FnScope ["self"] ["self"] (defScope s_Shape_outer) := ⟨rfl, rfl, rfl, by decide +kernel, rfl, by decide +kernel, by decide +kernel⟩
abbrev s_Shape_inner : Stmt := inClass (topS 24) 3
theorem sc_Shape_inner : FnScope ["self", "name"] ["self", "name"] (defScope s_Shape_inner) := ⟨rfl, rfl, rfl, by decide +kernel, rfl, by decide +kernel, by decide +kernel⟩
abbrev s_Shape_fields : Stmt := inClass (topS 24) 4
theorem sc_Shape_fields : FnScope ["self", "name"] ["self", "name"] (defScope s_Shape_fields) := ⟨rfl, rfl, rfl, by decide +kernel, rfl, by decide +kernel, by decide +kernel⟩
abbrev s_Shape_lists_in : Stmt := inClass (topS 24) 6
theorem sc_Shape_lists_in : FnScope ["self", "parent", "name"] ["self", "parent"] (defScope s_Shape_lists_in) := ⟨rfl, rfl, rfl, by decide +kernel, rfl, by decide +kernel, by decide +kernel⟩
abbrev s_Shape_need_list : Stmt := inClass (topS 24) 7
theorem sc_Shape_need_list : FnScope ["self", "name"] ["self", "name"] (defScope s_Shape_need_list) := ⟨rfl, rfl, rfl, by decide +kernel, rfl, by decide +kernel, by decide +kernel⟩
abbrev s_write_shape : Stmt := topS 26
theorem sc_write_shape : FnScope ["shape", "flags", "flag", "name"] ["shape"] (defScope s_write_shape) := ⟨rfl, rfl, rfl, by decide +kernel, rfl, by decide +kernel, by decide +kernel⟩
abbrev s_list_text : Stmt := topS 27
theorem sc_list_text : FnScope ["shape", "name", "level", "fields", "lines", "inner", "field", "one"] ["shape", "name", "level"] (defScope s_list_text) := ⟨rfl, rfl, rfl, by decide +kernel, rfl, by decide +kernel, by decide +kernel⟩
abbrev s_read_shape : Stmt := topS 28
theorem sc_read_shape : FnScope ["text", "flags", "around", "lists", "level", "words", "shape"] ["text"] (defScope s_read_shape) := ⟨rfl, rfl, rfl, by decide +kernel, rfl, by decide +kernel, by decide +kernel⟩
abbrev s__law_open : Stmt := topS 30
theorem sc__law_open : FnScope ["_law_script", "_law_cell"] ["_law_script"] (defScope s__law_open) := ⟨rfl, rfl, rfl, by decide +kernel, rfl, by decide +kernel, by decide +kernel⟩
abbrev s__law_mixed : Stmt := topS 31
theorem sc__law_mixed : FnScope ["_law_one", "_law_two"] ["_law_one"] (defScope s__law_mixed) := ⟨rfl, rfl, rfl, by decide +kernel, rfl, by decide +kernel, by decide +kernel⟩
abbrev s__law_draw : Stmt := topS 32
theorem sc__law_draw : FnScope ["_law_state", "_law_many", "_law_digit", "_law_cell"] ["_law_state", "_law_many"] (defScope s__law_draw) := ⟨rfl, rfl, rfl, by decide +kernel, rfl, by decide +kernel, by decide +kernel⟩
abbrev s__law_word : Stmt := topS 33
theorem sc__law_word : FnScope ["_law_state", "_law_taken", "_law_letters", "_law_word_here", "_law_k"] ["_law_state", "_law_taken"] (defScope s__law_word) := ⟨rfl, rfl, rfl, by decide +kernel, rfl, by decide +kernel, by decide +kernel⟩
abbrev s__law_copy : Stmt := topS 34
theorem sc__law_copy : FnScope ["_law_value", "_law_result", "_law_name", "_law_part"] ["_law_value"] (defScope s__law_copy) := ⟨rfl, rfl, rfl, by decide +kernel, rfl, by decide +kernel, by decide +kernel⟩
abbrev s__law_turned : Stmt := topS 35
theorem sc__law_turned : FnScope ["_law_value", "_law_result", "_law_name"] ["_law_value"] (defScope s__law_turned) := ⟨rfl, rfl, rfl, by decide +kernel, rfl, by decide +kernel, by decide +kernel⟩
abbrev s__law_rich_fields : Stmt := topS 36
theorem sc__law_rich_fields : FnScope ["_law_state", "_law_fields", "_law_taken", "_law_k", "_law_field", "_law_inside", "_law_several"] ["_law_state"] (defScope s__law_rich_fields) := ⟨rfl, rfl, rfl, by decide +kernel, rfl, by decide +kernel, by decide +kernel⟩
abbrev s__law_rich : Stmt := topS 37
theorem sc__law_rich : FnScope ["_law_state", "_law_taken", "_law_flags", "_law_lists", "_law_k", "_law_inner"] ["_law_state"] (defScope s__law_rich) := ⟨rfl, rfl, rfl, by decide +kernel, rfl, by decide +kernel, by decide +kernel⟩
abbrev s__law_text : Stmt := topS 38
theorem sc__law_text : FnScope ["_law_lines", "_law_line"] ["_law_lines"] (defScope s__law_text) := ⟨rfl, rfl, rfl, by decide +kernel, rfl, by decide +kernel, by decide +kernel⟩
abbrev s__law_shape_lines : Stmt := topS 39
theorem sc__law_shape_lines : FnScope ["_law_lists", "_law_level", "_law_lines", "_law_name", "_law_fields", "_law_field", "_law_words"] ["_law_lists", "_law_level"] (defScope s__law_shape_lines) := ⟨rfl, rfl, rfl, by decide +kernel, rfl, by decide +kernel, by decide +kernel⟩
abbrev s_law : Stmt := topS 40
theorem sc_law : FnScope ["_law_script", "_law_state", "_law_spec", "_law_flags", "_law_lists", "_law_shape", "_law_due", "_law_text_here", "_law_told", "_law_name", "_law_flag"] ["_law_script"] (defScope s_law) := ⟨rfl, rfl, rfl, by decide +kernel, rfl, by decide +kernel, by decide +kernel⟩
/-- what the module says of built-ins, constants and classes -/
structure Txt (K : PySem.W.Frag) (mg : Str → Option Value) (C_Shape : Addr) (C_SHAPES : Addr) : Prop where
  abs : mg "abs" = none
  all : mg "all" = none
  enumerate : mg "enumerate" = none
  int : mg "int" = none
  str : mg "str" = none
  isinstance : mg "isinstance" = none
  len : mg "len" = none
  list : mg "list" = none
  range : mg "range" = none
  sorted : mg "sorted" = none
  tuple : mg "tuple" = none
  set : mg "set" = none
  dict : mg "dict" = none
  cl_Shape : Cls K C_Shape
  mk_Shape : PySem.W.makesIn K C_Shape = true
  kp_Shape : PySem.W.keepIn K (.ref C_Shape) = true
  at_Shape : mg "Shape" = some (.ref C_Shape)
  kl_Shape : PySem.W.findIn K (.ref C_Shape) "__class__" = some (some (.builtin "object.__class__"))
  km_Shape : PySem.W.mroIn K C_Shape (.type "object") = some true
  se_Shape : PySem.W.kitOne K (.ref C_Shape) (.ref C_Shape) = some true
  ne_Shape : PySem.W.findIn K (.ref C_Shape) "__ne__" = some (some (.builtin "object.__ne__"))
  gt_cls : PySem.W.specialIn K (.builtin "object.__class__") "__get__" = some (some (.builtin "getset_descriptor.__get__"))
  tk_cls : PySem.W.takesIn K (.builtin "object.__class__") = some true
  no_Shape_flags : NoAttr K C_Shape "flags"
  no_Shape_table : NoAttr K C_Shape "table"
  at_SHAPES : mg "SHAPES" = some (.ref C_SHAPES)
  tu_SHAPES : TupK K C_SHAPES [(D.tup [D.str "flag", D.int 2]), (D.tup [D.str "list", D.int 2]), (D.tup [D.str "field", D.int 4]), (D.tup [D.str "field", D.int 5])]
/-- a def as it stands -/
def Here (K : PySem.W.Frag) (mg : Str → Option Value) (nm : Str) (st : Stmt) : Prop := ∃ f fd, mg nm = some (.ref f) ∧ Fun K nm nm st f fd ∧ PySem.W.keepIn K (.ref f) = true
def HereM (K : PySem.W.Frag) (C : Addr) (nm qual : Str) (st : Stmt) : Prop := ∃ f fd, Fun K nm qual st f fd ∧ PySem.W.findIn K (.ref C) nm = some (some (.ref f)) ∧ PySem.W.isFn K (.ref f) = true ∧ PySem.W.keepIn K (.ref f) = true
structure Prg (K : PySem.W.Frag) (mg : Str → Option Value) (C_Shape : Addr) (C_SHAPES : Addr) : Prop where
  is_word : Here K mg "is_word" s_is_word
  are_words : Here K mg "are_words" s_are_words
  has_names : Here K mg "has_names" s_has_names
  is_named : Here K mg "is_named" s_is_named
  has_form : Here K mg "has_form" s_has_form
  line_of : Here K mg "line_of" s_line_of
  read_lines : Here K mg "read_lines" s_read_lines
  all_words : Here K mg "all_words" s_all_words
  shape_form : Here K mg "shape_form" s_shape_form
  wrong_part : Here K mg "wrong_part" s_wrong_part
  are_lists : Here K mg "are_lists" s_are_lists
  are_list_shapes : Here K mg "are_list_shapes" s_are_list_shapes
  list_rows : Here K mg "list_rows" s_list_rows
  are_fields : Here K mg "are_fields" s_are_fields
  Shape_init : HereM K C_Shape "__init__" "Shape.__init__" s_Shape_init
  Shape_eq : HereM K C_Shape "__eq__" "Shape.__eq__" s_Shape_eq
  Shape_outer : HereM K C_Shape "outer" "Shape.outer" s_Shape_outer
  Shape_inner : HereM K C_Shape "inner" "Shape.inner" s_Shape_inner
  Shape_fields : HereM K C_Shape "fields" "Shape.fields" s_Shape_fields
  Shape_lists_in : HereM K C_Shape "lists_in" "Shape.lists_in" s_Shape_lists_in
  Shape_need_list : HereM K C_Shape "need_list" "Shape.need_list" s_Shape_need_list
  write_shape : Here K mg "write_shape" s_write_shape
  list_text : Here K mg "list_text" s_list_text
  read_shape : Here K mg "read_shape" s_read_shape
  _law_open : Here K mg "_law_open" s__law_open
  _law_mixed : Here K mg "_law_mixed" s__law_mixed
  _law_draw : Here K mg "_law_draw" s__law_draw
  _law_word : Here K mg "_law_word" s__law_word
  _law_copy : Here K mg "_law_copy" s__law_copy
  _law_turned : Here K mg "_law_turned" s__law_turned
  _law_rich_fields : Here K mg "_law_rich_fields" s__law_rich_fields
  _law_rich : Here K mg "_law_rich" s__law_rich
  _law_text : Here K mg "_law_text" s__law_text
  _law_shape_lines : Here K mg "_law_shape_lines" s__law_shape_lines
  law : Here K mg "law" s_law
theorem here_mk {K : PySem.W.Frag} {h : Heap} {mg : Str → Option Value} (X : K.In h) (G : h.Ns mainGlobals mg) {nm : Str} {st : Stmt} {f : Addr} {oc : Value} {od an : Option Addr} {sl : Array (Option Value)} {kV dc pm cd ct : Value}
    (a : PySem.W.nsIn K mainGlobals nm = some (some (.ref f))) (l : K.lookup f = some ⟨oc, od, .func (PySem.W.fnOf nm nm (defArgs st) (defBody st) (defScope st) .none kV dc pm an cd ct), sl⟩) (c : PySem.W.codeIn K cd nm = true) (k : PySem.W.keepIn K (.ref f) = true) : Here K mg nm st :=
  ⟨f, _, PySem.W.mg_of X G a, fun_mk (st := st) l c k, k⟩
theorem hereM_mk {K : PySem.W.Frag} {C : Addr} {nm qual : Str} {st : Stmt} {f : Addr} {oc : Value} {od an : Option Addr} {sl : Array (Option Value)} {kV dc pm cd ct : Value}
    (a : PySem.W.findIn K (.ref C) nm = some (some (.ref f))) (i : PySem.W.isFn K (.ref f) = true) (l : K.lookup f = some ⟨oc, od, .func (PySem.W.fnOf nm qual (defArgs st) (defBody st) (defScope st) .none kV dc pm an cd ct), sl⟩) (c : PySem.W.codeIn K cd qual = true) (k : PySem.W.keepIn K (.ref f) = true) : HereM K C nm qual st :=
  ⟨f, _, fun_mk (st := st) l c k, a, i, k⟩
def spLaw (K : PySem.W.Frag) : Sp := fun vs H Q _ => ∃ (a : Addr) (ns : List Int), vs = [.ref a] ∧ SqL K H a (ns.map V.int) ∧ ns.length ≤ 63 ∧ ∀ H', Q (.bl true) H'

end Pk

namespace Pk
open PySem PySem.Spec PyProof.Rows L2 Ssb
open Evl (Ex Ev EvT EvL EvA EvU)
/-! ### promises of defs that hand back True -/
/-- where pre holds, z comes back, and only objects are made -/
def spV (z : V) (pre : List V → Hp → Prop) : Sp := fun vs H Q _ => pre vs H ∧ ∀ H', Ex H H' → Q z H'
theorem spV_ev {z : V} {pre : List V → Hp → Prop} {vs : List V} {ta : TA} {σ : L2.St} {H : Hp} (h : EvA ta σ H vs) (hp : ∀ H1, Ex H H1 → pre vs H1) : Ev (tCall (spV z pre) [] E0 ta) σ H z := ev_fn h fun H1 e Q q => ⟨hp H1 e, q⟩
/-- a word -/
def isW (s : Str) : Prop := 1 ≤ s.length ∧ s.length ≤ 8 ∧ ∀ c ∈ s.cps.toList, 97 ≤ c ∧ c ≤ 122
theorem lt_one {a b : Nat} (h : a ≤ b) : (!decide ([b] < [a])) = true := by
  have : ¬ ([b] < [a]) := by
    intro z
    rcases List.cons_lt_cons_iff.mp z with z | z
    · omega
    · exact absurd z.2 (by simp)
  simp [this]
section
variable {P : Program} {w : World} {K : PySem.W.Frag} {mg : Str → Option Value} {base : Heap} {C_Shape C_SHAPES : Addr}
def preWord : List V → Hp → Prop := fun vs _ => ∃ s, vs = [.str s] ∧ isW s
theorem ok_is_word (T : Txt K mg C_Shape C_SHAPES) (R : Prg K mg C_Shape C_SHAPES) : ∃ f fd, Fn P w K mg base "is_word" 1 ["value"] (spV (.bl true) preWord) f fd := by
  obtain ⟨f, fd, at_, F, kp⟩ := R.is_word
  refine ⟨f, fd, F.ok sc_is_word (fun vs H Q E h => ?_) (fun cdv A outer s H vs Q E hr h => ?_), at_, kp, F.binds (fun _ _ _ _ _ _ us hl => match us, hl with | [_], _ => rfl)⟩
  · obtain ⟨⟨s, rfl, _⟩, _⟩ := h; rfl
  · obtain ⟨⟨x, rfl, h1, h8, hc⟩, k⟩ := h
    refine ⟨_, (pss_cons (ps_if (PW.pt (pw_or (pt_not (pt_val (pe_callB (r := rIsi K) call_isi (by rfl) T.isinstance (by decide +kernel) (pa_cons (pv 0) (pa_cons (pe_bltn (v := .ty "str") (by rfl) T.str boot_str rfl) pa_nil))))) (pw_or1 (pt_not (pt_chain op_le op_le pe_int (pe_callB (r := rLenA K) call_len (by rfl) T.len (by decide +kernel) (pa_cons (pv 0) pa_nil)) pe_int))))) pss_never pss_nil)
  (pss_one (ps_ret (pe_callB (r := rAll K) (cr_all rfl) (by rfl) T.all (by decide +kernel) (pa_cons (pe_lc (own := [("letter", 1)]) rfl sc_is_word.nd (pi_str (pv 0)) (blkOk_by (own := [("letter", 1)]) (N := ["value", "letter"]) (sc := defScope s_is_word) (by decide +kernel)) (fun _ _ _ _ _ => (pg_name (i := 1) sc_is_word.nd rfl (Or.inl rfl))) (fun _ _ _ _ _ => pts_nil) (fun _ _ _ _ _ => (pe_chain op_le_str op_le_str pe_str (pv 1) pe_str))) pa_nil))))), ?_⟩
    refine Evl.q_when (b := false) (Evl.et_or (a := false) (b := false) (Evl.et_not (a := true) (Evl.et_B (ev_isi (Evl.ev_var rfl) (fun H1 _ => .base (.str x)) (kit_ty (by decide +kernel))))) fun _ => Evl.et_not (a := true) (Evl.et_test ?_)) (fun h => nomatch h) fun _ H1 e1 => ?_
    · refine Evl.ev_is (ev_chain Evl.ev_c (ev_lenS (Evl.ev_var rfl) (by omega)) Evl.ev_c Evl.rv_I0 Evl.rv_I0) ?_
      rw [decide_eq_true (by omega : (1 : Int) ≤ (x.length : Int)), decide_eq_true (by omega : (x.length : Int) ≤ 8)]
      rfl
    · refine Evl.s_ret (ev_allT (n := x.length) (el_lcS (Evl.ev_var rfl) (by omega) (fun _ => rfl) fun i c hi H2 e2 => ?_)) fun H2 e2 => k H2 (e1.trans e2)
      obtain ⟨ha, hz⟩ := hc c (by rw [← Array.getElem?_toList] at hi; exact List.mem_of_getElem? hi)
      refine Evl.ev_is (ev_chain (b1 := true) (b2 := true) Evl.ev_c (Evl.ev_var rfl) Evl.ev_c ?_ ?_) rfl
      · exact fun H1 _ Q q => ⟨_, _, rfl, rfl, by rw [show (!decide ((⟨#[c]⟩ : Str).cps.toList < ("a" : Str).cps.toList)) = true from lt_one ha]; exact q H1 (Ex.refl _)⟩
      · exact fun H1 _ Q q => ⟨_, _, rfl, rfl, by rw [show (!decide (("z" : Str).cps.toList < (⟨#[c]⟩ : Str).cps.toList)) = true from lt_one hz]; exact q H1 (Ex.refl _)⟩

/-! ### are_words, of a list and of a tuple -/
def preWords (t : Bool) (K : PySem.W.Frag) : List V → Hp → Prop := fun vs H => ∃ (a : Addr) (xs : List Str) (lo hi : Int), vs = [.ref a, .int lo, .int hi] ∧ (if t = true then SqT K H a (xs.map V.str) else SqL K H a (xs.map V.str)) ∧ xs.length ≤ 1000 ∧ lo ≤ xs.length ∧ (xs.length : Int) ≤ hi ∧ (∀ x ∈ xs, isW x) ∧ xs.Nodup
theorem ok_are_wordsL (T : Txt K mg C_Shape C_SHAPES) (R : Prg K mg C_Shape C_SHAPES) : ∃ f fd, Fn P w K mg base "are_words" 2 ["values", "least", "most"] (spV (.bl true) (preWords false K)) f fd := by
  obtain ⟨_, _, G_is_word⟩ := ok_is_word (P := P) (w := w) (base := base) T R
  obtain ⟨f, fd, at_, F, kp⟩ := R.are_words
  refine ⟨f, fd, F.ok sc_are_words (fun vs H Q E h => ?_) (fun cdv A outer s H vs Q E hr h => ?_), at_, kp, F.binds (fun _ _ _ _ _ _ us hl => match us, hl with | [_, _, _], _ => rfl)⟩
  · obtain ⟨⟨a, xs, lo, hi, rfl, _⟩, _⟩ := h; rfl
  · obtain ⟨⟨a, xs, lo, hi, rfl, hs, few, hlo, hhi, hw, hn⟩, k⟩ := h
    have hs : SqL K H a (xs.map V.str) := hs
    refine ⟨_, (pss_cons (ps_if (PW.pt (pw_or (pt_not (pt_chain op_le op_le (pv 1) (pe_callB (r := rLenA K) call_len (by rfl) T.len (by decide +kernel) (pa_cons (pv 0) pa_nil)) (pv 2))) (pw_or1 (pt_not (pt_val (pe_callB (r := rAll K) (cr_all rfl) (by rfl) T.all (by decide +kernel) (pa_cons (pe_lc (own := [("value", 3)]) rfl sc_are_words.nd (show PI _ _ _ (iList K _) from pi_list (pv 0)) (blkOk_by (own := [("value", 3)]) (N := ["values", "least", "most", "value"]) (sc := defScope s_are_words) (by decide +kernel)) (fun _ _ _ _ _ => (pg_name (i := 3) sc_are_words.nd rfl (Or.inl rfl))) (fun _ _ _ _ _ => pts_nil) (fun _ _ _ _ _ => (pcl G_is_word hr (pa_cons (pv 3) pa_nil)))) pa_nil))))))) pss_never pss_nil)
  (pss_one (ps_ret (pe_cmpR op_eq (pe_callB call_lenTxs (by rfl) T.len (by decide +kernel) (pa_cons (pe_callTy (r := rSetS K P w) (cr_setS rfl) (by rfl) T.set (by decide +kernel) (pa_cons (pv 0) pa_nil)) pa_nil)) (pe_callB (r := rLenA K) call_len (by rfl) T.len (by decide +kernel) (pa_cons (pv 0) pa_nil)) (nomark _))))), ?_⟩
    refine Evl.q_when (b := false) (Evl.et_or (a := false) (b := false) (Evl.et_not (a := true) (Evl.et_test ?_)) fun _ => Evl.et_not (a := true) (Evl.et_B (ev_allT (el_lcA (Evl.ev_var rfl) hs (by rw [List.length_map]; omega) (fun _ => rfl) fun i x hx H2 e2 => ?_)))) (fun h => nomatch h) fun _ H1 e1 => Evl.s_ret (Evl.ev_is (Evl.ev_op (ev_lenSet (Evl.ev_var rfl) (.inl (Evl.ex_l e1 hs)) few) (ev_lenL (Evl.ev_var rfl) (.inl (Evl.ex_l e1 hs))) (Evl.rv_eq rfl)) ?_) fun H2 e2 => k H2 (e1.trans e2)
    · refine Evl.ev_is (ev_chain (Evl.ev_var rfl) (ev_lenL (Evl.ev_var rfl) (.inl hs)) (Evl.ev_var rfl) Evl.rv_I0 Evl.rv_I0) ?_
      rw [List.length_map, decide_eq_true hlo, decide_eq_true hhi]; rfl
    · obtain ⟨z, hz, rfl⟩ : ∃ z, xs[i]? = some z ∧ x = .str z := by
        rw [List.getElem?_map] at hx
        cases e : xs[i]? with
        | none => rw [e] at hx; cases hx
        | some z => rw [e] at hx; exact ⟨z, rfl, (Option.some.inj hx).symm⟩
      exact spV_ev (Evl.ea_cons (Evl.ev_var rfl) Evl.ea_nil) fun H3 _ => ⟨z, rfl, hw z (List.mem_of_getElem? hz)⟩
    · rw [met_nodup xs [] hn, List.length_map]; simp
theorem ok_are_wordsT (T : Txt K mg C_Shape C_SHAPES) (R : Prg K mg C_Shape C_SHAPES) : ∃ f fd, Fn P w K mg base "are_words" 2 ["values", "least", "most"] (spV (.bl true) (preWords true K)) f fd := by
  obtain ⟨_, _, G_is_word⟩ := ok_is_word (P := P) (w := w) (base := base) T R
  obtain ⟨f, fd, at_, F, kp⟩ := R.are_words
  refine ⟨f, fd, F.ok sc_are_words (fun vs H Q E h => ?_) (fun cdv A outer s H vs Q E hr h => ?_), at_, kp, F.binds (fun _ _ _ _ _ _ us hl => match us, hl with | [_, _, _], _ => rfl)⟩
  · obtain ⟨⟨a, xs, lo, hi, rfl, _⟩, _⟩ := h; rfl
  · obtain ⟨⟨a, xs, lo, hi, rfl, hs, few, hlo, hhi, hw, hn⟩, k⟩ := h
    have hs : SqT K H a (xs.map V.str) := hs
    refine ⟨_, (pss_cons (ps_if (PW.pt (pw_or (pt_not (pt_chain op_le op_le (pv 1) (pe_callB (r := rLenA K) call_len (by rfl) T.len (by decide +kernel) (pa_cons (pv 0) pa_nil)) (pv 2))) (pw_or1 (pt_not (pt_val (pe_callB (r := rAll K) (cr_all rfl) (by rfl) T.all (by decide +kernel) (pa_cons (pe_lc (own := [("value", 3)]) rfl sc_are_words.nd (show PI _ _ _ (iTup K _) from pi_tup (pv 0)) (blkOk_by (own := [("value", 3)]) (N := ["values", "least", "most", "value"]) (sc := defScope s_are_words) (by decide +kernel)) (fun _ _ _ _ _ => (pg_name (i := 3) sc_are_words.nd rfl (Or.inl rfl))) (fun _ _ _ _ _ => pts_nil) (fun _ _ _ _ _ => (pcl G_is_word hr (pa_cons (pv 3) pa_nil)))) pa_nil))))))) pss_never pss_nil)
  (pss_one (ps_ret (pe_cmpR op_eq (pe_callB call_lenTxs (by rfl) T.len (by decide +kernel) (pa_cons (pe_callTy (r := rSetS K P w) (cr_setS rfl) (by rfl) T.set (by decide +kernel) (pa_cons (pv 0) pa_nil)) pa_nil)) (pe_callB (r := rLenA K) call_len (by rfl) T.len (by decide +kernel) (pa_cons (pv 0) pa_nil)) (nomark _))))), ?_⟩
    refine Evl.q_when (b := false) (Evl.et_or (a := false) (b := false) (Evl.et_not (a := true) (Evl.et_test ?_)) fun _ => Evl.et_not (a := true) (Evl.et_B (ev_allT (el_lcT (Evl.ev_var rfl) hs (by rw [List.length_map]; omega) (fun _ => rfl) fun i x hx H2 e2 => ?_)))) (fun h => nomatch h) fun _ H1 e1 => Evl.s_ret (Evl.ev_is (Evl.ev_op (ev_lenSet (Evl.ev_var rfl) (.inr (Evl.ex_t e1 hs)) few) (ev_lenL (Evl.ev_var rfl) (.inr (Evl.ex_t e1 hs))) (Evl.rv_eq rfl)) ?_) fun H2 e2 => k H2 (e1.trans e2)
    · refine Evl.ev_is (ev_chain (Evl.ev_var rfl) (ev_lenL (Evl.ev_var rfl) (.inr hs)) (Evl.ev_var rfl) Evl.rv_I0 Evl.rv_I0) ?_
      rw [List.length_map, decide_eq_true hlo, decide_eq_true hhi]; rfl
    · obtain ⟨z, hz, rfl⟩ : ∃ z, xs[i]? = some z ∧ x = .str z := by
        rw [List.getElem?_map] at hx
        cases e : xs[i]? with
        | none => rw [e] at hx; cases hx
        | some z => rw [e] at hx; exact ⟨z, rfl, (Option.some.inj hx).symm⟩
      exact spV_ev (Evl.ea_cons (Evl.ev_var rfl) Evl.ea_nil) fun H3 _ => ⟨z, rfl, hw z (List.mem_of_getElem? hz)⟩
    · rw [met_nodup xs [] hn, List.length_map]; simp

/-! ### has_names, is_named -/
def preNames (K : PySem.W.Frag) : List V → Hp → Prop := fun vs H => ∃ (v : V) (a : Addr) (n : Nat) (S : Addr → Prop) (l : List (Str × D)) (ns : List Str), vs = [v, .ref a] ∧ Rep H n S (.dic l) v ∧ SqL K H a (ns.map V.str) ∧ ns.length ≤ 1000 ∧ l.length = ns.length ∧ ∀ x ∈ ns, (l.lookup x).isSome = true
theorem ok_has_names (T : Txt K mg C_Shape C_SHAPES) (R : Prg K mg C_Shape C_SHAPES) : ∃ f fd, Fn P w K mg base "has_names" 1 ["value", "names"] (spV (.bl true) (preNames K)) f fd := by
  obtain ⟨f, fd, at_, F, kp⟩ := R.has_names
  refine ⟨f, fd, F.ok sc_has_names (fun vs H Q E h => ?_) (fun cdv A outer s H vs Q E hr h => ?_), at_, kp, F.binds (fun _ _ _ _ _ _ us hl => match us, hl with | [_, _], _ => rfl)⟩
  · obtain ⟨⟨v, a, n, S, l, ns, rfl, _⟩, _⟩ := h; rfl
  · obtain ⟨⟨v, a, n, S, l, ns, rfl, hv, ha, hn, hl, hk⟩, k⟩ := h
    cases n with
    | zero => exact hv.elim
    | succ n =>
    obtain ⟨d, es, rfl, _, hd, _, pr⟩ := hv
    have le : es.length = ns.length := (pair_len pr).symm.trans hl
    refine ⟨_, (pss_one (ps_ret (pe_and (pe_callB (r := rIsi K) call_isi (by rfl) T.isinstance (by decide +kernel) (pa_cons (pv 0) (pa_cons (pe_bltn (v := .ty "dict") (by rfl) T.dict boot_dict rfl) pa_nil))) (pe_and (pe_cmpR op_eq (pe_callB call_lenD (by rfl) T.len (by decide +kernel) (pa_cons (pv 0) pa_nil)) (pe_callB (r := rLenA K) call_len (by rfl) T.len (by decide +kernel) (pa_cons (pv 1) pa_nil)) (nomark _)) (pe_one (pe_callB (r := rAll K) (cr_all rfl) (by rfl) T.all (by decide +kernel) (pa_cons (pe_lc (own := [("name", 2)]) rfl sc_has_names.nd (show PI _ _ _ (iList K _) from pi_list (pv 1)) (blkOk_by (own := [("name", 2)]) (N := ["value", "names", "name"]) (sc := defScope s_has_names) (by decide +kernel)) (fun _ _ _ _ _ => (pg_name (i := 2) sc_has_names.nd rfl (Or.inl rfl))) (fun _ _ _ _ _ => pts_nil) (fun _ _ _ _ _ => (pe_cmp (pc_din (hu_of hr) (pv 2) (pv 0)) rfl))) pa_nil))))))), ?_⟩
    refine Evl.s_ret (Evl.ev_is (Evl.ev_andV (a := true) (b := true) (ev_isi (Evl.ev_var rfl) (fun H1 e1 => .base (.dK (e1 _ _ hd))) (kit_ty (by decide +kernel))) fun _ => Evl.ev_is (Evl.ev_andV (a := true) (b := true) (Evl.ev_is (Evl.ev_op (ev_lenK (Evl.ev_var rfl) hd) (ev_lenL (Evl.ev_var rfl) (.inl ha)) (Evl.rv_eq rfl)) ?_) fun _ => ev_allT (el_lcA (Evl.ev_var rfl) ha (by rw [List.length_map]; omega) (fun _ => rfl) fun i x hx H2 e2 => ?_)) rfl) rfl) fun H2 e2 => k H2 e2
    · rw [List.length_map, le]; simp
    · obtain ⟨z, hz, rfl⟩ : ∃ z, ns[i]? = some z ∧ x = .str z := by
        rw [List.getElem?_map] at hx
        cases e : ns[i]? with
        | none => rw [e] at hx; cases hx
        | some z => rw [e] at hx; exact ⟨z, rfl, (Option.some.inj hx).symm⟩
      refine Evl.ev_is (ev_din (Evl.ev_var rfl) (Evl.ev_var rfl) (.inl (e2 _ _ hd))) ?_
      have q := hk z (List.mem_of_getElem? hz)
      cases e : l.lookup z with
      | none => rw [e] at q; cases q
      | some d0 =>
        obtain ⟨v0, hv0, _⟩ := pair_lk pr e
        rw [hv0]; rfl
def preNamed : List V → Hp → Prop := fun vs H => ∃ (v : V) (m : Int) (n : Nat) (S : Addr → Prop) (l : List (Str × D)), vs = [v, .int m] ∧ Rep H n S (.dic l) v ∧ (l.length : Int) ≤ m ∧ ∀ p ∈ l, isW p.1
theorem ok_is_named (T : Txt K mg C_Shape C_SHAPES) (R : Prg K mg C_Shape C_SHAPES) : ∃ f fd, Fn P w K mg base "is_named" 2 ["value", "most"] (spV (.bl true) preNamed) f fd := by
  obtain ⟨_, _, G_is_word⟩ := ok_is_word (P := P) (w := w) (base := base) T R
  obtain ⟨f, fd, at_, F, kp⟩ := R.is_named
  refine ⟨f, fd, F.ok sc_is_named (fun vs H Q E h => ?_) (fun cdv A outer s H vs Q E hr h => ?_), at_, kp, F.binds (fun _ _ _ _ _ _ us hl => match us, hl with | [_, _], _ => rfl)⟩
  · obtain ⟨⟨v, m, n, S, l, rfl, _⟩, _⟩ := h; rfl
  · obtain ⟨⟨v, m, n, S, l, rfl, hv, hm, hk⟩, k⟩ := h
    cases n with
    | zero => exact hv.elim
    | succ n =>
    obtain ⟨d, es, rfl, _, hd, h5, pr⟩ := hv
    have le : l.length = es.length := pair_len pr
    refine ⟨_, (pss_one (ps_ret (pe_and (pe_callB (r := rIsi K) call_isi (by rfl) T.isinstance (by decide +kernel) (pa_cons (pv 0) (pa_cons (pe_bltn (v := .ty "dict") (by rfl) T.dict boot_dict rfl) pa_nil))) (pe_and (pe_cmpR op_le (pe_callB call_lenD (by rfl) T.len (by decide +kernel) (pa_cons (pv 0) pa_nil)) (pv 1) (nomark _)) (pe_one (pe_callB (r := rAll K) (cr_all rfl) (by rfl) T.all (by decide +kernel) (pa_cons (pe_lock (pe_lc (own := [("key", 2)]) rfl sc_is_named.nd (pi_keys (pv 0)) (blkOk_by (own := [("key", 2)]) (N := ["value", "most", "key"]) (sc := defScope s_is_named) (by decide +kernel)) (fun _ _ _ _ _ => (pg_name (i := 2) sc_is_named.nd rfl (Or.inl rfl))) (fun _ _ _ _ _ => pts_nil) (fun _ _ _ _ _ => (pcl G_is_word hr (pa_cons (pv 2) pa_nil))))) pa_nil))))))), ?_⟩
    refine Evl.s_ret (Evl.ev_is (Evl.ev_andV (a := true) (b := true) (ev_isi (Evl.ev_var rfl) (fun H1 e1 => .base (.dK (e1 _ _ hd))) (kit_ty (by decide +kernel))) fun _ => Evl.ev_is (Evl.ev_andV (a := true) (b := true) (Evl.ev_is (Evl.ev_op (ev_lenK (Evl.ev_var rfl) hd) (Evl.ev_var rfl) Evl.rv_I0) ?_) fun _ => ev_allT (el_lcK (fun H1 => Evl.ev_var rfl) hd (by omega) (fun _ => rfl) fun i x v hx od H1 H2 e1 e2 => ?_)) rfl) rfl) fun H2 e2 => k H2 e2
    · rw [decide_eq_true (by omega : (es.length : Int) ≤ m)]
    · obtain ⟨p, hp, hx1, _⟩ := pair_back pr hx
      have hx1 : x = Sum.inr p.1 := hx1
      subst hx1
      exact spV_ev (Evl.ea_cons (Evl.ev_var rfl) Evl.ea_nil) fun H3 _ => ⟨p.1, rfl, hk p (List.mem_of_getElem? hp)⟩
end
end Pk

namespace Pk
open PySem PySem.Spec PyProof.Rows L2 Ssb
open Evl (Ex Ev EvT EvL EvA EvU)
/-! ### shapes as data -/
abbrev Fl := List (Str × List Str)
def flD (f : Fl) : D := .dic (f.map fun p => (p.1, .tup (p.2.map .str)))
def okFl (f : Fl) : Prop := f.length ≤ 2 ∧ (f.map (·.1)).Nodup ∧ ∀ p ∈ f, isW p.1 ∧ 2 ≤ p.2.length ∧ p.2.length ≤ 3 ∧ (∀ x ∈ p.2, isW x) ∧ p.2.Nodup
abbrev Sh := List (Str × Fl × List (Str × Fl))
def ls0 (d : D) (f : Fl) : Prop := ∃ l, d = .dic l ∧ l.length = 2 ∧ l.lookup ("fields" : Str) = some (flD f) ∧ l.lookup ("inner" : Str) = some (.dic [])
def ls1 (d : D) (f : Fl) (i : List (Str × Fl)) : Prop := ∃ l e, d = .dic l ∧ l.length = 2 ∧ l.lookup ("fields" : Str) = some (flD f) ∧ l.lookup ("inner" : Str) = some (.dic e) ∧ Paired (fun (p : Str × D) (q : Str × Fl) => p.1 = q.1 ∧ ls0 p.2 q.2) e i
def shD (d : D) (s : Sh) : Prop := ∃ l, d = .dic l ∧ Paired (fun (p : Str × D) (q : Str × Fl × List (Str × Fl)) => p.1 = q.1 ∧ ls1 p.2 q.2.1 q.2.2) l s
/-- the rows: a name, the name around it, the fields -/
abbrev Ro := Str × Option Str × Fl
def rowsOf (p : Str × Fl × List (Str × Fl)) : List Ro := (p.1, none, p.2.1) :: p.2.2.map fun q => (q.1, some p.1, q.2)
def rowsS (s : Sh) : List Ro := s.flatMap rowsOf
def okSh (s : Sh) : Prop := s.length ≤ 2 ∧ ((rowsS s).map (·.1)).Nodup ∧ ∀ p ∈ s, isW p.1 ∧ okFl p.2.1 ∧ p.2.2.length ≤ 1 ∧ ∀ q ∈ p.2.2, isW q.1 ∧ okFl q.2
def oV : Option Str → V
  | none => .non
  | some x => .str x
theorem rep_strs {H : Hp} {n : Nat} {S : Addr → Prop} : ∀ {ws : List Str} {xs : List V}, Paired (fun d x => Rep H n S d x) (ws.map D.str) xs → xs = ws.map V.str
  | [], _, .nil => rfl
  | y :: ws, _, .cons h t => by
    cases n with
    | zero => exact h.elim
    | succ n =>
    have h : _ = V.str y := h
    rw [rep_strs t, h]; rfl
theorem rep_words {H : Hp} {n : Nat} {S : Addr → Prop} {ws : List Str} {v : V} (h : Rep H n S (.tup (ws.map .str)) v) : ∃ a, v = .ref a ∧ H a = some (.tup (ws.map V.str)) := by
  cases n with
  | zero => exact h.elim
  | succ n =>
  obtain ⟨a, xs, e, ha, _, pr⟩ := h
  exact ⟨a, e, by rw [ha, rep_strs pr]⟩
/-- within a lock of d -/
theorem rep_in {H1 H2 : Hp} {n : Nat} {S : Addr → Prop} {x : D} {v : V} {d : Addr} {es : List (Key × V)} {u : HO} (hd : H1 d = some (.dK es)) (e2 : Ex (upd H1 d u) H2) (h : Rep H1 n (fun b => S b ∧ b ≠ d) x v) : Rep H2 n (fun b => S b ∧ b ≠ d) x v :=
  rep_ex e2 (rep_lock hd (fun _ z => z.2) h)
section
variable {P : Program} {w : World} {K : PySem.W.Frag} {mg : Str → Option Value} {base : Heap} {C_Shape C_SHAPES : Addr}
def preFields : List V → Hp → Prop := fun vs H => ∃ (v : V) (n : Nat) (S : Addr → Prop) (f : Fl), vs = [v] ∧ Rep H n S (flD f) v ∧ okFl f
theorem ok_are_fields (T : Txt K mg C_Shape C_SHAPES) (R : Prg K mg C_Shape C_SHAPES) : ∃ f fd, Fn P w K mg base "are_fields" 3 ["fields"] (spV (.bl true) preFields) f fd := by
  obtain ⟨_, _, G_is_named⟩ := ok_is_named (P := P) (w := w) (base := base) T R
  obtain ⟨_, _, G_are_words⟩ := ok_are_wordsT (P := P) (w := w) (base := base) T R
  obtain ⟨f, fd, at_, F, kp⟩ := R.are_fields
  refine ⟨f, fd, F.ok sc_are_fields (fun vs H Q E h => ?_) (fun cdv A outer s H vs Q E hr h => ?_), at_, kp, F.binds (fun _ _ _ _ _ _ us hl => match us, hl with | [_], _ => rfl)⟩
  · obtain ⟨⟨v, n, S, f, rfl, _⟩, _⟩ := h; rfl
  · obtain ⟨⟨v, n, S, f, rfl, hv, h2, hnd, hf⟩, k⟩ := h
    cases n with
    | zero => exact hv.elim
    | succ n =>
    obtain ⟨d, es, rfl, _, hd, h5, pr⟩ := id hv
    have le : f.length = es.length := by rw [← pair_len pr, List.length_map]
    refine ⟨_, (pss_cons (ps_if (pt_not (pt_val (pcl G_is_named hr (pa_cons (pv 0) (pa_cons pe_int pa_nil))))) pss_never pss_nil)
  (pss_one (ps_ret (pe_callB (r := rAll K) (cr_all rfl) (by rfl) T.all (by decide +kernel) (pa_cons (pe_lock (pe_lc (own := [("words", 1)]) rfl sc_are_fields.nd (pi_values (pv 0)) (blkOk_by (own := [("words", 1)]) (N := ["fields", "words"]) (sc := defScope s_are_fields) (by decide +kernel)) (fun _ _ _ _ _ => (pg_name (i := 1) sc_are_fields.nd rfl (Or.inl rfl))) (fun _ _ _ _ _ => pts_nil) (fun _ _ _ _ _ => (pe_and (pe_callB (r := rIsi K) call_isi (by rfl) T.isinstance (by decide +kernel) (pa_cons (pv 1) (pa_cons (pe_bltn (v := .ty "tuple") (by rfl) T.tuple boot_tuple rfl) pa_nil))) (pe_one (pcl G_are_words hr (pa_cons (pv 1) (pa_cons pe_int (pa_cons pe_int pa_nil))))))))) pa_nil))))), ?_⟩
    refine Evl.q_when (b := false) (Evl.et_not (a := true) (Evl.et_B (spV_ev (Evl.ea_cons (Evl.ev_var rfl) (Evl.ea_cons Evl.ev_c Evl.ea_nil)) fun H1 e1 => ⟨_, 2, n + 1, S, _, rfl, rep_ex e1 hv, by rw [List.length_map]; omega, fun p hp => ?_⟩))) (fun h => nomatch h) fun _ H1 e1 => Evl.s_ret (ev_allT (el_lcV (fun _ _ _ => Evl.ev_var rfl) (e1 _ _ hd) (by omega) (fun _ => rfl) fun i x v hx od H2 H3 e2 e3 => ?_)) fun H2 e2 => k H2 (e1.trans e2)
    · obtain ⟨q, hq, rfl⟩ := List.mem_map.mp hp
      exact (hf q hq).1
    · obtain ⟨p, hp, _, hr1⟩ := pair_back pr hx
      rw [List.getElem?_map] at hp
      cases ef : f[i]? with
      | none => rw [ef] at hp; cases hp
      | some q =>
        rw [ef] at hp
        cases hp
        obtain ⟨_, ha2, ha3, hw, hn⟩ := hf q (List.mem_of_getElem? ef)
        obtain ⟨a, rfl, ha⟩ := rep_words (rep_in ((e1.trans e2) _ _ hd) e3 (rep_ex (e1.trans e2) hr1))
        exact Evl.ev_is (Evl.ev_andV (a := true) (b := true) (ev_isi (Evl.ev_var rfl) (fun H4 e4 => .base (.tup (e4 _ _ ha))) (kit_ty (by decide +kernel))) fun _ => spV_ev (Evl.ea_cons (Evl.ev_var rfl) (Evl.ea_cons Evl.ev_c (Evl.ea_cons Evl.ev_c Evl.ea_nil))) fun H4 e4 => ⟨a, q.2, 2, 3, rfl, Evl.st_of (e4 _ _ ha), by omega, by omega, by omega, hw, hn⟩) rfl
def preLs : List V → Hp → Prop := fun vs H => ∃ (v : V) (m : Int) (n : Nat) (S : Addr → Prop) (l : List (Str × D)), vs = [v, .int m] ∧ Rep H n S (.dic l) v ∧ (l.length : Int) ≤ m ∧ ∀ p ∈ l, isW p.1 ∧ ∃ l', p.2 = .dic l' ∧ l'.length = 2 ∧ (l'.lookup ("fields" : Str)).isSome = true ∧ (l'.lookup ("inner" : Str)).isSome = true
theorem ok_are_list_shapes (T : Txt K mg C_Shape C_SHAPES) (R : Prg K mg C_Shape C_SHAPES) : ∃ f fd, Fn P w K mg base "are_list_shapes" 3 ["lists", "most"] (spV (.bl true) preLs) f fd := by
  obtain ⟨_, _, G_is_named⟩ := ok_is_named (P := P) (w := w) (base := base) T R
  obtain ⟨_, _, G_has_names⟩ := ok_has_names (P := P) (w := w) (base := base) T R
  obtain ⟨f, fd, at_, F, kp⟩ := R.are_list_shapes
  refine ⟨f, fd, F.ok sc_are_list_shapes (fun vs H Q E h => ?_) (fun cdv A outer s H vs Q E hr h => ?_), at_, kp, F.binds (fun _ _ _ _ _ _ us hl => match us, hl with | [_, _], _ => rfl)⟩
  · obtain ⟨⟨v, m, n, S, l, rfl, _⟩, _⟩ := h; rfl
  · obtain ⟨⟨v, m, n, S, l, rfl, hv, hm, hl⟩, k⟩ := h
    cases n with
    | zero => exact hv.elim
    | succ n =>
    obtain ⟨d, es, rfl, _, hd, h5, pr⟩ := id hv
    have le : l.length = es.length := pair_len pr
    refine ⟨_, (pss_cons (ps_if (pt_not (pt_val (pcl G_is_named hr (pa_cons (pv 0) (pa_cons (pv 1) pa_nil))))) pss_never pss_nil)
  (pss_one (ps_ret (pe_callB (r := rAll K) (cr_all rfl) (by rfl) T.all (by decide +kernel) (pa_cons (pe_lock (pe_lc (own := [("one", 2)]) rfl sc_are_list_shapes.nd (pi_values (pv 0)) (blkOk_by (own := [("one", 2)]) (N := ["lists", "most", "one"]) (sc := defScope s_are_list_shapes) (by decide +kernel)) (fun _ _ _ _ _ => (pg_name (i := 2) sc_are_list_shapes.nd rfl (Or.inl rfl))) (fun _ _ _ _ _ => pts_nil) (fun _ _ _ _ _ => (pcl G_has_names hr (pa_cons (pv 2) (pa_cons (pe_lst (pa_cons pe_str (pa_cons pe_str pa_nil))) pa_nil)))))) pa_nil))))), ?_⟩
    refine Evl.q_when (b := false) (Evl.et_not (a := true) (Evl.et_B (spV_ev (Evl.ea_cons (Evl.ev_var rfl) (Evl.ea_cons (Evl.ev_var rfl) Evl.ea_nil)) fun H1 e1 => ⟨_, m, n + 1, S, l, rfl, rep_ex e1 hv, hm, fun p hp => (hl p hp).1⟩))) (fun h => nomatch h) fun _ H1 e1 => Evl.s_ret (ev_allT (el_lcV (fun _ _ _ => Evl.ev_var rfl) (e1 _ _ hd) (by omega) (fun _ => rfl) fun i x v hx od H2 H3 e2 e3 => ?_)) fun H2 e2 => k H2 (e1.trans e2)
    obtain ⟨p, hp, _, hr1⟩ := pair_back pr hx
    obtain ⟨_, l', e', hl', hf', hi'⟩ := hl p (List.mem_of_getElem? hp)
    rw [e'] at hr1
    refine ev_fnL (Evl.ev_var rfl) (Evl.el_lst (Evl.ea_cons Evl.ev_c (Evl.ea_cons Evl.ev_c Evl.ea_nil)) (by decide)) fun a H4 e4 ha Q q => ⟨⟨v, a, n, _, l', ["fields", "inner"], rfl, rep_ex e4 (rep_in ((e1.trans e2) _ _ hd) e3 (rep_ex (e1.trans e2) hr1)), Evl.sq_of ha, by decide, hl', fun z hz => ?_⟩, q⟩
    rcases List.mem_cons.mp hz with rfl | hz
    · exact hf'
    · rw [List.mem_singleton.mp hz]; exact hi'
theorem ls0_in {l : List (Str × D)} {i : List (Str × Fl)} (pr : Paired (fun (p : Str × D) (q : Str × Fl) => p.1 = q.1 ∧ ls0 p.2 q.2) l i) (hw : ∀ q ∈ i, isW q.1) : ∀ p ∈ l, isW p.1 ∧ ∃ l', p.2 = .dic l' ∧ l'.length = 2 ∧ (l'.lookup ("fields" : Str)).isSome = true ∧ (l'.lookup ("inner" : Str)).isSome = true := fun p hp => by
  obtain ⟨j, hj, ej⟩ := List.mem_iff_getElem.mp hp
  obtain ⟨q, hq, e1, l', e2, h2, h3, h4⟩ := pair_at pr (i := j) (a := p) (by rw [← ej]; exact List.getElem?_eq_getElem hj)
  exact ⟨e1 ▸ hw q (List.mem_of_getElem? hq), l', e2, h2, by rw [h3]; rfl, by rw [h4]; rfl⟩
theorem ls1_in {l : List (Str × D)} {s : Sh} (pr : Paired (fun (p : Str × D) (q : Str × Fl × List (Str × Fl)) => p.1 = q.1 ∧ ls1 p.2 q.2.1 q.2.2) l s) (hw : ∀ q ∈ s, isW q.1) : ∀ p ∈ l, isW p.1 ∧ ∃ l', p.2 = .dic l' ∧ l'.length = 2 ∧ (l'.lookup ("fields" : Str)).isSome = true ∧ (l'.lookup ("inner" : Str)).isSome = true := fun p hp => by
  obtain ⟨j, hj, ej⟩ := List.mem_iff_getElem.mp hp
  obtain ⟨q, hq, e1, l', e, e2, h2, h3, h4, _⟩ := pair_at pr (i := j) (a := p) (by rw [← ej]; exact List.getElem?_eq_getElem hj)
  exact ⟨e1 ▸ hw q (List.mem_of_getElem? hq), l', e2, h2, by rw [h3]; rfl, by rw [h4]; rfl⟩
/-- an entry of a dict of data -/
theorem rep_entry {H : Hp} {n : Nat} {S : Addr → Prop} {l : List (Str × D)} {k : Str} {d : D} {a : Addr} {es : List (Key × V)} (pr : Paired (fun (q : Str × D) (e : Key × V) => e.1 = Sum.inr q.1 ∧ Rep H n (fun b => S b ∧ b ≠ a) q.2 e.2) l es) (hk : l.lookup k = some d) :
    ∃ v, valV es (Sum.inr k : Key) = some v ∧ Rep H n (fun b => S b ∧ b ≠ a) d v := pair_lk (F := fun d v => Rep H n (fun b => S b ∧ b ≠ a) d v) pr hk
def preLists : List V → Hp → Prop := fun vs H => ∃ (v : V) (n : Nat) (S : Addr → Prop) (d : D) (s : Sh), vs = [v] ∧ Rep H n S d v ∧ shD d s ∧ okSh s
theorem ok_are_lists (T : Txt K mg C_Shape C_SHAPES) (R : Prg K mg C_Shape C_SHAPES) : ∃ f fd, Fn P w K mg base "are_lists" 4 ["lists"] (spV (.bl true) preLists) f fd := by
  obtain ⟨_, _, G_are_list_shapes⟩ := ok_are_list_shapes (P := P) (w := w) (base := base) T R
  obtain ⟨f, fd, at_, F, kp⟩ := R.are_lists
  refine ⟨f, fd, F.ok sc_are_lists (fun vs H Q E h => ?_) (fun cdv A outer s H vs Q E hr h => ?_), at_, kp, F.binds (fun _ _ _ _ _ _ us hl => match us, hl with | [_], _ => rfl)⟩
  · obtain ⟨⟨v, n, S, d, s, rfl, _⟩, _⟩ := h; rfl
  · obtain ⟨⟨v, n, S, _, z, rfl, hv, ⟨l, rfl, ps⟩, hz2, hznd, hz⟩, k⟩ := h
    cases n with
    | zero => exact hv.elim
    | succ n =>
    obtain ⟨d, es, rfl, _, hd, h5, pr⟩ := id hv
    have le : l.length = es.length := pair_len pr
    have lz : l.length = z.length := pair_len ps
    refine ⟨_, (pss_cons (ps_if (pt_not (pt_val (pcl G_are_list_shapes hr (pa_cons (pv 0) (pa_cons pe_int pa_nil))))) pss_never pss_nil)
  (pss_cons (ps_lock (ps_for PassesOwn.never rfl (pi_values (pv 0)) (pg_name (i := 1) sc_are_lists.nd rfl (Or.inl rfl))
    (pss_cons (ps_if (pt_not (pt_val (pcl G_are_list_shapes hr (pa_cons (pe_dget (hu_of hr) (pv 1) pe_str (fun _ _ => rfl)) (pa_cons pe_int pa_nil))))) pss_never pss_nil)
  (pss_one (ps_if (pt_not (pt_val (pe_callB (r := rAll K) (cr_all rfl) (by rfl) T.all (by decide +kernel) (pa_cons (pe_lock (pe_lc (own := [("inner", 2)]) rfl sc_are_lists.nd (pi_values (pe_dget (hu_of hr) (pv 1) pe_str (fun _ _ => rfl))) (blkOk_by (own := [("inner", 2)]) (N := ["lists", "outer", "inner"]) (sc := defScope s_are_lists) (by decide +kernel)) (fun _ _ _ _ _ => (pg_name (i := 2) sc_are_lists.nd rfl (Or.inl rfl))) (fun _ _ _ _ _ => pts_nil) (fun _ _ _ _ _ => (pcl G_are_list_shapes hr (pa_cons (pe_dget (hu_of hr) (pv 2) pe_str (fun _ _ => rfl)) (pa_cons pe_int pa_nil)))))) pa_nil)))) pss_never pss_nil)))))
  (pss_one (ps_ret pe_bl)))), ?_⟩
    refine Evl.q_when (b := false) (Evl.et_not (a := true) (Evl.et_B (spV_ev (Evl.ea_cons (Evl.ev_var rfl) (Evl.ea_cons Evl.ev_c Evl.ea_nil)) fun H1 e1 => ⟨_, 2, n + 1, S, l, rfl, rep_ex e1 hv, by omega, ls1_in ps fun q hq => (hz q hq).1⟩))) (fun h => nomatch h) fun _ H1 e1 => ?_
    have hd1 := e1 _ _ hd
    refine for_lock (J := fun od => Itd d od es) (xs := fun _ => none) hd1 (fun od R r => ⟨_, rfl, d, od, es, rfl, upd_same, r⟩) (fun od => walk_values) (fun od i σ' H' => ∃ o1, σ' = [some (.ref d), o1, none] ∧ Ex (upd H1 d (.frz od (.dK es))) H') (fun od => ⟨_, rfl, Ex.refl _⟩) (fun od i σ' H' _ ⟨_, _, e⟩ => e _ _ upd_same) (fun od i x σ' H' H2 hi ⟨o1, eσ, e⟩ y => ?_) fun od σ' H' ⟨_, _, e⟩ => k _ (e1.trans (unlock hd1 e))
    subst eσ
    obtain ⟨rfl, key, hx⟩ := y
    obtain ⟨p, hp, _, hr1⟩ := pair_back pr hx
    obtain ⟨q, hq, _, l1, e', ep, _, _, hin, pi⟩ := pair_at ps hp
    obtain ⟨_, _, hq1, hqw⟩ := hz q (List.mem_of_getElem? hq)
    rw [ep] at hr1
    have hr2 := rep_in hd1 e (rep_ex e1 hr1)
    cases n with
    | zero => exact hr2.elim
    | succ n =>
    obtain ⟨de, ee, rfl, ⟨_, nde⟩, hde, _, pe⟩ := id hr2
    obtain ⟨vi, hvi, hri⟩ := rep_entry pe hin
    refine Evl.q_when (b := false) (Evl.et_not (a := true) (Evl.et_B (spV_ev (Evl.ea_cons (ev_get (Evl.ev_var rfl) Evl.ev_c (.inl hde) hvi) (Evl.ea_cons Evl.ev_c Evl.ea_nil)) fun H4 e4 => ⟨_, 1, n, _, e', rfl, rep_ex e4 hri, by rw [pair_len pi]; omega, ls0_in pi fun q' hq' => (hqw q' hq').1⟩))) (fun h => nomatch h) fun _ H4 e4 => ?_
    cases n with
    | zero => exact hri.elim
    | succ n =>
    obtain ⟨di, ei, rfl, ⟨_, ndi⟩, hdi, hl5, pri⟩ := id hri
    have le' := pair_len pri
    refine Evl.s_when (b := false) (Evl.et_not (a := true) (Evl.et_B (ev_allT (el_lcV (fun H5 e5 od' => ?_) (e4 _ _ hdi) (by omega) (fun _ => rfl) fun i' x' v' hx' od' H5 H6 e5 e6 => ?_)))) (fun h => nomatch h) fun _ H5 e5 => ⟨_, rfl, e.trans (e4.trans e5)⟩
    · exact ev_get (Evl.ev_var rfl) Evl.ev_c (.inl (by rw [upd_ne ndi.symm]; exact (e4.trans e5) _ _ hde)) hvi
    · obtain ⟨p', hp', _, hr'⟩ := pair_back pri hx'
      obtain ⟨q', hq', _, l2, ep2, _, _, hin2⟩ := pair_at pi hp'
      rw [ep2] at hr'
      have hr3 := rep_in ((e4.trans e5) _ _ hdi) e6 (rep_ex (e4.trans e5) hr')
      cases n with
      | zero => exact hr3.elim
      | succ n =>
      obtain ⟨dj, ej, rfl, _, hdj, _, pj⟩ := id hr3
      obtain ⟨vj, hvj, hrj⟩ := rep_entry pj hin2
      exact spV_ev (Evl.ea_cons (ev_get (Evl.ev_var rfl) Evl.ev_c (.inl hdj) hvj) (Evl.ea_cons Evl.ev_c Evl.ea_nil)) fun H7 e7 => ⟨_, 0, n, _, [], rfl, rep_ex e7 hrj, by decide, fun _ hm => nomatch hm⟩
end
end Pk

namespace Pk
open PySem PySem.Spec PyProof.Rows L2 Ssb
open Evl (Ex Ev EvT EvL EvA EvU)
/-- a row's tuple at H', its fields as they stand at H -/
def RowAt (H H' : Hp) (n : Nat) (S : Addr → Prop) (r : Ro) (x : V) : Prop := ∃ a fv, x = .ref a ∧ H' a = some (.tup [.str r.1, oV r.2.1, fv]) ∧ Rep H n S (flD r.2.2) fv
theorem rowAt_to {H H' H2 : Hp} {n : Nat} {S : Addr → Prop} {r : Ro} {x : V} (k : ∀ a xs, H' a = some (.tup xs) → H2 a = some (.tup xs)) (h : RowAt H H' n S r x) : RowAt H H2 n S r x := by
  obtain ⟨a, fv, e, ha, hr⟩ := h; exact ⟨a, fv, e, k a _ ha, hr⟩
theorem ex_tup {H H' : Hp} (e : Ex H H') : ∀ a xs, H a = some (.tup xs) → H' a = some (.tup xs) := fun a xs h => e a _ h
theorem upd_tup {H : Hp} {d : Addr} {o u : HO} (hd : H d = some o) (no : ∀ xs, o ≠ .tup xs) : ∀ a xs, H a = some (.tup xs) → (upd H d u) a = some (.tup xs) := fun a xs h => by
  by_cases e : a = d
  · subst e; rw [hd] at h; exact absurd (Option.some.inj h) (no xs)
  · rw [upd_ne e]; exact h
section
variable {P : Program} {w : World} {K : PySem.W.Frag} {mg : Str → Option Value} {base : Heap} {C_Shape C_SHAPES : Addr}
def spRows : Sp := fun vs H Q _ => ∃ (v : V) (n : Nat) (S : Addr → Prop) (d : D) (s : Sh), vs = [v] ∧ Rep H n S d v ∧ shD d s ∧ okSh s ∧
  ∀ H' p xs, Ex H H' → H p = none → H' p = some (.lst xs) → Paired (RowAt H H' n S) (rowsS s) xs → Q (.ref p) H'
theorem ok_list_rows (T : Txt K mg C_Shape C_SHAPES) (R : Prg K mg C_Shape C_SHAPES) : ∃ f fd, Fn P w K mg base "list_rows" 1 ["lists"] spRows f fd := by
  obtain ⟨f, fd, at_, F, kp⟩ := R.list_rows
  refine ⟨f, fd, F.ok sc_list_rows (fun vs H Q E h => ?_) (fun cdv A outer s H vs Q E hr h => ?_), at_, kp, F.binds (fun _ _ _ _ _ _ us hl => match us, hl with | [_], _ => rfl)⟩
  · obtain ⟨v, n, S, d, s, rfl, _⟩ := h; rfl
  · obtain ⟨v, n0, S, _, z, rfl, hv, ⟨l, rfl, ps⟩, ⟨hz2, hznd, hz⟩, k⟩ := h
    cases n0 with
    | zero => exact hv.elim
    | succ n =>
    obtain ⟨d, es, rfl, _, hd, h5, pr⟩ := id hv
    have le : l.length = es.length := pair_len pr
    have lz : l.length = z.length := pair_len ps
    refine ⟨_, (pss_cons (ps_set (i := 1) sc_list_rows.nd rfl (Or.inl rfl) (pe_lst pa_nil))
  (pss_cons (ps_lock (ps_for PassesOwn.never rfl (pi_items (pv 0)) (show PG _ _ (gTup K 2 _) from pg_tup (n := 2) rfl (pgs_cons (pg_name (i := 2) sc_list_rows.nd rfl (Or.inl rfl)) (pgs_cons (pg_name (i := 3) sc_list_rows.nd rfl (Or.inl rfl)) pgs_nil)))
    (pss_cons (ps_expr (show PE _ _ (tBM K _ _ _ _) from pe_bm PySem.F.plainAttrs_list PySem.F.slot_list_append PySem.F.type_list_append mt_append (pv 1) (pa_cons (pe_tup (pa_cons (pv 2) (pa_cons pe_non (pa_cons (pe_dget (hu_of hr) (pv 3) pe_str (fun _ _ => rfl)) pa_nil)))) pa_nil)))
  (pss_one (ps_lock (ps_for PassesOwn.never rfl (pi_items (pe_dget (hu_of hr) (pv 3) pe_str (fun _ _ => rfl))) (show PG _ _ (gTup K 2 _) from pg_tup (n := 2) rfl (pgs_cons (pg_name (i := 4) sc_list_rows.nd rfl (Or.inl rfl)) (pgs_cons (pg_name (i := 5) sc_list_rows.nd rfl (Or.inl rfl)) pgs_nil)))
    (pss_one (ps_expr (show PE _ _ (tBM K _ _ _ _) from pe_bm PySem.F.plainAttrs_list PySem.F.slot_list_append PySem.F.type_list_append mt_append (pv 1) (pa_cons (pe_tup (pa_cons (pv 4) (pa_cons (pv 2) (pa_cons (pe_dget (hu_of hr) (pv 5) pe_str (fun _ _ => rfl)) pa_nil)))) pa_nil))))))))))
  (pss_one (ps_ret (pv 1))))), ?_⟩
    refine Evl.q_asgL (Evl.el_lst Evl.ea_nil (by decide)) fun r H1 hr0 e1 hr1 => ?_
    have hd1 := e1 _ _ hd
    have ndr : r ≠ d := fun e => by rw [e, hd] at hr0; cases hr0
    refine for_lock (J := fun od => Iti d od es) (xs := fun _ => none) hd1 (fun od G g => ⟨_, rfl, d, od, es, rfl, upd_same, g⟩) (fun od => walk_items)
      (fun od i σ' H' => ∃ x2 x3 x4 x5 acc, σ' = [some (.ref d), some (.ref r), x2, x3, x4, x5] ∧ Ex (upd H d (.frz od (.dK es))) H' ∧ H' r = some (.lst acc) ∧ acc.length ≤ 2 * i ∧ Paired (RowAt H H' (n + 1) S) (rowsS (z.take i)) acc)
      (fun od => ⟨_, _, _, _, [], rfl, fun a o ha => ?_, by rw [upd_ne ndr]; exact hr1, Nat.zero_le _, .nil⟩) (fun od i σ' H' _ ⟨_, _, _, _, _, _, e, _⟩ => e _ _ upd_same) (fun od i x σ' H' H2 hi ⟨x2, x3, x4, x5, acc, eσ, e, hacc, hlen, hrows⟩ y => ?_) fun od σ' H' ⟨x2, x3, x4, x5, acc, eσ, e, hacc, hlen, hrows⟩ => ?_
    · by_cases ed : a = d
      · subst ed; rw [upd_same] at ha ⊢; exact ha
      · rw [upd_ne ed] at ha ⊢; exact e1 a o ha
    · subst eσ
      obtain ⟨Tp, x1, v1, rfl, nT, rfl, hx1, hv1⟩ := y
      have hx1 : Option.map (fun kv : Key × V => kV kv.1) es[i]? = some x1 := hx1
      have hv1 : Option.map Prod.snd es[i]? = some v1 := hv1
      cases hes : es[i]? with
      | none => rw [hes] at hx1; cases hx1
      | some kv =>
      rw [hes] at hx1 hv1
      obtain ⟨key, vv⟩ := kv
      obtain ⟨p, hp, hk1, hr2⟩ := pair_back pr hes
      obtain ⟨q, hq, ek, l1, e', ep, _, hfl, hin, pi⟩ := pair_at ps hp
      obtain ⟨_, _, hq1, hqw⟩ := hz q (List.mem_of_getElem? hq)
      have hk1 : key = Sum.inr p.1 := hk1
      have ex1 : x1 = .str q.1 := by rw [← ek, ← Option.some.inj hx1, hk1]; rfl
      have ev1 : vv = v1 := Option.some.inj hv1
      subst ex1; subst ev1
      rw [ep] at hr2
      cases n with
      | zero => exact hr2.elim
      | succ n =>
      obtain ⟨de, ee, hde0, ⟨_, nde⟩, hde, _, pe⟩ := id hr2
      have hde0 : vv = .ref de := hde0
      subst hde0
      obtain ⟨vf, hvf, hrf⟩ := rep_entry pe hfl
      obtain ⟨vi, hvi, hri⟩ := rep_entry pe hin
      have step : ∀ {Hx : Hp}, Ex H' Hx → ∀ {a : Addr} {o : HO}, H a = some o → a ≠ d → Hx a = some o := fun ex a o ha hne => ex a o (e a o (by rw [upd_ne hne]; exact ha))
      have nTr : Tp ≠ r := fun z => by rw [z, hacc] at nT; cases nT
      refine ⟨Tp, [.str q.1, .ref de], rfl, Evl.st_of upd_same, rfl, _, _, rfl, _, _, rfl, rfl, ?_⟩
      have eT : Ex H' (upd H' Tp (.tup [.str q.1, .ref de])) := Ex.new nT
      refine Evl.q_appU (l := r) (eT _ _ hacc) (Evl.ev_var rfl) (Evl.eu_tup (Evl.ea_cons (Evl.ev_var rfl) (Evl.ea_cons Evl.ev_c (Evl.ea_cons (ev_get (Evl.ev_var rfl) Evl.ev_c (.inl (step eT hde nde)) hvf) Evl.ea_nil))) (by show 3 ≤ 100000; decide)) (by omega) fun tp H3 htp0 e3 htp => ?_
      have htr : tp ≠ r := fun z => by rw [z, eT _ _ hacc] at htp0; cases htp0
      have er0 : H r = none := hr0
      cases n with
      | zero => exact hri.elim
      | succ n =>
      obtain ⟨di, ei, hdi0, ⟨⟨_, ndi⟩, ndie⟩, hdi, hl5, pri⟩ := id hri
      have ndir : di ≠ r := fun z => by rw [z, er0] at hdi; cases hdi
      subst hdi0
      -- the heap behind the first append
      have e4 : Ex (upd H d (.frz od (.dK es))) (upd H3 r (.lst (acc ++ [.ref tp]))) := by
        refine Ex.mut (e.trans (eT.trans e3)) ?_
        rw [upd_ne ndr]; exact er0
      have hdi4 : (upd H3 r (.lst (acc ++ [.ref tp]))) di = some (.dK ei) := e4 _ _ (by rw [upd_ne ndi]; exact hdi)
      have hde4 : (upd H3 r (.lst (acc ++ [.ref tp]))) de = some (.dK ee) := e4 _ _ (by rw [upd_ne nde]; exact hde)
      have rows4 : Paired (RowAt H (upd H3 r (.lst (acc ++ [.ref tp]))) (n + 1 + 1 + 1) S) (rowsS (z.take i) ++ [(q.1, none, q.2.1)]) (acc ++ [.ref tp]) := by
        have tt : ∀ a xs, H3 a = some (.tup xs) → (upd H3 r (.lst (acc ++ [.ref tp]))) a = some (.tup xs) := upd_tup (e3 _ _ (eT _ _ hacc)) (fun xs h => nomatch h)
        refine pair_snoc (pair_imp hrows fun a b h => rowAt_to (fun a xs h => tt a xs (e3 _ _ (eT _ _ h))) h) ⟨tp, vf, rfl, tt _ _ htp, rep_up (rep_up (rep_S (fun b hb => hb.1.1) hrf))⟩
      have lei := pair_len pri
      have lepi := pair_len pi
      refine for_lock (J := fun od2 => Iti di od2 ei) (xs := fun _ => none) hdi4 (fun od2 G g => ⟨.ref de, rfl, de, .ref di, rfl, .inl ⟨ee, Sum.inr "inner", .inl (by rw [upd_ne ndie.symm]; exact hde4), rfl, hvi.symm⟩, di, od2, ei, rfl, upd_same, g⟩) (fun od2 => walk_items)
        (fun od2 j σ' H5 => ∃ y4 y5 acc2, σ' = [some (.ref d), some (.ref r), some (.str q.1), some (.ref de), y4, y5] ∧ Ex (upd (upd H d (.frz od (.dK es))) di (.frz od2 (.dK ei))) H5 ∧ H5 r = some (.lst acc2) ∧ acc2.length ≤ 2 * i + 1 + j ∧ Paired (RowAt H H5 (n + 1 + 1 + 1) S) (rowsS (z.take i) ++ (q.1, none, q.2.1) :: (q.2.2.take j).map fun g => (g.1, some q.1, g.2)) acc2)
        (fun od2 => ?_) (fun od2 j σ' H5 _ ⟨_, _, _, _, e5, _⟩ => e5 _ _ upd_same) (fun od2 j x σ' H5 H6 hj ⟨y4, y5, acc2, eσ, e5, hacc2, hlen2, hrows2⟩ y => ?_) fun od2 σ' H5 ⟨y4, y5, acc2, eσ, e5, hacc2, hlen2, hrows2⟩ => ?_
      · -- ahead of the inner loop
        refine ⟨_, _, acc ++ [.ref tp], rfl, fun a o ha => ?_, by rw [upd_ne ndir.symm, upd_same], by rw [List.length_append, List.length_singleton]; omega, pair_imp rows4 fun a b h => rowAt_to (upd_tup hdi4 (fun xs h => nomatch h)) h⟩
        by_cases ed : a = di
        · subst ed; rw [upd_same] at ha ⊢; exact ha
        · rw [upd_ne ed] at ha ⊢; exact e4 a o ha
      · -- a turn of the inner loop
        subst eσ
        obtain ⟨Tq, x1, v1, rfl, nT2, rfl, hx1, hv1⟩ := y
        have hx1 : Option.map (fun kv : Key × V => kV kv.1) ei[j]? = some x1 := hx1
        have hv1 : Option.map Prod.snd ei[j]? = some v1 := hv1
        cases hei : ei[j]? with
        | none => rw [hei] at hx1; cases hx1
        | some kv =>
        rw [hei] at hx1 hv1
        obtain ⟨key, vv⟩ := kv
        obtain ⟨p2, hp2, hk2, hr3⟩ := pair_back pri hei
        obtain ⟨q2, hq2, ek2, l2, ep2, _, hfl2, _⟩ := pair_at pi hp2
        have hk2 : key = Sum.inr p2.1 := hk2
        have ex2 : x1 = .str q2.1 := by rw [← ek2, ← Option.some.inj hx1, hk2]; rfl
        have ev2 : vv = v1 := Option.some.inj hv1
        subst ex2; subst ev2
        rw [ep2] at hr3
        cases n with
        | zero => exact hr3.elim
        | succ n =>
        obtain ⟨dj, ej, hdj0, ⟨⟨⟨_, ndj⟩, ndje⟩, ndji⟩, hdj, _, pj⟩ := id hr3
        have hdj0 : vv = .ref dj := hdj0
        subst hdj0
        obtain ⟨vg, hvg, hrg⟩ := rep_entry pj hfl2
        refine ⟨Tq, [.str q2.1, .ref dj], rfl, Evl.st_of upd_same, rfl, _, _, rfl, _, _, rfl, rfl, ?_⟩
        have eT2 : Ex H5 (upd H5 Tq (.tup [.str q2.1, .ref dj])) := Ex.new nT2
        refine Evl.s_appU (l := r) (eT2 _ _ hacc2) (Evl.ev_var rfl) (Evl.eu_tup (Evl.ea_cons (Evl.ev_var rfl) (Evl.ea_cons (Evl.ev_var rfl) (Evl.ea_cons (ev_get (Evl.ev_var rfl) Evl.ev_c (.inl (eT2 _ _ (e5 _ _ (by rw [upd_ne ndji, upd_ne ndj]; exact hdj)))) hvg) Evl.ea_nil))) (by show 3 ≤ 100000; decide)) (by omega) fun tq H7 htq0 e7 htq => ?_
        have r5 : (upd (upd H d (.frz od (.dK es))) di (.frz od2 (.dK ei))) r = none := by rw [upd_ne ndir.symm, upd_ne ndr]; exact er0
        refine ⟨_, _, acc2 ++ [.ref tq], rfl, Ex.mut (e5.trans (eT2.trans e7)) r5, upd_same, by rw [List.length_append, List.length_singleton]; omega, ?_⟩
        have tt : ∀ a xs, H7 a = some (.tup xs) → (upd H7 r (.lst (acc2 ++ [.ref tq]))) a = some (.tup xs) := upd_tup (e7 _ _ (eT2 _ _ hacc2)) (fun xs h => nomatch h)
        have ej2 : (q.2.2.take (j + 1)) = q.2.2.take j ++ [q2] := by rw [List.take_add_one, hq2]; rfl
        rw [ej2, List.map_append]
        have := pair_snoc (pair_imp hrows2 fun a b h => rowAt_to (fun a xs h => tt a xs (e7 _ _ (eT2 _ _ h))) h) (a := (q2.1, some q.1, q2.2)) (b := V.ref tq) ⟨tq, vg, rfl, tt _ _ htq, rep_up (rep_up (rep_up (rep_up (rep_S (fun b hb => hb.1.1.1.1) hrg))))⟩
        rw [List.append_assoc] at this
        exact this
      · -- behind the inner loop
        subst eσ
        refine ⟨_, _, _, _, acc2, rfl, ?_, by rw [upd_ne ndir.symm]; exact hacc2, by omega, ?_⟩
        · refine Ex.trans ?_ (unlock (u := .dK ei) (u' := .frz od2 (.dK ei)) ?_ e5)
          · exact Ex.refl _
          · rw [upd_ne ndi]; exact hdi
        · have ez : rowsS (z.take (i + 1)) = rowsS (z.take i) ++ (q.1, none, q.2.1) :: (q.2.2.take ei.length).map fun g => (g.1, some q.1, g.2) := by
            rw [List.take_add_one, hq]
            have et : q.2.2.take ei.length = q.2.2 := List.take_of_length_le (by omega)
            show (z.take i ++ [q]).flatMap rowsOf = _
            rw [List.flatMap_append, et]
            simp [rowsS, rowsOf]
          rw [ez]
          have hdi5 := e5 _ _ (upd_same (H := upd H d (.frz od (.dK es))))
          exact pair_imp hrows2 fun a b h => rowAt_to (upd_tup hdi5 (fun xs h => nomatch h)) h
    · subst eσ
      refine ⟨.ref r, rfl, k _ r acc (unlock hd e) hr0 (by rw [upd_ne ndr]; exact hacc) ?_⟩
      have ez : z.take es.length = z := List.take_of_length_le (by omega)
      rw [ez] at hrows
      have hd5 := e _ _ (upd_same (H := H))
      exact pair_imp hrows fun a b h => rowAt_to (upd_tup hd5 (fun xs h => nomatch h)) h
end
end Pk

namespace Pk
open PySem PySem.Spec PyProof.Rows L2 Ssb
open Evl (Ex Ev EvT EvL EvA EvU)
theorem okSh_rows {s : Sh} (h : okSh s) : (rowsS s).length ≤ 4 ∧ ∀ r ∈ rowsS s, isW r.1 ∧ okFl r.2.2 := by
  obtain ⟨h2, _, hz⟩ := h
  refine ⟨?_, fun r hr => ?_⟩
  · have key : ∀ l : Sh, (∀ p ∈ l, p.2.2.length ≤ 1) → (rowsS l).length ≤ 2 * l.length := by
      intro l
      induction l with
      | nil => intro _; exact Nat.le_refl _
      | cons p l ih =>
        intro hl
        have i1 := ih fun q hq => hl q (List.mem_cons_of_mem _ hq)
        have i2 := hl p List.mem_cons_self
        show (rowsOf p ++ rowsS l).length ≤ 2 * (l.length + 1)
        rw [List.length_append]
        have : (rowsOf p).length = p.2.2.length + 1 := by simp [rowsOf]
        omega
    have := key s fun p hp => (hz p hp).2.2.1
    omega
  · obtain ⟨p, hp, hr⟩ := List.mem_flatMap.mp hr
    obtain ⟨w1, f1, _, hq⟩ := hz p hp
    rcases List.mem_cons.mp hr with rfl | hr
    · exact ⟨w1, f1⟩
    · obtain ⟨q, hq1, rfl⟩ := List.mem_map.mp hr
      exact hq q hq1
/-- the three parts of a row go to their slots -/
theorem row_unp {H H' : Hp} {K : PySem.W.Frag} {n : Nat} {S : Addr → Prop} {r : Ro} {x : V} {i j k : Nat} (h : RowAt H H' n S r x) :
    ∃ fv, Rep H n S (flD r.2.2) fv ∧ ∀ {vs : List Nat} {σ : L2.St} (H2 : Hp), Ex H' H2 → (∀ y1 y2 y3, wipe ((((wipe σ vs).set i y1).set j y2).set k y3) vs = wipe σ vs) → Unp (gTup K 3 (gCons (gName i) (gCons (gName j) (gCons (gName k) gNil)))) vs σ ((((wipe σ vs).set i (some (.str r.1))).set j (some (oV r.2.1))).set k (some fv)) x H2 := by
  obtain ⟨a, fv, rfl, ha, hr⟩ := h
  exact ⟨fv, hr, fun H2 e2 hw => ⟨hw _ _ _, fun Kont q => ⟨a, _, rfl, Evl.st_of (e2 _ _ ha), rfl, _, _, rfl, _, _, rfl, _, _, rfl, rfl, q⟩⟩⟩
section
variable {P : Program} {w : World} {K : PySem.W.Frag} {mg : Str → Option Value} {base : Heap} {C_Shape C_SHAPES : Addr}
def preWrong : List V → Hp → Prop := fun vs H => ∃ (a : Addr) (fl : List Str) (v : V) (n : Nat) (S : Addr → Prop) (d : D) (s : Sh), vs = [.ref a, v] ∧ H a = some (.lst (fl.map V.str)) ∧ fl.length ≤ 2 ∧ (∀ x ∈ fl, isW x) ∧ fl.Nodup ∧ Rep H n S d v ∧ shD d s ∧ okSh s
theorem ok_wrong_part (T : Txt K mg C_Shape C_SHAPES) (R : Prg K mg C_Shape C_SHAPES) : ∃ f fd, Fn P w K mg base "wrong_part" 5 ["flags", "lists"] (spV .non preWrong) f fd := by
  obtain ⟨_, _, G_are_words⟩ := ok_are_wordsL (P := P) (w := w) (base := base) T R
  obtain ⟨_, _, G_are_lists⟩ := ok_are_lists (P := P) (w := w) (base := base) T R
  obtain ⟨_, _, G_are_fields⟩ := ok_are_fields (P := P) (w := w) (base := base) T R
  obtain ⟨_, _, G_list_rows⟩ := ok_list_rows (P := P) (w := w) (base := base) T R
  obtain ⟨f, fd, at_, F, kp⟩ := R.wrong_part
  refine ⟨f, fd, F.ok sc_wrong_part (fun vs H Q E h => ?_) (fun cdv A outer s H vs Q E hr h => ?_), at_, kp, F.binds (fun _ _ _ _ _ _ us hl => match us, hl with | [_, _], _ => rfl)⟩
  · obtain ⟨⟨a, fl, v, n, S, d, s, rfl, _⟩, _⟩ := h; rfl
  · obtain ⟨⟨a, fl, v, n, S, d, z, rfl, ha, f2, fw, fn, hv, hd, hz⟩, k⟩ := h
    obtain ⟨r4, rok⟩ := okSh_rows hz
    refine ⟨_, (pss_cons (ps_if (PW.pt (pw_or (pt_not (pt_val (pe_callB (r := rIsiT K) call_isiT (by rfl) T.isinstance (by decide +kernel) (pa_cons (pv 0) (pa_cons (pe_tup (pa_cons (pe_bltn (v := .ty "list") (by rfl) T.list boot_list rfl) (pa_cons (pe_bltn (v := .ty "tuple") (by rfl) T.tuple boot_tuple rfl) pa_nil))) pa_nil))))) (pw_or1 (pt_not (pt_val (pcl G_are_words hr (pa_cons (pv 0) (pa_cons pe_int (pa_cons pe_int pa_nil))))))))) pss_never pss_nil)
  (pss_cons (ps_if (pt_not (pt_val (pcl G_are_lists hr (pa_cons (pv 1) pa_nil)))) pss_never pss_nil)
  (pss_cons (ps_set (i := 2) sc_wrong_part.nd rfl (Or.inl rfl) (pcl G_list_rows hr (pa_cons (pv 1) pa_nil)))
  (pss_cons (ps_if (pt_not (pt_val (pe_callB (r := rAll K) (cr_all rfl) (by rfl) T.all (by decide +kernel) (pa_cons (pe_lc (own := [("name", 3), ("parent", 4), ("fields", 5)]) rfl sc_wrong_part.nd (show PI _ _ _ (iList K _) from pi_list (pv 2)) (blkOk_by (own := [("name", 3), ("parent", 4), ("fields", 5)]) (N := ["flags", "lists", "rows", "name", "parent", "fields"]) (sc := defScope s_wrong_part) (by decide +kernel)) (fun _ _ _ _ _ => (show PG _ _ (gTup K 3 _) from pg_tup (n := 3) rfl (pgs_cons (pg_name (i := 3) sc_wrong_part.nd rfl (Or.inl rfl)) (pgs_cons (pg_name (i := 4) sc_wrong_part.nd rfl (Or.inl rfl)) (pgs_cons (pg_name (i := 5) sc_wrong_part.nd rfl (Or.inl rfl)) pgs_nil))))) (fun _ _ _ _ _ => pts_nil) (fun _ _ _ _ _ => (pcl G_are_fields hr (pa_cons (pv 5) pa_nil)))) pa_nil)))) pss_never pss_nil)
  (pss_cons (ps_if (pt_cmpR op_lt (pe_callB call_lenTxs (by rfl) T.len (by decide +kernel) (pa_cons (pe_scT (own := [("name", 3), ("parent", 4), ("fields", 5)]) rfl sc_wrong_part.nd (show PI _ _ _ (iList K _) from pi_list (pv 2)) (blkOk_by (own := [("name", 3), ("parent", 4), ("fields", 5)]) (N := ["flags", "lists", "rows", "name", "parent", "fields"]) (sc := defScope s_wrong_part) (by decide +kernel)) (fun _ _ _ _ _ => (show PG _ _ (gTup K 3 _) from pg_tup (n := 3) rfl (pgs_cons (pg_name (i := 3) sc_wrong_part.nd rfl (Or.inl rfl)) (pgs_cons (pg_name (i := 4) sc_wrong_part.nd rfl (Or.inl rfl)) (pgs_cons (pg_name (i := 5) sc_wrong_part.nd rfl (Or.inl rfl)) pgs_nil))))) (fun _ _ _ _ _ => pts_nil) (fun _ _ _ _ _ => (pv 3))) pa_nil)) (pe_callB (r := rLenA K) call_len (by rfl) T.len (by decide +kernel) (pa_cons (pv 2) pa_nil)) (nomark _)) pss_never pss_nil)
  (pss_one (ps_ret pe_non))))))), ?_⟩
    refine Evl.q_when (b := false) (Evl.et_or (a := false) (b := false) (Evl.et_not (a := true) (Evl.et_B (ev_isi2 (Evl.ev_var rfl) (fun H1 e1 => .base (.lst (e1 _ _ ha))) (kitAny_cons (b := true) (kit_ty (by decide +kernel)) (fun h => nomatch h) fun _ => rfl)))) fun _ => Evl.et_not (a := true) (Evl.et_B (spV_ev (Evl.ea_cons (Evl.ev_var rfl) (Evl.ea_cons Evl.ev_c (Evl.ea_cons Evl.ev_c Evl.ea_nil))) fun H1 e1 => ⟨a, fl, 0, 2, rfl, Evl.sq_of (e1 _ _ ha), by omega, by omega, by omega, fw, fn⟩))) (fun h => nomatch h) fun _ H1 e1 => ?_
    refine Evl.q_when (b := false) (Evl.et_not (a := true) (Evl.et_B (spV_ev (Evl.ea_cons (Evl.ev_var rfl) Evl.ea_nil) fun H2 e2 => ⟨v, n, S, d, z, rfl, rep_ex (e1.trans e2) hv, hd, hz⟩))) (fun h => nomatch h) fun _ H2 e2 => ?_
    refine ⟨_, rfl, v, n, S, d, z, rfl, rep_ex (e1.trans e2) hv, hd, hz, fun H3 p xs e3 np hp hrows => ?_⟩
    have lx := pair_len hrows
    have row : ∀ (i : Nat) (x : V), xs[i]? = some x → ∃ r, (rowsS z)[i]? = some r ∧ RowAt H2 H3 n S r x := fun i x hx => pair_back hrows hx
    refine Evl.q_when (b := false) (Evl.et_not (a := true) (Evl.et_B (ev_allT (n := xs.length) (el_lcG (Evl.ev_var rfl) (Evl.sq_of hp) (by omega) fun i x hx H4 e4 => ?_)))) (fun h => nomatch h) fun _ H4 e4 => ?_
    · obtain ⟨r, hr1, hr2⟩ := row i x hx
      obtain ⟨fv, hf, hu⟩ := row_unp (K := K) hr2 (i := 3) (j := 4) (k := 5)
      exact ⟨_, hu H4 e4 (by intro _ _ _; rfl), fun H5 e5 => spV_ev (Evl.ea_cons (Evl.ev_var rfl) Evl.ea_nil) fun H6 e6 => ⟨fv, n, S, r.2.2, rfl, rep_ex (e3.trans (e5.trans e6)) hf, (rok r (List.mem_of_getElem? hr1)).2⟩⟩
    · refine Evl.q_when (b := false) (Evl.et_test (Evl.ev_is (Evl.ev_op (ex_scG (nms := (rowsS z).map (·.1)) (Evl.ev_var rfl) (Evl.sq_of (e4 _ _ hp)) (by rw [List.length_map]; exact lx) (by omega) fun i x hx => ?_) (ev_lenL (Evl.ev_var rfl) (.inl (Evl.sq_of (e4 _ _ hp)))) Evl.rv_I0) ?_)) (fun h => nomatch h) fun _ H5 e5 => Evl.s_ret Evl.ev_c fun H6 e6 => k H6 (e1.trans (e2.trans (e3.trans (e4.trans (e5.trans e6)))))
      · obtain ⟨r, hr1, hr2⟩ := row i x hx
        refine ⟨r.1, by rw [List.getElem?_map, hr1]; rfl, fun H5 e5 => ?_⟩
        obtain ⟨fv, hf, hu⟩ := row_unp (K := K) hr2 (i := 3) (j := 4) (k := 5)
        exact ⟨_, hu H5 (e4.trans e5) (by intro _ _ _; rfl), fun H6 e6 => Evl.ev_var rfl⟩
      · rw [met_nodup _ [] hz.2.1, List.nil_append, List.length_map, lx]
        simp
end
end Pk

namespace Pk
open PySem PySem.Spec PyProof.Rows L2 Ssb
open Evl (Ex Ev EvT EvL EvA EvU)
/-! ### a Shape as it stands -/
def oD : Option Str → D
  | none => .non
  | some x => .str x
def tabD (s : Sh) : D := .dic ((rowsS s).map fun r => (r.1, .tup [oD r.2.1, flD r.2.2]))
def shF (ft tb : Addr) : List (Str × V) := putF "table" (.ref tb) (putF "flags" (.ref ft) [])
theorem ne_tf : ¬ (("table" : Str) = "flags") := by decide +kernel
theorem ne_ft : ¬ (("flags" : Str) = "table") := by decide +kernel
theorem shF_flags (ft tb : Addr) : (shF ft tb).lookup ("flags" : Str) = some (.ref ft) := by
  unfold shF; rw [lookup_putF, if_neg ne_ft, lookup_putF, if_pos rfl]
theorem shF_table (ft tb : Addr) : (shF ft tb).lookup ("table" : Str) = some (.ref tb) := by
  unfold shF; rw [lookup_putF, if_pos rfl]
theorem shF_no (ft tb : Addr) {m : Str} (h1 : ¬ m = "flags") (h2 : ¬ m = "table") : (shF ft tb).lookup m = none := by
  unfold shF; rw [lookup_putF, if_neg h2, lookup_putF, if_neg h1]; rfl
/-- at p: the Shape with these flags (ascending) and these lists -/
def ShapeAt (C : Addr) (H : Hp) (p : Addr) (fl : List Str) (s : Sh) (S : Addr → Prop) : Prop := ∃ dx ft tb, H p = some (.ins C dx (shF ft tb)) ∧ H ft = some (.tup (fl.map V.str)) ∧ Rep H 5 S (tabD s) (.ref tb)
theorem ShapeAt.ex {C : Addr} {H H' : Hp} {p : Addr} {fl : List Str} {s : Sh} {S : Addr → Prop} (e : Ex H H') (h : ShapeAt C H p fl s S) : ShapeAt C H' p fl s S := by
  obtain ⟨dx, ft, tb, h1, h2, h3⟩ := h; exact ⟨dx, ft, tb, e _ _ h1, e _ _ h2, rep_ex e h3⟩
/-- fields in a new dict with the same entries -/
theorem fl_new {H : Hp} {n : Nat} {S : Addr → Prop} {f : Fl} {v : V} (h : Rep H n S (flD f) v) : ∃ a es, v = .ref a ∧ H a = some (.dK es) ∧ f.length ≤ 100000 ∧
    ∀ {H' : Hp} {S' : Addr → Prop} {b : Addr}, (∀ a xs, H a = some (.tup xs) → H' a = some (.tup xs)) → S' b → H' b = some (.dK es) → Rep H' 3 S' (flD f) (.ref b) := by
  cases n with
  | zero => exact h.elim
  | succ n =>
  obtain ⟨a, es, e, _, ha, hl, pr⟩ := h
  refine ⟨a, es, e, ha, by simpa using hl, fun {H' S' b} k sb hb => ⟨b, es, rfl, sb, hb, hl, ?_⟩⟩
  have key : ∀ (f : Fl) (es : List (Key × V)), Paired (fun (q : Str × D) (e : Key × V) => e.1 = Sum.inr q.1 ∧ Rep H n (fun b => S b ∧ b ≠ a) q.2 e.2) (f.map fun p => (p.1, D.tup (p.2.map .str))) es →
      Paired (fun (q : Str × D) (e : Key × V) => e.1 = Sum.inr q.1 ∧ Rep H' 2 (fun c => S' c ∧ c ≠ b) q.2 e.2) (f.map fun p => (p.1, D.tup (p.2.map .str))) es := by
    intro f
    induction f with
    | nil => intro es pr; cases pr; exact .nil
    | cons p f ih =>
      intro es pr
      cases pr with
      | cons h t =>
        refine .cons ⟨h.1, ?_⟩ (ih _ t)
        have h2 := h.2
        cases n with
        | zero => exact h2.elim
        | succ n =>
        obtain ⟨c, xs, e1, hc, hl1, p1⟩ := h2
        have ex := rep_strs p1
        subst ex
        refine ⟨c, _, e1, k c _ hc, hl1, ?_⟩
        have allS : ∀ ws : List Str, Paired (fun d x => Rep H' 1 (fun c => S' c ∧ c ≠ b) d x) (ws.map D.str) (ws.map V.str) := by
          intro ws
          induction ws with
          | nil => exact .nil
          | cons y ws ih => exact .cons rfl ih
        exact allS p.2
  exact key f es pr
theorem row_fresh {l : List Ro} {i : Nat} {r : Ro} {d0 : D} (hn : (l.map (·.1)).Nodup) (hr : l[i]? = some r) (hl : List.lookup r.1 ((l.map fun r => (r.1, D.tup [oD r.2.1, flD r.2.2])).take i) = some d0) : False := by
  have mem : ∀ {m : List (Str × D)} {k : Str} {d : D}, m.lookup k = some d → k ∈ m.map (·.1) := by
    intro m
    induction m with
    | nil => intro k d h; cases h
    | cons q m ih =>
      intro k d h
      obtain ⟨j, e⟩ := q
      rw [lk_cons] at h
      by_cases c : k = j
      · rw [c]; exact List.mem_cons_self
      · rw [if_neg c] at h
        exact List.mem_cons_of_mem _ (ih h)
  have h1 := mem hl
  rw [← List.map_take, List.map_map] at h1
  obtain ⟨r2, hr2, e2⟩ := List.mem_map.mp h1
  obtain ⟨j, hj, ej⟩ := List.mem_iff_getElem.mp hr2
  rw [List.length_take] at hj
  have hj2 : l[j]? = some r2 := by
    rw [← ej, List.getElem_take, List.getElem?_eq_getElem (by omega)]
  have a1 : (l.map (·.1))[j]? = some r.1 := by
    rw [List.getElem?_map, hj2]; exact congrArg some e2
  have a2 : (l.map (·.1))[i]? = some r.1 := by
    rw [List.getElem?_map, hr]; rfl
  have := nodup_ix hn a1 a2
  omega
section
variable {P : Program} {w : World} {K : PySem.W.Frag} {mg : Str → Option Value} {base : Heap} {C_Shape C_SHAPES : Addr}
/-- Shape(flags, lists), flags a list -/
def spInit (C : Addr) : Sp := fun vs H Q _ => ∃ (p dx a : Addr) (fl : List Str) (v : V) (n : Nat) (S : Addr → Prop) (d : D) (s : Sh), vs = [.ref p, .ref a, v] ∧ H p = some (.ins C dx []) ∧ H a = some (.lst (fl.map V.str)) ∧ fl.length ≤ 2 ∧ (∀ x ∈ fl, isW x) ∧ fl.Nodup ∧ Rep H n S d v ∧ shD d s ∧ okSh s ∧ ¬ S p ∧
  ∀ H' fl', (∀ b o, b ≠ p → H b = some o → H' b = some o) → fl'.Perm fl → sortedS fl' = true → ShapeAt C H' p fl' s (fun b => H b = none) → Q .non H'
theorem ok_Shape_init (T : Txt K mg C_Shape C_SHAPES) (R : Prg K mg C_Shape C_SHAPES) : ∃ f fd, Mt P w K mg base C_Shape "__init__" 6 ["self", "flags", "lists"] (spInit C_Shape) f fd := by
  obtain ⟨_, _, G_wrong_part⟩ := ok_wrong_part (P := P) (w := w) (base := base) T R
  obtain ⟨_, _, G_list_rows⟩ := ok_list_rows (P := P) (w := w) (base := base) T R
  obtain ⟨f, fd, F, fi, isf, kp⟩ := R.Shape_init
  refine ⟨f, fd, F.ok sc_Shape_init (fun vs H Q E h => ?_) (fun cdv A outer s H vs Q E hr h => ?_), ⟨fi, isf, kp⟩, F.binds (fun _ _ _ _ _ _ us hl => match us, hl with | [_, _, _], _ => rfl)⟩
  · obtain ⟨p, dx, a, fl, v, n, S, d, s, rfl, _⟩ := h; rfl
  · obtain ⟨p, dx, a, fl, v, n, S, d, z, rfl, hp, ha, f2, fw, fn, hv, hd, hz, nSp, k⟩ := h
    obtain ⟨r4, rok⟩ := okSh_rows hz
    refine ⟨_, (pss_cons (ps_set (i := 3) sc_Shape_init.nd rfl (Or.inl rfl) (pcl G_wrong_part hr (pa_cons (pv 1) (pa_cons (pv 2) pa_nil))))
  (pss_cons (ps_if (pt_cmpR op_notN (pv 3) pe_non (nomark _)) pss_never pss_nil)
  (pss_cons (ps_fld (pv 0) (pe_callTy (r := rTupA K) call_tuple_of (by rfl) T.tuple (by decide +kernel) (pa_cons (pe_callB (r := rSortedS K) cr_sortedS (by rfl) T.sorted (by decide +kernel) (pa_cons (pe_callTy (r := rListA K) call_list_of (by rfl) T.list (by decide +kernel) (pa_cons (pv 1) pa_nil)) pa_nil)) pa_nil)) rfl)
  (pss_one (ps_fld (pv 0) (pe_dc (own := [("name", 4), ("parent", 5), ("fields", 6)]) rfl sc_Shape_init.nd (show PI _ _ _ (iList K _) from pi_list (pcl G_list_rows hr (pa_cons (pv 2) pa_nil))) (blkOk_by (own := [("name", 4), ("parent", 5), ("fields", 6)]) (N := ["self", "flags", "lists", "part", "name", "parent", "fields"]) (sc := defScope s_Shape_init) (by decide +kernel)) (fun _ _ _ _ _ => (show PG _ _ (gTup K 3 _) from pg_tup (n := 3) rfl (pgs_cons (pg_name (i := 4) sc_Shape_init.nd rfl (Or.inl rfl)) (pgs_cons (pg_name (i := 5) sc_Shape_init.nd rfl (Or.inl rfl)) (pgs_cons (pg_name (i := 6) sc_Shape_init.nd rfl (Or.inl rfl)) pgs_nil))))) (fun _ _ _ _ _ => pts_nil) (fun _ _ _ _ _ => (pv 4)) (fun _ _ _ _ _ => (pe_tup (pa_cons (pv 5) (pa_cons (pe_callTy call_dictD (by rfl) T.dict (by decide +kernel) (pa_cons (pv 6) pa_nil)) pa_nil))))) rfl))))), ?_⟩
    -- part = wrong_part(flags, lists)
    refine ⟨_, rfl, _, rfl, ⟨a, fl, v, n, S, d, z, rfl, ha, f2, fw, fn, hv, hd, hz⟩, fun H1 e1 => ?_⟩
    refine Evl.q_when (b := false) (Evl.et_is (Evl.et_test (Evl.ev_op (Evl.ev_var rfl) Evl.ev_c rv_notN)) rfl) (fun h => nomatch h) fun _ H2 e2 => ?_
    have e12 := e1.trans e2
    -- self.flags = tuple(sorted(list(flags)))
    refine ⟨_, rfl, a, fl.map V.str, rfl, .inl (Evl.sq_of (e12 _ _ ha)), fun q hq => ?_⟩
    refine ⟨q, fl, rfl, Evl.sq_of upd_same, by omega, fun ys q2 perm so hq2 => ?_⟩
    refine ⟨q2, ys.map V.str, rfl, .inl ⟨Evl.sq_of upd_same, fun ft hft => ?_⟩⟩
    have e3 : Ex H2 (upd (upd (upd H2 q (.lst (fl.map V.str))) q2 (.lst (ys.map V.str))) ft (.tup (ys.map V.str))) := (Ex.new hq).trans ((Ex.new hq2).trans (Ex.new hft))
    have e03 := e12.trans e3
    have hft0 : (upd (upd (upd H2 q (.lst (fl.map V.str))) q2 (.lst (ys.map V.str))) ft (.tup (ys.map V.str))) ft = some (.tup (ys.map V.str)) := upd_same
    generalize (upd (upd (upd H2 q (.lst (fl.map V.str))) q2 (.lst (ys.map V.str))) ft (.tup (ys.map V.str))) = H3 at e3 e03 hft0 ⊢
    refine ⟨_, rfl, p, C_Shape, dx, [], rfl, e03 _ _ hp, T.cl_Shape, T.no_Shape_flags, (by show 0 < 1000; decide), ?_⟩
    have npft : ft ≠ p := fun e => by
      have := e03 _ _ hp
      rw [← e, hft0] at this; cases this
    -- the heap with the flags
    have e4 : ∀ b o, b ≠ p → H b = some o → (upd H3 p (.ins C_Shape dx (putF "flags" (.ref ft) []))) b = some o := fun b o nb hb => by rw [upd_ne nb]; exact e03 _ _ hb
    have hv4 : Rep (upd H3 p (.ins C_Shape dx (putF "flags" (.ref ft) []))) n S d v := rep_to (fun b o hb hs => e4 b o (fun e => by
      rcases hs with hs | ⟨xs, rfl⟩
      · rw [e] at hs; exact nSp hs
      · rw [e, hp] at hb; cases hb) hb) hv
    have hp4 : (upd H3 p (.ins C_Shape dx (putF "flags" (.ref ft) []))) p = some (.ins C_Shape dx (putF "flags" (.ref ft) [])) := upd_same
    have hft4 : (upd H3 p (.ins C_Shape dx (putF "flags" (.ref ft) []))) ft = some (.tup (ys.map V.str)) := by rw [upd_ne npft]; exact hft0
    have old4 : ∀ b, (upd H3 p (.ins C_Shape dx (putF "flags" (.ref ft) []))) b = none → H b = none := fun b hb => by
      cases e : H b with
      | none => rfl
      | some o =>
        have nb : b ≠ p := fun z => by rw [z, upd_same] at hb; cases hb
        rw [e4 b o nb e] at hb; cases hb
    generalize (upd H3 p (.ins C_Shape dx (putF "flags" (.ref ft) []))) = H4 at e4 hv4 hp4 hft4 old4 ⊢
    -- self.table = {..}
    refine ⟨_, rfl, v, n, S, d, z, rfl, hv4, hd, hz, fun H5 rp xs e5 nrp hrp hrows => ?_⟩
    have lx := pair_len hrows
    refine ⟨rp, rfl, ⟨xs, Evl.sq_of hrp⟩, fun Dl hD => ?_⟩
    refine ⟨fun i m H' => m = xs.length - i ∧ i ≤ xs.length ∧ Ex H5 H' ∧ ∃ es, H' Dl = some (.dK es) ∧ Paired (fun (q : Str × D) (e : Key × V) => e.1 = Sum.inr q.1 ∧ Rep H' 4 (fun b => H5 b = none ∧ b ≠ Dl) q.2 e.2) ((((rowsS z).map fun r => (r.1, D.tup [oD r.2.1, flD r.2.2]))).take i) es, ⟨xs.length, by simp, Nat.zero_le _, Ex.new hD, [], upd_same, .nil⟩, ?_⟩
    rintro i m H' ⟨rfl, hi, e6, es, hes, pes⟩
    have sq : SqL K H' rp xs := Evl.sq_of (e6 _ _ hrp)
    by_cases hlt : i < xs.length
    · refine .inr ⟨⟨xs, xs[i], sq, by simp [hlt]⟩, fun H' => Ex H5 H' ∧ ∃ es, H' Dl = some (.dK es) ∧ Paired (fun (q : Str × D) (e : Key × V) => e.1 = Sum.inr q.1 ∧ Rep H' 4 (fun b => H5 b = none ∧ b ≠ Dl) q.2 e.2) ((((rowsS z).map fun r => (r.1, D.tup [oD r.2.1, flD r.2.2]))).take (i + 1)) es, fun H' p' => ⟨xs.length - (i + 1), by omega, rfl, hlt, p'⟩, fun x H'' y => ?_⟩
      obtain ⟨rfl, y⟩ := y
      obtain ⟨r, hr1, ra, fv, rfl, hra, hfv⟩ := pair_back hrows (y xs sq)
      obtain ⟨fa, fes, rfl, hfa, fl5, mk⟩ := fl_new (rep_ex (e5.trans e6) hfv)
      refine ⟨ra, _, rfl, Evl.st_of (e6 _ _ hra), rfl, _, _, rfl, _, _, rfl, _, _, rfl, rfl, rfl, ?_⟩
      refine yes_go ?_
      refine ⟨_, rfl, _, rfl, _, rfl, fa, fes, rfl, .inl hfa, fun fb hfb => ⟨(by show 2 ≤ sizeLine; decide), fun tp htp => ?_⟩⟩
      have e7 : Ex H'' (upd (upd H'' fb (.dK fes)) tp (.tup [oV r.2.1, .ref fb])) := (Ex.new hfb).trans (Ex.new htp)
      have nfD : fb ≠ Dl := fun e => by rw [e, hes] at hfb; cases hfb
      have nft : fb ≠ tp := fun e => by rw [← e, upd_same] at htp; cases htp
      have nDt : Dl ≠ tp := fun e => by rw [← e, upd_ne (Ne.symm nfD), hes] at htp; cases htp
      have ntab : valV es (Sum.inr r.1 : Key) = none := by
        refine pair_no (F := fun d v => Rep H'' 4 (fun b => H5 b = none ∧ b ≠ Dl) d v) pes ?_
        cases hl : List.lookup r.1 ((((rowsS z).map fun r => (r.1, D.tup [oD r.2.1, flD r.2.2]))).take i) with
        | none => rfl
        | some d0 => exact (row_fresh hz.2.1 hr1 hl).elim
      have hes2 : (upd (upd H'' fb (.dK fes)) tp (.tup [oV r.2.1, .ref fb])) Dl = some (.dK es) := by rw [upd_ne nDt, upd_ne (Ne.symm nfD)]; exact hes
      have les : es.length ≤ 4 := by
        rw [← pair_len pes, List.length_take, List.length_map]; omega
      refine ⟨es, Sum.inr r.1, rfl, hes2, Evl.sz_lt (by omega), Ex.mut (e6.trans e7) hD, es ++ [(Sum.inr r.1, .ref tp)], by rw [upd_same, putK_new _ ntab], ?_⟩
      have ej : ((((rowsS z).map fun r => (r.1, D.tup [oD r.2.1, flD r.2.2]))).take (i + 1)) = ((((rowsS z).map fun r => (r.1, D.tup [oD r.2.1, flD r.2.2]))).take i) ++ [(r.1, D.tup [oD r.2.1, flD r.2.2])] := by
        rw [List.take_add_one, List.getElem?_map, hr1]; rfl
      rw [ej]
      have keep : ∀ b o, (upd (upd H'' fb (.dK fes)) tp (.tup [oV r.2.1, .ref fb])) b = some o → ((H5 b = none ∧ b ≠ Dl) ∨ ∃ xs, o = .tup xs) → (upd (upd (upd H'' fb (.dK fes)) tp (.tup [oV r.2.1, .ref fb])) Dl (.dK (putK es (Sum.inr r.1) (.ref tp)))) b = some o := fun b o hb hs => by
        have nb : b ≠ Dl := by
          rcases hs with hs | ⟨xs, rfl⟩
          · exact hs.2
          · intro e; rw [e, hes2] at hb; cases hb
        rw [upd_ne nb]; exact hb
      refine pair_snoc (pair_imp pes fun a b h => ⟨h.1, rep_to keep (rep_ex e7 h.2)⟩) ⟨rfl, rep_to keep ?_⟩
      refine ⟨tp, [oV r.2.1, .ref fb], rfl, upd_same, (by show 2 ≤ 100000; decide), .cons ?_ (.cons (mk (b := fb) (fun a xs ha => e7 _ _ ha) ⟨?_, nfD⟩ ?_) .nil)⟩
      · cases r.2.1 with
        | none => rfl
        | some x => rfl
      · cases e : H5 fb with
        | none => rfl
        | some o => rw [e6 _ _ e] at hfb; cases hfb
      · rw [upd_ne nft, upd_same]
    · have ei : i = xs.length := by omega
      subst ei
      refine .inl ⟨⟨xs, sq, Nat.le_refl _⟩, _, rfl, p, C_Shape, dx, _, rfl, e6 _ _ (e5 _ _ hp4), T.cl_Shape, T.no_Shape_table, (by show 1 < 1000; decide), ?_⟩
      have np5 : H5 p ≠ none := by rw [e5 _ _ hp4]; exact fun h => nomatch h
      have neDp : Dl ≠ p := fun e => by rw [e, e5 _ _ hp4] at hD; cases hD
      have keep : ∀ b o, H' b = some o → (b ≠ p) → (upd H' p (.ins C_Shape dx (putF "table" (.ref Dl) (putF "flags" (.ref ft) [])))) b = some o := fun b o hb nb => by rw [upd_ne nb]; exact hb
      refine k _ ys (fun b o nb hb => keep b o (e6 _ _ (e5 _ _ (e4 b o nb hb))) nb) perm so ⟨dx, ft, Dl, upd_same, keep _ _ (e6 _ _ (e5 _ _ hft4)) npft, ?_⟩
      refine rep_S (S := fun b => H5 b = none) (fun b hb => old4 b (Evl.fresh_back e5 hb)) ?_
      refine rep_to (H := H') (fun b o hb hs => keep b o hb fun e => ?_) ⟨Dl, es, rfl, hD, hes, ?_, ?_⟩
      · rcases hs with hs | ⟨xs, rfl⟩
        · rw [e] at hs; exact np5 hs
        · have := e6 _ _ (e5 _ _ hp4)
          rw [e, this] at hb; cases hb
      · rw [List.length_map]; omega
      · have ez : ((((rowsS z).map fun r => (r.1, D.tup [oD r.2.1, flD r.2.2]))).take xs.length) = ((rowsS z).map fun r => (r.1, D.tup [oD r.2.1, flD r.2.2])) := List.take_of_length_le (by rw [List.length_map]; omega)
        rw [ez] at pes
        exact pes
end
end Pk

namespace Pk
open PySem PySem.Spec PyProof.Rows L2 Ssb
open Evl (Ex Ev EvT EvL EvA EvU)
theorem valV_at : ∀ {es : List (Key × V)} {i : Nat} {k : Key} {v : V}, (es.map (·.1)).Nodup → es[i]? = some (k, v) → valV es k = some v
  | [], i, k, v, _, h => by simp at h
  | e :: es, 0, k, v, _, h => by
    simp at h; subst h
    rw [vV_cons, if_pos rfl]
  | e :: es, i + 1, k, v, nd, h => by
    have h2 : es[i]? = some (k, v) := by simpa using h
    rw [List.map_cons, List.nodup_cons] at nd
    rw [vV_cons, if_neg, valV_at nd.2 h2]
    intro z
    refine nd.1 ?_
    rw [z]
    exact List.mem_map.mpr ⟨(k, v), List.mem_of_getElem? h2, rfl⟩
theorem oV_inj {a b : Option Str} : decide (oV a = oV b) = decide (a = b) := by
  cases a <;> cases b <;> simp [oV]
theorem oV_scal (a b : Option Str) : scal (oV a) (oV b) = true := by cases a <;> cases b <;> rfl
/-- what the table tells -/
theorem tab_get {H : Hp} {S : Addr → Prop} {s : Sh} {tb : Addr} (hn : ((rowsS s).map (·.1)).Nodup) (h : Rep H 5 S (tabD s) (.ref tb)) : ∃ es, H tb = some (.dK es) ∧ es.length = (rowsS s).length ∧ (∀ (i : Nat) (k : Key) (v : V), es[i]? = some (k, v) → ∃ r, (rowsS s)[i]? = some r ∧ k = Sum.inr r.1 ∧ valV es k = some v) ∧
    ∀ r ∈ rowsS s, ∃ tp fv, valV es (Sum.inr r.1 : Key) = some (.ref tp) ∧ H tp = some (.tup [oV r.2.1, fv]) ∧ Rep H 3 S (flD r.2.2) fv := by
  obtain ⟨_, es, e, _, hes, _, pr⟩ := h
  cases e
  have le : es.length = (rowsS s).length := by rw [← pair_len pr, List.length_map]
  have keys : es.map (·.1) = (rowsS s).map fun r => (Sum.inr r.1 : Key) := by
    refine List.ext_getElem? fun i => ?_
    rw [List.getElem?_map, List.getElem?_map]
    cases hi : es[i]? with
    | none =>
      have : (rowsS s)[i]? = none := List.getElem?_eq_none_iff.mpr (by rw [← le]; exact List.getElem?_eq_none_iff.mp hi)
      rw [this]; rfl
    | some e =>
      obtain ⟨q, hq, h1, _⟩ := pair_back pr hi
      rw [List.getElem?_map] at hq
      cases hr : (rowsS s)[i]? with
      | none => rw [hr] at hq; cases hq
      | some r =>
        rw [hr] at hq; cases hq
        exact congrArg some h1
  have nd : (es.map (·.1)).Nodup := by
    rw [keys]
    have e2 : ((rowsS s).map fun r => (Sum.inr r.1 : Key)) = ((rowsS s).map (·.1)).map Sum.inr := by rw [List.map_map]; rfl
    rw [e2]
    exact List.Pairwise.map _ (fun a b h z => h (Sum.inr.inj z)) hn
  have at_ : ∀ (i : Nat) (r : Ro), (rowsS s)[i]? = some r → ∃ v, es[i]? = some (Sum.inr r.1, v) ∧ Rep H 4 (fun b => S b ∧ b ≠ tb) (.tup [oD r.2.1, flD r.2.2]) v := fun i r hr => by
    obtain ⟨e, he, h1, h2⟩ := pair_at pr (i := i) (a := (r.1, .tup [oD r.2.1, flD r.2.2])) (by rw [List.getElem?_map, hr]; rfl)
    obtain ⟨k, v⟩ := e
    have h1 : k = Sum.inr r.1 := h1
    exact ⟨v, by rw [he, h1], h2⟩
  refine ⟨es, hes, le, fun i k v hi => ?_, fun r hr => ?_⟩
  · obtain ⟨q, hq, h1, _⟩ := pair_back pr hi
    rw [List.getElem?_map] at hq
    cases hr : (rowsS s)[i]? with
    | none => rw [hr] at hq; cases hq
    | some r =>
      rw [hr] at hq; cases hq
      exact ⟨r, rfl, h1, valV_at nd hi⟩
  · obtain ⟨i, hi, ei⟩ := List.mem_iff_getElem.mp hr
    obtain ⟨v, hv, tp, xs, rfl, htp, _, pp⟩ := at_ i r (by rw [← ei]; exact List.getElem?_eq_getElem hi)
    have two : ∃ x1 x2, xs = [x1, x2] ∧ Rep H 3 (fun b => S b ∧ b ≠ tb) (oD r.2.1) x1 ∧ Rep H 3 (fun b => S b ∧ b ≠ tb) (flD r.2.2) x2 := by
      cases pp with
      | cons h1 t =>
        cases t with
        | cons h2 t2 =>
          cases t2
          exact ⟨_, _, rfl, h1, h2⟩
    obtain ⟨x1, x2, rfl, h1, h2⟩ := two
    have e1 : x1 = oV r.2.1 := by
      cases hc : r.2.1 with
      | none => rw [hc] at h1; exact h1
      | some x => rw [hc] at h1; exact h1
    subst e1
    exact ⟨tp, _, valV_at nd hv, htp, rep_S (fun b hb => hb.1) h2⟩
/-- the names of the lists with this parent -/
def kids (s : Sh) (par : Option Str) : List Str := ((rowsS s).filter fun r => decide (r.2.1 = par)).map (·.1)
theorem kids_len {s : Sh} (par : Option Str) : (kids s par).length ≤ (rowsS s).length := by
  unfold kids; rw [List.length_map]; exact List.length_filter_le _ _
section
variable {P : Program} {w : World} {K : PySem.W.Frag} {mg : Str → Option Value} {base : Heap} {C_Shape C_SHAPES : Addr}
def spNeed (C : Addr) : Sp := fun vs H Q _ => ∃ (p : Addr) (fl : List Str) (s : Sh) (S : Addr → Prop) (nm : Str), vs = [.ref p, .str nm] ∧ ShapeAt C H p fl s S ∧ okSh s ∧ nm ∈ (rowsS s).map (·.1) ∧ ∀ H', Ex H H' → Q .non H'
theorem ok_Shape_need_list (T : Txt K mg C_Shape C_SHAPES) (R : Prg K mg C_Shape C_SHAPES) : ∃ f fd, Mt P w K mg base C_Shape "need_list" 1 ["self", "name"] (spNeed C_Shape) f fd := by
  obtain ⟨f, fd, F, fi, isf, kp⟩ := R.Shape_need_list
  refine ⟨f, fd, F.ok sc_Shape_need_list (fun vs H Q E h => ?_) (fun cdv A outer s H vs Q E hr h => ?_), ⟨fi, isf, kp⟩, F.binds (fun _ _ _ _ _ _ us hl => match us, hl with | [_, _], _ => rfl)⟩
  · obtain ⟨p, fl, s, S, nm, rfl, _⟩ := h; rfl
  · obtain ⟨p, fl, z, S, nm, rfl, ⟨dx, ft, tb, hp, hft, htb⟩, hz, hm, k⟩ := h
    obtain ⟨r, hr1, rfl⟩ := List.mem_map.mp hm
    obtain ⟨es, hes, _, _, hget⟩ := tab_get hz.2.1 htb
    obtain ⟨tp, fv, hv, _⟩ := hget r hr1
    refine ⟨_, (pss_one (ps_if (pt_cmp (pc_dnotin (hu_of hr) (pv 1) (show PE _ _ (tFld K _ _) from pe_fld (pv 0) rfl))) pss_never pss_nil)), ?_⟩
    refine ⟨_, rfl, _, rfl, p, C_Shape, dx, _, _, rfl, hp, T.cl_Shape, T.no_Shape_table, shF_table _ _, tb, _, rfl, .inl ⟨es, Sum.inr r.1, .inl hes, rfl, rfl⟩, _, rfl, ?_⟩
    rw [hv]
    refine iteF ?_
    exact k H (Ex.refl _)
def spIn (C : Addr) : Sp := fun vs H Q _ => ∃ (p : Addr) (fl : List Str) (s : Sh) (S : Addr → Prop) (par : Option Str), vs = [.ref p, oV par] ∧ ShapeAt C H p fl s S ∧ okSh s ∧
  ∀ H' q ys, Ex H H' → H q = none → H' q = some (.lst (ys.map V.str)) → ys.Perm (kids s par) → sortedS ys = true → Q (.ref q) H'
theorem ok_Shape_lists_in (T : Txt K mg C_Shape C_SHAPES) (R : Prg K mg C_Shape C_SHAPES) : ∃ f fd, Mt P w K mg base C_Shape "lists_in" 1 ["self", "parent"] (spIn C_Shape) f fd := by
  obtain ⟨f, fd, F, fi, isf, kp⟩ := R.Shape_lists_in
  refine ⟨f, fd, F.ok sc_Shape_lists_in (fun vs H Q E h => ?_) (fun cdv A outer s H vs Q E hr h => ?_), ⟨fi, isf, kp⟩, F.binds (fun _ _ _ _ _ _ us hl => match us, hl with | [_, _], _ => rfl)⟩
  · obtain ⟨p, fl, s, S, par, rfl, _⟩ := h; rfl
  · obtain ⟨p, fl, z, S, par, rfl, ⟨dx, ft, tb, hp, hft, htb⟩, hz, k⟩ := h
    obtain ⟨es, hes, le, hat, hget⟩ := tab_get hz.2.1 htb
    obtain ⟨r4, _⟩ := okSh_rows hz
    have ptb : p ≠ tb := fun e => by rw [e, hes] at hp; cases hp
    refine ⟨_, (pss_one (ps_ret (pe_callB (r := rSortedS K) cr_sortedS (by rfl) T.sorted (by decide +kernel) (pa_cons (pe_lock (pe_lc (own := [("name", 2)]) rfl sc_Shape_lists_in.nd (pi_keys (show PE _ _ (tFld K _ _) from pe_fld (pv 0) rfl)) (blkOk_by (own := [("name", 2)]) (N := ["self", "parent", "name"]) (sc := defScope s_Shape_lists_in) (by decide +kernel)) (fun _ _ _ _ _ => (pg_name (i := 2) sc_Shape_lists_in.nd rfl (Or.inl rfl))) (fun _ _ _ _ _ => (pts_one (pt_cmpR op_eq (pe_ix (r := rIxT K) ix_tup (pe_dget (hu_of hr) (show PE _ _ (tFld K _ _) from pe_fld (pv 0) rfl) (pv 2) (fun _ _ => rfl)) pe_int (fun _ _ => rfl)) (pv 1) (nomark _)))) (fun _ _ _ _ _ => (pv 2)))) pa_nil)))), ?_⟩
    refine ⟨tb, .dK es, hes, trivial, fun od => ⟨_, rfl, p, C_Shape, dx, _, _, rfl, by rw [upd_ne ptb]; exact hp, T.cl_Shape, T.no_Shape_table, shF_table _ _, tb, od, rfl, .inl ⟨es, upd_same, fun Dl hD => ?_⟩⟩⟩
    have nDt : Dl ≠ tb := fun e => by rw [e, upd_same] at hD; cases hD
    refine lc_it (lock_keys (d := tb) (o := od) (es := es)) (fun i H' => Ex (upd H tb (.frz od (.dK es))) H' ∧ H' Dl = some (.lst ((((rowsS z).take i).filter fun r => decide (r.2.1 = par)).map fun r => V.str r.1))) ⟨Ex.new hD, upd_same⟩ (fun i H' _ p => p.1 _ _ upd_same) (fun i x H' H2 hi pv y => ?_) fun H' pv => ?_
    · obtain ⟨rfl, hx⟩ := y
      obtain ⟨e, hl⟩ := pv
      rw [List.getElem?_map] at hx
      cases hc : es[i]? with
      | none => rw [hc] at hx; cases hx
      | some kv =>
      rw [hc] at hx
      obtain ⟨key, v⟩ := kv
      obtain ⟨r, hr1, rfl, hv⟩ := hat i key v hc
      obtain ⟨tp, fv, hv2, htp, _⟩ := hget r (List.mem_of_getElem? hr1)
      have ev : v = .ref tp := Option.some.inj (hv.symm.trans hv2)
      subst ev
      cases hx
      have tt : H2 tp = some (.tup [oV r.2.1, fv]) := e _ _ (upd_tup hes (fun xs h => nomatch h) _ _ htp)
      have pp : H2 p = some (.ins C_Shape dx (shF ft tb)) := e _ _ (by rw [upd_ne ptb]; exact hp)
      have et : (rowsS z).take (i + 1) = (rowsS z).take i ++ [r] := by rw [List.take_add_one, hr1]; rfl
      refine ⟨rfl, _, rfl, p, C_Shape, dx, _, _, rfl, pp, T.cl_Shape, T.no_Shape_table, shF_table _ _, _, rfl, tb, .ref tp, rfl, .inl ⟨es, Sum.inr r.1, .inr ⟨od, e _ _ upd_same⟩, rfl, hv.symm⟩, tp, _, 0, _, rfl, rfl, Evl.st_of tt, rfl, _, rfl, oV_scal _ _, _, rfl, ?_⟩
      rw [oV_inj]
      refine ite2 (fun hc => ?_) (fun hc => ?_)
      · have hc := of_decide_eq_true hc
        refine ⟨_, rfl, _, hl, Evl.sz_lt ?_, Ex.mut e hD, ?_⟩
        · rw [List.length_map]
          exact Nat.lt_of_le_of_lt (List.length_filter_le _ _) (by rw [List.length_take]; omega)
        · rw [upd_same, et, List.filter_append, List.map_append]
          simp [hc, kV]
      · have hc : ¬ r.2.1 = par := fun z => hc (decide_eq_true z)
        refine ⟨e, ?_⟩
        rw [hl, et, List.filter_append, List.map_append]
        simp [hc]
    · obtain ⟨e, hl⟩ := pv
      refine ⟨e _ _ upd_same, Dl, kids z par, rfl, Evl.sq_of ?_, Nat.lt_of_le_of_lt (kids_len par) (by omega), fun ys q perm so hq => ?_⟩
      · rw [upd_ne nDt, hl]
        have et : (rowsS z).take (es.map fun e => kV e.1).length = rowsS z := List.take_of_length_le (by rw [List.length_map]; omega)
        rw [et]
        unfold kids
        rw [List.map_map]; rfl
      · have e2 : Ex H (upd H' tb (.dK es)) := unlock hes e
        exact k _ q ys (e2.trans (Ex.new hq)) (Evl.fresh_back e2 hq) upd_same perm so
def spOuter (C : Addr) : Sp := fun vs H Q _ => ∃ (p : Addr) (fl : List Str) (s : Sh) (S : Addr → Prop), vs = [.ref p] ∧ ShapeAt C H p fl s S ∧ okSh s ∧
  ∀ H' q ys, Ex H H' → H q = none → H' q = some (.lst (ys.map V.str)) → ys.Perm (kids s none) → sortedS ys = true → Q (.ref q) H'
theorem ok_Shape_outer (T : Txt K mg C_Shape C_SHAPES) (R : Prg K mg C_Shape C_SHAPES) : ∃ f fd, Mt P w K mg base C_Shape "outer" 2 ["self"] (spOuter C_Shape) f fd := by
  obtain ⟨_, _, G_Shape_lists_in⟩ := ok_Shape_lists_in (P := P) (w := w) (base := base) T R
  obtain ⟨f, fd, F, fi, isf, kp⟩ := R.Shape_outer
  refine ⟨f, fd, F.ok sc_Shape_outer (fun vs H Q E h => ?_) (fun cdv A outer s H vs Q E hr h => ?_), ⟨fi, isf, kp⟩, F.binds (fun _ _ _ _ _ _ us hl => match us, hl with | [_], _ => rfl)⟩
  · obtain ⟨p, fl, s, S, rfl, _⟩ := h; rfl
  · obtain ⟨p, fl, z, S, rfl, hS, hz, k⟩ := h
    obtain ⟨dx, ft, tb, hp, hft, htb⟩ := id hS
    refine ⟨_, (pss_one (ps_ret (pmt (pv 0) T.cl_Shape G_Shape_lists_in hr (pa_cons pe_non pa_nil)))), ?_⟩
    exact ⟨_, rfl, p, dx, _, rfl, hp, shF_no _ _ (by decide +kernel) (by decide +kernel), p, fl, z, S, none, rfl, hS, hz, k⟩
def spInner (C : Addr) : Sp := fun vs H Q _ => ∃ (p : Addr) (fl : List Str) (s : Sh) (S : Addr → Prop) (nm : Str), vs = [.ref p, .str nm] ∧ ShapeAt C H p fl s S ∧ okSh s ∧ nm ∈ (rowsS s).map (·.1) ∧
  ∀ H' q ys, Ex H H' → H q = none → H' q = some (.lst (ys.map V.str)) → ys.Perm (kids s (some nm)) → sortedS ys = true → Q (.ref q) H'
theorem ok_Shape_inner (T : Txt K mg C_Shape C_SHAPES) (R : Prg K mg C_Shape C_SHAPES) : ∃ f fd, Mt P w K mg base C_Shape "inner" 2 ["self", "name"] (spInner C_Shape) f fd := by
  obtain ⟨_, _, G_Shape_lists_in⟩ := ok_Shape_lists_in (P := P) (w := w) (base := base) T R
  obtain ⟨_, _, G_Shape_need_list⟩ := ok_Shape_need_list (P := P) (w := w) (base := base) T R
  obtain ⟨f, fd, F, fi, isf, kp⟩ := R.Shape_inner
  refine ⟨f, fd, F.ok sc_Shape_inner (fun vs H Q E h => ?_) (fun cdv A outer s H vs Q E hr h => ?_), ⟨fi, isf, kp⟩, F.binds (fun _ _ _ _ _ _ us hl => match us, hl with | [_, _], _ => rfl)⟩
  · obtain ⟨p, fl, s, S, nm, rfl, _⟩ := h; rfl
  · obtain ⟨p, fl, z, S, nm, rfl, hS, hz, hm, k⟩ := h
    obtain ⟨dx, ft, tb, hp, hft, htb⟩ := id hS
    refine ⟨_, (pss_cons (ps_expr (pmt (pv 0) T.cl_Shape G_Shape_need_list hr (pa_cons (pv 1) pa_nil)))
  (pss_one (ps_ret (pmt (pv 0) T.cl_Shape G_Shape_lists_in hr (pa_cons (pv 1) pa_nil))))), ?_⟩
    refine ⟨_, rfl, p, dx, _, rfl, hp, shF_no _ _ (by decide +kernel) (by decide +kernel), _, rfl, p, fl, z, S, nm, rfl, hS, hz, hm, fun H1 e1 => ?_⟩
    exact ⟨_, rfl, p, dx, _, rfl, e1 _ _ hp, shF_no _ _ (by decide +kernel) (by decide +kernel), _, rfl, p, fl, z, S, some nm, rfl, hS.ex e1, hz, fun H' q ys e2 hq => k H' q ys (e1.trans e2) (Evl.fresh_back e1 hq)⟩
def spFields (C : Addr) : Sp := fun vs H Q _ => ∃ (p : Addr) (fl : List Str) (s : Sh) (S : Addr → Prop) (r : Ro), vs = [.ref p, .str r.1] ∧ ShapeAt C H p fl s S ∧ okSh s ∧ r ∈ rowsS s ∧
  ∀ H' q, Ex H H' → Rep H' 3 (fun b => H b = none) (flD r.2.2) (.ref q) → Q (.ref q) H'
theorem ok_Shape_fields (T : Txt K mg C_Shape C_SHAPES) (R : Prg K mg C_Shape C_SHAPES) : ∃ f fd, Mt P w K mg base C_Shape "fields" 2 ["self", "name"] (spFields C_Shape) f fd := by
  obtain ⟨_, _, G_Shape_need_list⟩ := ok_Shape_need_list (P := P) (w := w) (base := base) T R
  obtain ⟨f, fd, F, fi, isf, kp⟩ := R.Shape_fields
  refine ⟨f, fd, F.ok sc_Shape_fields (fun vs H Q E h => ?_) (fun cdv A outer s H vs Q E hr h => ?_), ⟨fi, isf, kp⟩, F.binds (fun _ _ _ _ _ _ us hl => match us, hl with | [_, _], _ => rfl)⟩
  · obtain ⟨p, fl, s, S, r, rfl, _⟩ := h; rfl
  · obtain ⟨p, fl, z, S, r, rfl, hS, hz, hr1, k⟩ := h
    obtain ⟨dx, ft, tb, hp, hft, htb⟩ := id hS
    obtain ⟨es, hes, le, hat, hget⟩ := tab_get hz.2.1 htb
    obtain ⟨tp, fv, hv, htp, hfv⟩ := hget r hr1
    refine ⟨_, (pss_cons (ps_expr (pmt (pv 0) T.cl_Shape G_Shape_need_list hr (pa_cons (pv 1) pa_nil)))
  (pss_one (ps_ret (pe_callTy call_dictD (by rfl) T.dict (by decide +kernel) (pa_cons (pe_ix (r := rIxT K) ix_tup (pe_dget (hu_of hr) (show PE _ _ (tFld K _ _) from pe_fld (pv 0) rfl) (pv 1) (fun _ _ => rfl)) pe_int (fun _ _ => rfl)) pa_nil))))), ?_⟩
    refine ⟨_, rfl, p, dx, _, rfl, hp, shF_no _ _ (by decide +kernel) (by decide +kernel), _, rfl, p, fl, z, S, r.1, rfl, hS, hz, List.mem_map.mpr ⟨r, hr1, rfl⟩, fun H1 e1 => ?_⟩
    obtain ⟨fa, fes, rfl, hfa, _, mk⟩ := fl_new (rep_ex e1 hfv)
    refine ⟨_, rfl, p, C_Shape, dx, _, _, rfl, e1 _ _ hp, T.cl_Shape, T.no_Shape_table, shF_table _ _, _, rfl, tb, .ref tp, rfl, .inl ⟨es, Sum.inr r.1, .inl (e1 _ _ hes), rfl, hv.symm⟩, tp, _, 1, _, rfl, rfl, Evl.st_of (e1 _ _ htp), rfl, fa, fes, rfl, .inl hfa, fun q hq => ?_⟩
    exact k _ q (e1.trans (Ex.new hq)) (mk (fun a xs h => Ex.new hq _ _ h) (Evl.fresh_back e1 hq) upd_same)
end
end Pk

namespace Pk
open PySem PySem.Spec PyProof.Rows L2 Ssb
open Evl (Ex Ev EvT EvL EvA EvU)
theorem gname_go {i : Nat} {v : V} {σ : L2.St} {H : Hp} {k : L2.St → Hp → Prop} (h : k (σ.set i (some v)) H) : gName i v σ H k := h
theorem map_range {α β : Type} {f : Nat → β} {g : α → β} : ∀ {l : List α} {n : Nat}, l.length = n → (∀ (i : Nat) (a : α), l[i]? = some a → f i = g a) → (List.range n).map f = l.map g := fun {l n} hn h => by
  refine List.ext_getElem? fun i => ?_
  rw [List.getElem?_map, List.getElem?_map]
  by_cases hi : i < n
  · have e : l[i]? = some (l[i]'(by omega)) := List.getElem?_eq_getElem (by omega)
    rw [e, List.getElem?_range hi]
    exact congrArg some (h i _ e)
  · have e : l[i]? = none := List.getElem?_eq_none_iff.mpr (by omega)
    rw [e, List.getElem?_eq_none_iff.mpr (by rw [List.length_range]; omega)]
    rfl
/-! ### the stream -/
/-- the state of a law's draws: what is left of a great number, the place, the cells, the seed, the count -/
def StAt (H : Hp) (S c : Addr) : Prop := S ≠ c ∧ ∃ (k : Int × Int × Int × Int) (cs : List Int), H S = some (.lst [.int k.1, .int k.2.1, .ref c, .int k.2.2.1, .int k.2.2.2]) ∧ H c = some (.lst (cs.map V.int)) ∧ 0 ≤ k.2.1 ∧ cs.length ≤ 63
/-- from H to H': the stream moved, all else stands -/
structure Mv (S c : Addr) (H H' : Hp) : Prop where
  a : StAt H S c
  z : StAt H' S c
  fr : ∀ b o, b ≠ S → b ≠ c → H b = some o → H' b = some o
theorem StAt.ex {S c : Addr} {H H' : Hp} (e : Ex H H') (h : StAt H S c) : StAt H' S c := by
  obtain ⟨n, k, cs, h1, h2, h3⟩ := h; exact ⟨n, k, cs, e _ _ h1, e _ _ h2, h3⟩
theorem Mv.ex {S c : Addr} {H H' : Hp} (a : StAt H S c) (e : Ex H H') : Mv S c H H' := ⟨a, a.ex e, fun b o _ _ h => e b o h⟩
theorem Mv.trans {S c : Addr} {H H' H2 : Hp} (m : Mv S c H H') (m2 : Mv S c H' H2) : Mv S c H H2 := ⟨m.a, m2.z, fun b o n1 n2 h => m2.fr b o n1 n2 (m.fr b o n1 n2 h)⟩
theorem Mv.tx {S c : Addr} {H H' H2 : Hp} (m : Mv S c H H') (e : Ex H' H2) : Mv S c H H2 := m.trans (.ex m.z e)
theorem StAt.someS {S c : Addr} {H : Hp} (a : StAt H S c) {b : Addr} (h : H b = none) : b ≠ S ∧ b ≠ c := by
  obtain ⟨n, k, cs, h1, h2, h3⟩ := a
  exact ⟨fun e => (by rw [e, h1] at h; cases h), fun e => (by rw [e, h2] at h; cases h)⟩
theorem Mv.back {S c : Addr} {H H' : Hp} (m : Mv S c H H') {b : Addr} (h : H' b = none) : H b = none := by
  obtain ⟨n1, n2⟩ := m.z.someS h
  cases e : H b with
  | none => rfl
  | some o => rw [m.fr b o n1 n2 e] at h; cases h
/-- an object that H does not know may change -/
theorem Mv.mut {S c : Addr} {H H' : Hp} {p : Addr} {o : HO} (m : Mv S c H H') (h : H p = none) : Mv S c H (upd H' p o) := by
  obtain ⟨n1, n2⟩ := m.a.someS h
  obtain ⟨n, k, cs, h1, h2, h3⟩ := m.z
  refine ⟨m.a, ⟨n, k, cs, by rw [upd_ne (Ne.symm n1)]; exact h1, by rw [upd_ne (Ne.symm n2)]; exact h2, h3⟩, fun b o' b1 b2 hb => ?_⟩
  have : b ≠ p := fun e => by rw [e, h] at hb; cases hb
  rw [upd_ne this]
  exact m.fr b o' b1 b2 hb
theorem Mv.new {S c : Addr} {H : Hp} {p : Addr} {o : HO} (a : StAt H S c) (h : H p = none) : Mv S c H (upd H p o) := .ex a (Ex.new h)
theorem rep_mv {S c : Addr} {H H' : Hp} (m : Mv S c H H') {n : Nat} {P : Addr → Prop} {d : D} {v : V} (n1 : ¬ P S) (n2 : ¬ P c) (h : Rep H n P d v) : Rep H' n P d v := by
  obtain ⟨_, k, cs, h1, h2, _⟩ := m.a
  refine rep_to (fun b o hb hp => m.fr b o (fun e => ?_) (fun e => ?_) hb) h
  · rw [e] at hp hb
    rcases hp with hp | ⟨xs, rfl⟩
    · exact n1 hp
    · rw [h1] at hb; cases hb
  · rw [e] at hp hb
    rcases hp with hp | ⟨xs, rfl⟩
    · exact n2 hp
    · rw [h2] at hb; cases hb
theorem Mv.tup {S c : Addr} {H H' : Hp} (m : Mv S c H H') {t : Addr} {xs : List V} (h : H t = some (.tup xs)) : H' t = some (.tup xs) := by
  obtain ⟨_, k, cs, h1, h2, _⟩ := m.a
  exact m.fr t _ (fun e => by rw [e, h1] at h; cases h) (fun e => by rw [e, h2] at h; cases h) h
theorem ev_int1 {te : TE} {σ : L2.St} {H : Hp} {i : Int} (h : Ev te σ H (.int i)) : Ev (tCB (fun xs H Q => (∃ i, xs = [V.int i] ∧ Q (.int i) H) ∨ ∃ k, xs = [V.bl k] ∧ Q (.int (if k then 1 else 0)) H) (tCons te tNil)) σ H (.int i) := fun H1 e Q q => h H1 e _ fun H2 e2 => .inl ⟨i, rfl, q H2 e2⟩
theorem at_get {α : Type} {xs : List α} {i : Int} (h0 : 0 ≤ i) (h1 : i < (xs.length : Int)) : ∃ v, xs[i.toNat]? = some v ∧ atI xs i = some v := by
  have h2 : i.toNat < xs.length := by omega
  refine ⟨xs[i.toNat], List.getElem?_eq_getElem h2, ?_⟩
  have := atI_nat (List.getElem?_eq_getElem h2)
  rw [show ((i.toNat : Nat) : Int) = i by omega] at this
  exact this
theorem shaped_ints (ns : List Int) : SeqAt.shaped (.list (ns.map PyData.int)) = true := by
  have h : PyData.canLayAll0 (ns.map PyData.int) = true ∧ PyData.depthAll (ns.map PyData.int) ≤ 1 := by
    induction ns with
    | nil => exact ⟨by simp [PyData.canLayAll0], by simp [PyData.depthAll]⟩
    | cons n ns ih => exact ⟨by simp [PyData.canLayAll0, PyData.canLay0, ih.1], by have := ih.2; simp [PyData.depthAll, PyData.depth]; omega⟩
  unfold SeqAt.shaped
  have h2 := h.2
  simp only [PyData.canLay0, PyData.depth, h.1, Bool.true_and]
  exact decide_eq_true (by omega)
theorem dp_ints {K : PySem.W.Frag} {H : Hp} {a : Addr} {ns : List Int} (h : SqL K H a (ns.map V.int)) : Dp K H (.ref a) (.list (ns.map PyData.int)) := by
  refine .lst h ?_
  clear h
  induction ns with
  | nil => exact .nil
  | cons n ns ih => exact .cons (.int n) ih
theorem el_lcN {K : PySem.W.Frag} {σ : L2.St} {H : Hp} {te tl : TE} {vs : List Nat} {j : Nat} {f : Nat → V} {xs : List V} (h : EvL tl σ H xs) (hz : xs.length ≤ 100000) (hw : ∀ x, wipe ((wipe σ vs).set j (some x)) vs = wipe σ vs)
    (he : ∀ (i : Nat) (x : V), xs[i]? = some x → ∀ H2, Ex H H2 → Ev te ((wipe σ vs).set j (some x)) H2 (f i)) : EvL (tLc (iList K tl) (gName j) tYes te vs) σ H ((List.range xs.length).map f) := fun H1 e Q q =>
  h H1 e _ fun a H2 ha e2 hx => ⟨a, rfl, ⟨xs, Evl.sq_of hx⟩, fun Dl hD =>
    el_walk (f := f) walk_list hz (fun H3 e3 => Evl.ex_l e3 (Evl.sq_of hx)) hw (fun i x h3 H3 e3 => he i x h3 H3 ((e.trans e2).trans e3)) (fun p H3 hp e3 hl => q p H3 (Evl.fresh_back e2 hp) (e2.trans e3) hl) Dl hD⟩
theorem q_asgS {te : TE} {g : TG} {tz : TS} {D_ : Ends} {σ : L2.St} {H : Hp} (h : te σ H fun v H1 => g v σ H1 fun σ' H' => tz D_ σ' H') : tSeq (tAsg te g) tz D_ σ H := h
theorem s_args3 {D_ : Ends} {σ : L2.St} {H : Hp} {te : TE} {v1 v2 v3 v4 : V} (h : te σ H fun x H1 => ([v1, v2, x, v3, v4] : List V).length ≤ sizeLine ∧ ∀ p, H1 p = none → D_.rt (.ref p) (upd H1 p (.lst [v1, v2, x, v3, v4]))) : tRet (tLst (tCons (tC v1) (tCons (tC v2) (tCons te (tCons (tC v3) (tCons (tC v4) tNil)))))) D_ σ H := h
section
variable {P : Program} {w : World} {K : PySem.W.Frag} {mg : Str → Option Value} {base : Heap} {C_Shape C_SHAPES : Addr}
def spOpen (K : PySem.W.Frag) : Sp := fun vs H Q _ => ∃ (a : Addr) (ns : List Int), vs = [.ref a] ∧ SqL K H a (ns.map V.int) ∧ ns.length ≤ 63 ∧ ∀ H' S c, StAt H' S c → Q (.ref S) H'
theorem ok__law_open (T : Txt K mg C_Shape C_SHAPES) (R : Prg K mg C_Shape C_SHAPES) : ∃ f fd, Fn P w K mg base "_law_open" 1 ["_law_script"] (spOpen K) f fd := by
  obtain ⟨f, fd, at_, F, kp⟩ := R._law_open
  refine ⟨f, fd, F.ok sc__law_open (fun vs H Q E h => ?_) (fun cdv A outer s H vs Q E hr h => ?_), at_, kp, F.binds (fun _ _ _ _ _ _ us hl => match us, hl with | [_], _ => rfl)⟩
  · obtain ⟨a, ns, rfl, _⟩ := h; rfl
  · obtain ⟨a, ns, rfl, hs, l63, k⟩ := h
    refine ⟨_, (pss_one (ps_ret (pe_lst (pa_cons pe_int (pa_cons pe_int (pa_cons (pe_lc (own := [("_law_cell", 1)]) rfl sc__law_open.nd (show PI _ _ _ (iList K _) from pi_list (pe_slice (r := rSlL K) sl_list (pv 0) po_none (po_some pe_int))) (blkOk_by (own := [("_law_cell", 1)]) (N := ["_law_script", "_law_cell"]) (sc := defScope s__law_open) (by decide +kernel)) (fun _ _ _ _ _ => (pg_name (i := 1) sc__law_open.nd rfl (Or.inl rfl))) (fun _ _ _ _ _ => pts_nil) (fun _ _ _ _ _ => (pe_callTy call_int1 (by rfl) T.int (by decide +kernel) (pa_cons (pv 1) pa_nil)))) (pa_cons pe_int (pa_cons pe_int pa_nil)))))))), ?_⟩
    have cut : EvL (tSl (rSlL K) (tVar 0) tNoPart (tPart (tC (.int 63)))) [some (.ref a), none] H ((ns.take 63).map V.int) := by
      have := Evl.el_sl (K := K) (te := tVar 0) (σ := [some (.ref a), none]) (H := H) (Evl.ev_var rfl) Evl.eo_none (Evl.eo_some (i := 63) Evl.ev_c) hs
      have e : cutV (ns.map V.int) none (some 63) = (ns.take 63).map V.int := by
        unfold cutV
        rw [show ((63 : Int)) = ((63 : Nat) : Int) from rfl, HT.sIx_nat, HT.sIx_none, List.drop_zero, Nat.sub_zero, List.map_take, List.length_map, Nat.min_eq_right (by omega), List.take_of_length_le (by rw [List.length_map]; exact Nat.le_refl _), List.take_of_length_le (by rw [List.length_map]; omega)]
      rw [e] at this
      exact this
    have lc := el_lcN (K := K) (te := tCB (fun xs H Q => (∃ i, xs = [V.int i] ∧ Q (.int i) H) ∨ ∃ k, xs = [V.bl k] ∧ Q (.int (if k then 1 else 0)) H) (tCons (tVar 1) tNil)) (vs := [1]) (j := 1) (f := fun i => .int ((ns.take 63).getD i 0)) cut (by rw [List.length_map, List.length_take]; omega) (fun _ => rfl) fun i x hx H2 e2 => by
      rw [List.getElem?_map] at hx
      obtain ⟨m, hm, rfl⟩ := Option.map_eq_some_iff.mp hx
      have : (ns.take 63).getD i 0 = m := by rw [List.getD_eq_getElem?_getD, hm]; rfl
      rw [this]
      exact ev_int1 (Evl.ev_var rfl)
    rw [map_range (g := V.int) (l := ns.take 63) (by rw [List.length_map]) fun i a ha => by rw [List.getD_eq_getElem?_getD, ha]; rfl] at lc
    refine s_args3 (lc H (Ex.refl _) _ fun c H1 nc e1 hc => ⟨by show 5 ≤ sizeLine; decide, fun S nS => ?_⟩)
    have ne : S ≠ c := fun e => by rw [e, hc] at nS; cases nS
    exact k _ S c ⟨ne, (0, 0, 1, 0), ns.take 63, upd_same, by rw [upd_ne (Ne.symm ne)]; exact hc, Int.le_refl _, by rw [List.length_take]; omega⟩
def spMixed : Sp := fun vs H Q _ => ∃ i : Int, vs = [.int i] ∧ ∀ H' j, Ex H H' → Q (.int j) H'
theorem ok__law_mixed (T : Txt K mg C_Shape C_SHAPES) (R : Prg K mg C_Shape C_SHAPES) : ∃ f fd, Fn P w K mg base "_law_mixed" 1 ["_law_one"] spMixed f fd := by
  obtain ⟨f, fd, at_, F, kp⟩ := R._law_mixed
  refine ⟨f, fd, F.ok sc__law_mixed (fun vs H Q E h => ?_) (fun cdv A outer s H vs Q E hr h => ?_), at_, kp, F.binds (fun _ _ _ _ _ _ us hl => match us, hl with | [_], _ => rfl)⟩
  · obtain ⟨i, rfl, _⟩ := h; rfl
  · obtain ⟨i, rfl, k⟩ := h
    refine ⟨_, (pss_cons (ps_set (i := 0) sc__law_mixed.nd rfl (Or.inl rfl) (pe_op op_add (pe_op op_mod (pe_callTy call_int1 (by rfl) T.int (by decide +kernel) (pa_cons (pe_op op_add (pe_op op_mul (pv 0) pe_int) pe_int) pa_nil)) pe_int) pe_int))
  (pss_cons (ps_set (i := 1) sc__law_mixed.nd rfl (Or.inl rfl) (pe_op op_mod (pe_callTy call_int1 (by rfl) T.int (by decide +kernel) (pa_cons (pe_op op_mul (pv 0) (pe_op op_add (pe_op op_fdiv (pv 0) pe_int) pe_int)) pa_nil)) pe_int))
  (pss_one (ps_ret (pe_op op_mod (pe_callTy call_int1 (by rfl) T.int (by decide +kernel) (pa_cons (pe_op op_mul (pv 1) (pe_op op_add (pe_op op_fdiv (pv 1) pe_int) pe_int)) pa_nil)) pe_int))))), ?_⟩
    refine Evl.q_asg (Evl.ev_op (Evl.ev_op (ev_int1 (Evl.ev_op (Evl.ev_op (Evl.ev_var rfl) Evl.ev_c (Evl.rv_I (.inr ⟨by decide, by decide⟩))) Evl.ev_c Evl.rv_I0)) Evl.ev_c (Evl.rv_I (by decide))) Evl.ev_c Evl.rv_I0) fun H1 e1 => ?_
    have b0 : 0 ≤ (i * 48271 + 30103) % 2147483629 := Int.emod_nonneg _ (by decide)
    have b1 : (i * 48271 + 30103) % 2147483629 < 2147483629 := Int.emod_lt_of_pos _ (by decide)
    generalize (i * 48271 + 30103) % 2147483629 = y at b0 b1 ⊢
    refine Evl.q_asg (Evl.ev_op (ev_int1 (Evl.ev_op (Evl.ev_var rfl) (Evl.ev_op (Evl.ev_op (Evl.ev_var rfl) Evl.ev_c (Evl.rv_I ⟨by decide, by decide⟩)) Evl.ev_c Evl.rv_I0) (Evl.rv_I (.inl ⟨by omega, by omega⟩)))) Evl.ev_c (Evl.rv_I (by decide))) fun H2 e2 => ?_
    have c0 : 0 ≤ (y + 1) * ((y + 1) / 1009 + 69621) % 2147483647 := Int.emod_nonneg _ (by decide)
    have c1 : (y + 1) * ((y + 1) / 1009 + 69621) % 2147483647 < 2147483647 := Int.emod_lt_of_pos _ (by decide)
    generalize (y + 1) * ((y + 1) / 1009 + 69621) % 2147483647 = z at c0 c1 ⊢
    exact Evl.s_ret (Evl.ev_op (ev_int1 (Evl.ev_op (Evl.ev_var rfl) (Evl.ev_op (Evl.ev_op (Evl.ev_var rfl) Evl.ev_c (Evl.rv_I ⟨by decide, by decide⟩)) Evl.ev_c Evl.rv_I0) (Evl.rv_I (.inl ⟨by omega, by omega⟩)))) Evl.ev_c (Evl.rv_I (by decide))) fun H3 e3 => k H3 _ ((e1.trans e2).trans e3)
theorem Mv.setS {S c : Addr} {H H1 : Hp} (m : Mv S c H H1) {d i x n : Int} (h : 0 ≤ i) : Mv S c H (upd H1 S (.lst [.int d, .int i, .ref c, .int x, .int n])) := by
  obtain ⟨ne, k, cs, h1, h2, _, h3⟩ := m.z
  exact ⟨m.a, ⟨ne, (d, i, x, n), cs, upd_same, by rw [upd_ne (Ne.symm ne)]; exact h2, h, h3⟩, fun b o b1 b2 hb => by rw [upd_ne b1]; exact m.fr b o b1 b2 hb⟩
def spDraw : Sp := fun vs H Q _ => ∃ (S c : Addr) (m : Int), vs = [.ref S, .int m] ∧ StAt H S c ∧ 1 ≤ m ∧ m < 1073741824 * 1073741824 * 1073741824 * 1073741824 ∧ ∀ H' r, Mv S c H H' → 0 ≤ r → r < m → Q (.int r) H'
theorem ok__law_draw (T : Txt K mg C_Shape C_SHAPES) (R : Prg K mg C_Shape C_SHAPES) : ∃ f fd, Fn P w K mg base "_law_draw" 2 ["_law_state", "_law_many"] spDraw f fd := by
  obtain ⟨_, _, G__law_mixed⟩ := ok__law_mixed (P := P) (w := w) (base := base) T R
  obtain ⟨f, fd, at_, F, kp⟩ := R._law_draw
  refine ⟨f, fd, F.ok sc__law_draw (fun vs H Q E h => ?_) (fun cdv A outer s H vs Q E hr h => ?_), at_, kp, F.binds (fun _ _ _ _ _ _ us hl => match us, hl with | [_, _], _ => rfl)⟩
  · obtain ⟨S, c, m, rfl, _⟩ := h; rfl
  · obtain ⟨S, c, m, rfl, st, m1, m2, k⟩ := h
    have lg : m.natAbs.log2 < 9000 := by
      have : m.natAbs < 2 ^ 120 := by omega
      have h2 : m.natAbs.log2 < 120 := (Nat.log2_lt (by omega)).mpr this
      omega
    refine ⟨_, (pss_cons (ps_if (pt_cmpR op_gt (pe_ix (r := rIxL K) ix_list (pv 0) pe_int (fun _ _ => rfl)) pe_int (nomark _)) (pss_cons (ps_set (i := 2) sc__law_draw.nd rfl (Or.inl rfl) (pe_op op_mod (pe_callTy call_int1 (by rfl) T.int (by decide +kernel) (pa_cons (pe_ix (r := rIxL K) ix_list (pv 0) pe_int (fun _ _ => rfl)) pa_nil)) (pv 1)))
  (pss_cons (ps_asg (pe_op op_fdivW (pe_ix (r := rIxL K) ix_list (pv 0) pe_int (fun _ _ => rfl)) (pv 1)) (pg_sub (pv 0) pe_int set_list))
  (pss_one (ps_ret (pv 2))))) pss_nil)
  (pss_cons (ps_set (i := 3) sc__law_draw.nd rfl (Or.inl rfl) pe_int)
  (Evl.pss_cut (ps_if (pt_cmpR op_lt (pe_ix (r := rIxL K) ix_list (pv 0) pe_int (fun _ _ => rfl)) (pe_callB (r := rLenA K) call_len (by rfl) T.len (by decide +kernel) (pa_cons (pe_ix (r := rIxL K) ix_list (pv 0) pe_int (fun _ _ => rfl)) pa_nil)) (nomark _)) (pss_cons (ps_set (i := 3) sc__law_draw.nd rfl (Or.inl rfl) (pe_ix (r := rIxL K) ix_list (pe_ix (r := rIxL K) ix_list (pv 0) pe_int (fun _ _ => rfl)) (pe_ix (r := rIxL K) ix_list (pv 0) pe_int (fun _ _ => rfl)) (fun _ _ => rfl)))
  (pss_one (ps_asg (pe_op op_add (pe_ix (r := rIxL K) ix_list (pv 0) pe_int (fun _ _ => rfl)) pe_int) (pg_sub (pv 0) pe_int set_list)))) pss_nil)
  (pss_cons (ps_if (PW.pt (pw_or (pt_cmpR op_ge (pv 3) (pe_op op_pow pe_int pe_int) (nomark _)) (pw_or1 (pt_cmpR op_le (pv 3) (pe_un un_neg (pe_op op_pow pe_int pe_int)) (nomark _))))) (pss_cons (ps_asg (pe_op op_fdivW (pe_callB call_abs (by rfl) T.abs (by decide +kernel) (pa_cons (pv 3) pa_nil)) (pv 1)) (pg_sub (pv 0) pe_int set_list))
  (pss_one (ps_ret (pe_op op_mod (pe_callTy call_int1 (by rfl) T.int (by decide +kernel) (pa_cons (pe_callB call_abs (by rfl) T.abs (by decide +kernel) (pa_cons (pv 3) pa_nil)) pa_nil)) (pv 1))))) pss_nil)
  (pss_cons (ps_asg (pe_op op_add (pe_ix (r := rIxL K) ix_list (pv 0) pe_int (fun _ _ => rfl)) pe_int) (pg_sub (pv 0) pe_int set_list))
  (pss_cons (ps_asg (pcl G__law_mixed hr (pa_cons (pe_op op_add (pe_op op_add (pe_ix (r := rIxL K) ix_list (pv 0) pe_int (fun _ _ => rfl)) (pe_op op_mul (pv 3) pe_int)) (pe_op op_mul (pe_ix (r := rIxL K) ix_list (pv 0) pe_int (fun _ _ => rfl)) pe_int)) pa_nil)) (pg_sub (pv 0) pe_int set_list))
  (pss_one (ps_ret (pe_op op_mod (pe_callTy call_int1 (by rfl) T.int (by decide +kernel) (pa_cons (pe_op op_fdiv (pe_ix (r := rIxL K) ix_list (pv 0) pe_int (fun _ _ => rfl)) pe_int) pa_nil)) (pv 1)))))))))), ?_⟩
    obtain ⟨ne, ⟨d0, i0, x0, n0⟩, cs, hS, hc, i00, c63⟩ := id st
    have i00 : 0 ≤ i0 := i00
    have ix : ∀ {H1 : Hp} {o2 o3 : Option V} {ys : List V} {j : Nat} {z : V}, H1 S = some (.lst ys) → ys[j]? = some z → Ev (tOp (rIxL K) (tVar 0) (tC (.int (j : Int)))) [some (.ref S), some (.int m), o2, o3] H1 z := fun h hz => Evl.ev_op (Evl.ev_var rfl) Evl.ev_c (Evl.rv_ixL (Evl.sq_of h) (atI_nat hz))
    refine Evl.q_when (b := decide (d0 > 0)) (Evl.et_test (Evl.ev_op (ix (j := 0) hS rfl) Evl.ev_c Evl.rv_I0)) (fun _ H1 e1 => ?_) (fun _ H1 e1 => ?_)
    · refine Evl.q_asg (Evl.ev_op (ev_int1 (ix (j := 0) (e1 _ _ hS) rfl)) (Evl.ev_var rfl) (Evl.rv_I (by omega))) fun H2 e2 => ?_
      have e02 := e1.trans e2
      refine Evl.q_setL (l := S) (j := 0) (v := .int (d0 / m)) (e02 _ _ hS) (Evl.ev_op (ix (j := 0) (e02 _ _ hS) rfl) (Evl.ev_var rfl) (Evl.rv_I ⟨by omega, lg⟩)) (Evl.ev_var rfl) Evl.ev_c (by show 0 < 5; decide) fun H3 e3 => ?_
      have mv : Mv S c H (upd H3 S (.lst [.int (d0 / m), .int i0, .ref c, .int x0, .int n0])) := (Mv.ex st (e02.trans e3)).setS i00
      exact Evl.s_ret (Evl.ev_var rfl) fun H4 e4 => k H4 _ (mv.tx e4) (Int.emod_nonneg _ (by omega)) (Int.emod_lt_of_pos _ (by omega))
    · refine Evl.q_asg Evl.ev_c fun H2 e2 => ?_
      have e02 := e1.trans e2
      have hS2 := e02 _ _ hS
      have hc2 := e02 _ _ hc
      refine Evl.q_cut (M := fun σ' H' => ∃ cell : Int, σ' = [some (.ref S), some (.int m), none, some (.int cell)] ∧ Mv S c H H') ?_ ?_
      · refine Evl.s_if (Evl.et_test (Evl.ev_op (ix (j := 1) hS2 rfl) (ev_lenL (ix (j := 2) hS2 rfl) (.inl (Evl.sq_of hc2))) Evl.rv_I0)) (fun hb H3 e3 => ?_) (fun _ H3 e3 => ⟨0, rfl, .ex st (e02.trans e3)⟩)
        have hb : i0 < (((cs.map V.int).length : Nat) : Int) := of_decide_eq_true hb
        obtain ⟨v, hv, hat⟩ := at_get i00 hb
        obtain ⟨x, rfl⟩ : ∃ x, v = V.int x := by
          rw [List.getElem?_map] at hv
          cases hy : cs[i0.toNat]? with
          | none => rw [hy] at hv; cases hv
          | some y => rw [hy] at hv; exact ⟨y, (Option.some.inj hv).symm⟩
        have e03 := e02.trans e3
        refine Evl.q_asg (Evl.ev_op (ix (j := 2) (e03 _ _ hS) rfl) (ix (j := 1) (e03 _ _ hS) rfl) (Evl.rv_ixL (Evl.sq_of (e03 _ _ hc)) hat)) fun H4 e4 => ?_
        have e04 := e03.trans e4
        refine Evl.s_setL (l := S) (j := 1) (v := .int (i0 + 1)) (e04 _ _ hS) (Evl.ev_op (ix (j := 1) (e04 _ _ hS) rfl) Evl.ev_c Evl.rv_I0) (Evl.ev_var rfl) Evl.ev_c (by show 1 < 5; decide) fun H5 e5 => ⟨x, rfl, (Mv.ex st (e04.trans e5)).setS (i := i0 + 1) (by omega)⟩
      · rintro σ' H3 ⟨cell, rfl, mv⟩
        obtain ⟨_, ⟨d, i, x, n⟩, cs', hS3, hc3, i1, _⟩ := id mv.z
        have i1 : 0 ≤ i := i1
        have p18 : ∀ {σ : L2.St} {H1 : Hp}, Ev (tOp (rI CPow fun i j => .int (i ^ j.toNat)) (tC (.int 10)) (tC (.int 18))) σ H1 (.int (10 ^ (18 : Int).toNat)) := Evl.ev_op Evl.ev_c Evl.ev_c (Evl.rv_I ⟨by decide, by decide, by decide⟩)
        have ab : ∀ {H1 : Hp}, Ev (tCB (fun xs H Q => ∃ i, xs = [V.int i] ∧ Q (.int (if i < 0 then -i else i)) H) (tCons (tVar 3) tNil)) [some (.ref S), some (.int m), none, some (.int cell)] H1 (.int (if cell < 0 then -cell else cell)) := fun H2 e2 Q q => ⟨_, rfl, cell, rfl, q H2 (Ex.refl _)⟩
        refine Evl.q_when (Evl.et_or (Evl.et_test (Evl.ev_op (Evl.ev_var rfl) p18 Evl.rv_I0)) fun _ => Evl.et_test (Evl.ev_op (Evl.ev_var rfl) (Evl.ev_un p18 Evl.ru_neg) Evl.rv_I0)) (fun _ H4 e4 => ?_) (fun _ H4 e4 => ?_)
        · refine Evl.q_setL (l := S) (j := 0) (v := .int ((if cell < 0 then -cell else cell) / m)) (e4 _ _ hS3) (Evl.ev_op ab (Evl.ev_var rfl) (Evl.rv_I ⟨by omega, lg⟩)) (Evl.ev_var rfl) Evl.ev_c (by show 0 < 5; decide) fun H5 e5 => ?_
          have mv5 : Mv S c H (upd H5 S (.lst [.int ((if cell < 0 then -cell else cell) / m), .int i, .ref c, .int x, .int n])) := (mv.tx (e4.trans e5)).setS i1
          exact Evl.s_ret (Evl.ev_op (ev_int1 ab) (Evl.ev_var rfl) (Evl.rv_I (by omega))) fun H6 e6 => k H6 _ (mv5.tx e6) (Int.emod_nonneg _ (by omega)) (Int.emod_lt_of_pos _ (by omega))
        · refine Evl.q_setL (l := S) (j := 4) (v := .int (n + 1)) (e4 _ _ hS3) (Evl.ev_op (ix (j := 4) (e4 _ _ hS3) rfl) Evl.ev_c Evl.rv_I0) (Evl.ev_var rfl) Evl.ev_c (by show 4 < 5; decide) fun H5 e5 => ?_
          have mv5 : Mv S c H (upd H5 S (.lst [.int d, .int i, .ref c, .int x, .int (n + 1)])) := (mv.tx (e4.trans e5)).setS i1
          have hS5 : (upd H5 S (.lst [.int d, .int i, .ref c, .int x, .int (n + 1)])) S = some (.lst [.int d, .int i, .ref c, .int x, .int (n + 1)]) := upd_same
          show tSeq _ _ _ _ (upd H5 S (.lst [.int d, .int i, .ref c, .int x, .int (n + 1)]))
          generalize (upd H5 S (.lst [.int d, .int i, .ref c, .int x, .int (n + 1)])) = H6 at mv5 hS5 ⊢
          refine q_asgS ((Evl.ev_op (Evl.ev_op (ix (j := 3) hS5 rfl) (Evl.ev_op (Evl.ev_var rfl) Evl.ev_c (Evl.rv_I (.inr ⟨by decide, by decide⟩))) Evl.rv_I0) (Evl.ev_op (ix (j := 4) hS5 rfl) Evl.ev_c (Evl.rv_I (.inr ⟨by decide, by decide⟩))) Evl.rv_I0) H6 (Ex.refl _) _ fun H7 e7 => ⟨_, rfl, fun H8 j e8 => ?_⟩)
          have hS8 := (e7.trans e8) _ _ hS5
          have mv8 := mv5.tx (e7.trans e8)
          refine ⟨_, rfl, S, _, 3, 3, rfl, rfl, hS8, Evl.ixN_nat (by show 3 < 5; decide), ?_⟩
          have mv9 : Mv S c H (upd H8 S (.lst [.int d, .int i, .ref c, .int j, .int (n + 1)])) := mv8.setS i1
          have hS9 : (upd H8 S (.lst [.int d, .int i, .ref c, .int j, .int (n + 1)])) S = some (.lst [.int d, .int i, .ref c, .int j, .int (n + 1)]) := upd_same
          show tRet _ _ _ (upd H8 S (.lst [.int d, .int i, .ref c, .int j, .int (n + 1)]))
          generalize (upd H8 S (.lst [.int d, .int i, .ref c, .int j, .int (n + 1)])) = H9 at mv9 hS9 ⊢
          exact Evl.s_ret (Evl.ev_op (ev_int1 (Evl.ev_op (ix (j := 3) hS9 rfl) Evl.ev_c (Evl.rv_I ⟨by decide, by decide⟩))) (Evl.ev_var rfl) (Evl.rv_I (by omega))) fun H10 e10 => k H10 _ (mv9.tx e10) (Int.emod_nonneg _ (by omega)) (Int.emod_lt_of_pos _ (by omega))
end
end Pk

namespace Pk
open PySem PySem.Spec PyProof.Rows L2 Ssb
open Evl (Ex Ev EvT EvL EvA EvU)
theorem take_snoc {α : Type} {l : List α} {i : Nat} {x : α} (h : l[i]? = some x) : l.take (i + 1) = l.take i ++ [x] := by rw [List.take_add_one, h]; rfl
theorem not_take {α : Type} {l : List α} {i : Nat} {x : α} (nd : l.Nodup) (h : l[i]? = some x) : x ∉ l.take i := fun hm =>
  (List.nodup_append.mp (by rw [← take_snoc h]; exact List.Sublist.nodup (List.take_sublist _ _) nd : (l.take i ++ [x]).Nodup)).2.2 x hm x (List.mem_singleton.mpr rfl) rfl
theorem rep_upd {H : Hp} {n : Nat} {S : Addr → Prop} {d : D} {v : V} {a : Addr} {o u : HO} (ha : H a = some o) (no : ∀ xs, o ≠ .tup xs) (hS : ∀ b, S b → b ≠ a) (h : Rep H n S d v) : Rep (upd H a u) n S d v :=
  rep_to (fun b o' hb z => by
    have ne : b ≠ a := by
      rcases z with z | ⟨xs, rfl⟩
      · exact hS b z
      · intro e; rw [e, ha] at hb; exact no xs (Option.some.inj hb)
    rw [upd_ne ne]; exact hb) h
theorem vV_no : ∀ {es : List (Key × V)} {k : Key}, k ∉ es.map (·.1) → valV es k = none
  | [], _, _ => rfl
  | e :: es, k, h => by
    rw [vV_cons, if_neg (fun z => h (by rw [← z]; exact List.mem_cons_self))]
    exact vV_no fun z => h (List.mem_cons_of_mem _ z)
theorem inr_not {ks : List Str} {k : Str} (h : k ∉ ks) : (Sum.inr k : Key) ∉ ks.map Sum.inr := fun hm => by
  obtain ⟨x, hx, e⟩ := List.mem_map.mp hm
  exact h (by rw [← Sum.inr.inj e]; exact hx)
theorem pair_keys {α : Type} {F : Str × α → Key × V → Prop} {l : List (Str × α)} {es : List (Key × V)} (h : Paired (fun p e => e.1 = Sum.inr p.1 ∧ F p e) l es) : es.map (·.1) = (l.map (·.1)).map Sum.inr := by
  induction h with
  | nil => rfl
  | cons h t ih => rw [List.map_cons, List.map_cons, List.map_cons, ih, h.1]
theorem inr_nd {ks : List Str} (h : ks.Nodup) : (ks.map (Sum.inr : Str → Key)).Nodup := List.Pairwise.map _ (fun a b h z => h (Sum.inr.inj z)) h
def dT : D → String
  | .non => "NoneType" | .bl _ => "bool" | .int _ => "int" | .str _ => "str" | .lst _ => "list" | .tup _ => "tuple" | .dic _ => "dict"
theorem rep_ty {K : PySem.W.Frag} {H : Hp} {n : Nat} {S : Addr → Prop} {d : D} {v : V} (h : Rep H (n + 1) S d v) : TyOf K H v (.type (dT d)) := by
  cases d with
  | non => have e : v = .non := h; subst e; exact .non
  | bl b => have e : v = .bl b := h; subst e; exact .bl b
  | int i => have e : v = .int i := h; subst e; exact .int i
  | str s => have e : v = .str s := h; subst e; exact .str s
  | lst l => obtain ⟨a, xs, rfl, _, ha, _⟩ := h; exact .lst ha
  | tup l => obtain ⟨a, xs, rfl, ha, _⟩ := h; exact .tup ha
  | dic l => obtain ⟨a, es, rfl, _, ha, _⟩ := h; exact .dK ha
theorem ev_kind {K : PySem.W.Frag} {σ : L2.St} {H : Hp} {te : TE} {n : Nat} {S : Addr → Prop} {d : D} {v : V} {T : String} (b : Bool) (h : Ev te σ H v) (hr : Rep H (n + 1) S d v) (hk : kitB (dT d) T = some b) : Ev (tCB (rIsi K) (tCons te (tCons (tC (.ty T)) tNil))) σ H (.bl b) :=
  ev_isi h (fun H1 e1 => .base (rep_ty (rep_ex e1 hr))) (kit_ty hk)
/-- names of a dict are different, all the way down -/
def kn : Nat → D → Prop
  | _ + 1, .lst _ => False
  | n + 1, .tup l => ∀ x ∈ l, kn n x
  | n + 1, .dic l => (l.map (·.1)).Nodup ∧ ∀ p ∈ l, kn n p.2
  | _, _ => True
theorem kit_list : ∀ t ∈ ["NoneType", "bool", "int", "str", "tuple", "dict"], kitB t "list" = some false := by decide +kernel
theorem kit_tuple : ∀ t ∈ ["NoneType", "bool", "int", "str", "list", "dict"], kitB t "tuple" = some false := by decide +kernel
theorem kit_dict : ∀ t ∈ ["NoneType", "bool", "int", "str", "list", "tuple"], kitB t "dict" = some false := by decide +kernel
section
variable {P : Program} {w : World} {K : PySem.W.Frag} {mg : Str → Option Value} {base : Heap} {C_Shape C_SHAPES : Addr}
def spCopy (n : Nat) : Sp := fun vs H Q _ => ∃ (v : V) (P : Addr → Prop) (d : D), vs = [v] ∧ Rep H n P d v ∧ kn n d ∧ ∀ H' v', Ex H H' → Rep H' n (fun b => H b = none) d v' → Q v' H'
theorem ok__law_copy (T : Txt K mg C_Shape C_SHAPES) (R : Prg K mg C_Shape C_SHAPES) : ∀ n, ∃ f fd, Fn P w K mg base "_law_copy" (n + 1) ["_law_value"] (spCopy n) f fd
  | 0 => by
    obtain ⟨f, fd, at_, F, kp⟩ := R._law_copy
    refine ⟨f, fd, F.ok sc__law_copy (fun vs H Q E h => ?_) (fun cdv A outer s H vs Q E hr h => ?_), at_, kp, F.binds (fun _ _ _ _ _ _ us hl => match us, hl with | [_], _ => rfl)⟩
    · obtain ⟨v, P, d, rfl, _⟩ := h; rfl
    · obtain ⟨v, P, d, rfl, h, _⟩ := h; exact h.elim
  | n + 1 => by
    obtain ⟨_, _, G__law_copy⟩ := ok__law_copy T R n
    obtain ⟨f, fd, at_, F, kp⟩ := R._law_copy
    refine ⟨f, fd, F.ok sc__law_copy (fun vs H Q E h => ?_) (fun cdv A outer s H vs Q E hr h => ?_), at_, kp, F.binds (fun _ _ _ _ _ _ us hl => match us, hl with | [_], _ => rfl)⟩
    · obtain ⟨v, P, d, rfl, _⟩ := h; rfl
    · obtain ⟨v, PP, d, rfl, hv, hkn, k⟩ := h
      refine ⟨_, (pss_cons (ps_if (pt_val (pe_callB (r := rIsi K) call_isi (by rfl) T.isinstance (by decide +kernel) (pa_cons (pv 0) (pa_cons (pe_bltn (v := .ty "list") (by rfl) T.list boot_list rfl) pa_nil)))) pss_never pss_nil)
  (pss_cons (ps_if (pt_val (pe_callB (r := rIsi K) call_isi (by rfl) T.isinstance (by decide +kernel) (pa_cons (pv 0) (pa_cons (pe_bltn (v := .ty "tuple") (by rfl) T.tuple boot_tuple rfl) pa_nil)))) (pss_one (ps_ret (pe_callTy (r := rTupA K) call_tuple_of (by rfl) T.tuple (by decide +kernel) (pa_cons (pe_lc (own := [("_law_part", 3)]) rfl sc__law_copy.nd (show PI _ _ _ (iTup K _) from pi_tup (pv 0)) (blkOk_by (own := [("_law_part", 3)]) (N := ["_law_value", "_law_result", "_law_name", "_law_part"]) (sc := defScope s__law_copy) (by decide +kernel)) (fun _ _ _ _ _ => (pg_name (i := 3) sc__law_copy.nd rfl (Or.inl rfl))) (fun _ _ _ _ _ => pts_nil) (fun _ _ _ _ _ => (pcl G__law_copy hr (pa_cons (pv 3) pa_nil)))) pa_nil)))) pss_nil)
  (pss_cons (ps_if (pt_val (pe_callB (r := rIsi K) call_isi (by rfl) T.isinstance (by decide +kernel) (pa_cons (pv 0) (pa_cons (pe_bltn (v := .ty "dict") (by rfl) T.dict boot_dict rfl) pa_nil)))) (pss_cons (ps_set (i := 1) sc__law_copy.nd rfl (Or.inl rfl) pe_dnewK)
  (pss_cons (ps_lock (ps_for PassesOwn.never rfl (pi_keys (pv 0)) (pg_name (i := 2) sc__law_copy.nd rfl (Or.inl rfl))
    (pss_one (ps_dput (hu_of hr) (pv 1) (pv 2) (pcl G__law_copy hr (pa_cons (pe_dget (hu_of hr) (pv 0) (pv 2) (fun _ _ => rfl)) pa_nil)) rfl))))
  (pss_one (ps_ret (pv 1))))) pss_nil)
  (pss_one (ps_ret (pv 0)))))), ?_⟩
      -- a part of a list or a tuple
      have kidL : ∀ {l : List D} {xs : List V} {H1 : Hp} {Q2 : VK} {J : It}, Walk J xs.length (fun H' => Ex H1 H') (YAt xs) → xs.length ≤ 100000 → Paired (fun d x => Rep H1 n PP d x) l xs → (∀ x ∈ l, kn n x) → (∀ H' Dl ys, H1 Dl = none → Ex H1 H' → H' Dl = some (.lst ys) → Paired (fun d x => Rep H' n (fun b => H1 b = none ∧ b ≠ Dl) d x) l ys → Q2 (.ref Dl) H') →
          ∀ Dl, H1 Dl = none → ∃ W : Nat → Nat → Hp → Prop, (∃ m, W 0 m (upd H1 Dl (.lst []))) ∧ ∀ i m H, W i m H → (J.stop i H ∧ Q2 (.ref Dl) H) ∨ (J.go i H ∧ ∃ Nx : Hp → Prop, (∀ H', Nx H' → ∃ m', m' < m ∧ W (i + 1) m' H') ∧ ∀ x H', J.yld i H x H' → gName 3 x (wipe [some v, none, none, none] [3]) H' fun σ2 H2 => wipe σ2 [3] = wipe [some v, none, none, none] [3] ∧ tYes σ2 H2 fun b H3 =>
            if b = true then tCall (spCopy n) [] E0 (tCons (tVar 3) tNil) σ2 H3 fun y H4 => ∃ acc, H4 Dl = some (.lst acc) ∧ acc.length < sizeLine ∧ Nx (upd H4 Dl (.lst (acc ++ [y]))) else Nx H3) := by
        intro l xs H1 Q2 J wk l5 pr hk q Dl hD
        refine lc_it wk (fun i H' => Ex H1 H' ∧ ∃ ys, H' Dl = some (.lst ys) ∧ Paired (fun d x => Rep H' n (fun b => H1 b = none ∧ b ≠ Dl) d x) (l.take i) ys) ⟨Ex.new hD, [], upd_same, .nil⟩ (fun i H' _ p => p.1) (fun i x H0 H' hi pv y => ?_) fun H' pv => ?_
        · obtain ⟨e, ys, hys, pys⟩ := pv
          obtain ⟨rfl, hx⟩ := y
          obtain ⟨dx, hdx, hrx⟩ := pair_back pr hx
          refine ⟨rfl, ?_⟩
          refine yes_go ?_
          refine ⟨_, rfl, x, PP, dx, rfl, rep_ex e hrx, hk _ (List.mem_of_getElem? hdx), fun H3 v3 e3 hr3 => ⟨ys, e3 _ _ hys, ?_, Ex.mut (e.trans e3) hD, ys ++ [v3], upd_same, ?_⟩⟩
          · rw [← pair_len pys, List.length_take]; exact Evl.sz_lt (by omega)
          · rw [take_snoc hdx]
            refine pair_snoc (pair_imp pys fun a b h => rep_upd (e3 _ _ hys) (fun _ z => nomatch z) (fun b z => z.2) (rep_ex e3 h)) (rep_upd (e3 _ _ hys) (fun _ z => nomatch z) (fun b z => z.2) (rep_S (fun b hb => ⟨Evl.fresh_back e hb, fun z => by rw [z, hys] at hb; cases hb⟩) hr3))
        · obtain ⟨e, ys, hys, pys⟩ := pv
          rw [← pair_len pr, List.take_of_length_le (Nat.le_refl _)] at pys
          exact q H' Dl ys hD e hys pys
      have leaf : ∀ {H1 : Hp}, Ex H H1 → (∀ l, d ≠ .lst l) → (∀ l, d ≠ .tup l) → (∀ l, d ≠ .dic l) → Q v H1 := fun {H1} e1 a b c => by
        refine k H1 v e1 ?_
        cases d with
        | lst l => exact absurd rfl (a l)
        | tup l => exact absurd rfl (b l)
        | dic l => exact absurd rfl (c l)
        | non => exact hv
        | bl b => exact hv
        | int i => exact hv
        | str s => exact hv
      have skip1 : (∀ l, d ≠ .lst l) → kitB (dT d) "list" = some false := fun a => by
        refine kit_list _ ?_
        cases d with
        | lst l => exact absurd rfl (a l)
        | _ => simp [dT]
      have skip2 : (∀ l, d ≠ .tup l) → kitB (dT d) "tuple" = some false := fun a => by
        refine kit_tuple _ ?_
        cases d with
        | tup l => exact absurd rfl (a l)
        | _ => simp [dT]
      have skip3 : (∀ l, d ≠ .dic l) → kitB (dT d) "dict" = some false := fun a => by
        refine kit_dict _ ?_
        cases d with
        | dic l => exact absurd rfl (a l)
        | _ => simp [dT]
      by_cases c1 : ∃ l, d = .lst l
      · obtain ⟨l, rfl⟩ := c1
        exact (show False from hkn).elim
      have c1 : ∀ l, d ≠ .lst l := fun l e => c1 ⟨l, e⟩
      refine Evl.q_when (b := false) (Evl.et_B (ev_kind false (Evl.ev_var rfl) hv (skip1 c1))) (fun h => nomatch h) fun _ H1 e1 => ?_
      have hv1 := rep_ex e1 hv
      by_cases c2 : ∃ l, d = .tup l
      · obtain ⟨l, rfl⟩ := c2
        obtain ⟨a, xs, rfl, ha, l5, pr⟩ := id hv1
        refine Evl.q_when (b := true) (Evl.et_B (ev_kind (d := .tup l) true (Evl.ev_var rfl) hv1 (show kitB "tuple" "tuple" = some true by decide +kernel))) (fun _ H2 e2 => ?_) (fun h => nomatch h)
        have hv2 := pair_imp pr fun a b h => rep_ex e2 h
        have e12 := e1.trans e2
        refine ⟨_, rfl, a, rfl, ⟨_, Evl.st_of (e2 _ _ ha)⟩, kidL (Q2 := fun x H' => rTupA K [x] H' Q) (walk_tup.mono (fun H' e => Evl.st_of (e _ _ (e2 _ _ ha))) fun i H v H' _ _ y => y) (by rw [← pair_len pr]; exact l5) hv2 hkn fun H' Dl ys hD e hys pys => ?_⟩
        refine ⟨Dl, ys, rfl, .inl ⟨Evl.sq_of hys, fun t ht => ?_⟩⟩
        exact k _ _ (e12.trans (e.trans (Ex.new ht))) ⟨t, ys, rfl, upd_same, l5, pair_imp pys fun a b h => rep_ex (Ex.new ht) (rep_S (fun b hb => Evl.fresh_back e12 hb.1) h)⟩
      have c2 : ∀ l, d ≠ .tup l := fun l e => c2 ⟨l, e⟩
      refine Evl.q_when (b := false) (Evl.et_B (ev_kind false (Evl.ev_var rfl) hv1 (skip2 c2))) (fun h => nomatch h) fun _ H2 e2 => ?_
      have hv2 := rep_ex e2 hv1
      have e12 := e1.trans e2
      by_cases c3 : ∃ l, d = .dic l
      · obtain ⟨l, rfl⟩ := c3
        obtain ⟨a, es, rfl, _, ha, l5, pr⟩ := id hv2
        have ekeys := pair_keys pr
        have le := pair_len pr
        refine Evl.q_when (b := true) (Evl.et_B (ev_kind (d := .dic l) true (Evl.ev_var rfl) hv2 (show kitB "dict" "dict" = some true by decide +kernel))) (fun _ H3 e3 => ?_) (fun h => nomatch h)
        have ha3 := e3 _ _ ha
        have e13 := e12.trans e3
        intro a1 h1
        have n1a : a1 ≠ a := fun e => by rw [e, ha3] at h1; cases h1
        refine for_lock (J := fun od => Itk a od es) (xs := fun _ => none) (d := a) (es := es) (by rw [upd_ne n1a.symm]; exact ha3) (fun od R r => ⟨_, rfl, a, od, rfl, .inl ⟨es, upd_same, r⟩⟩) (fun od => walk_keys) (fun od j σ' H' => ∃ (es' : List (Key × V)) (o2 : Option V), σ' = [some (.ref a), some (.ref a1), o2, none] ∧ Ex (upd H3 a (.frz od (.dK es))) H' ∧ H' a1 = some (.dK es') ∧ Paired (fun (x : Str × D) (e : Key × V) => e.1 = Sum.inr x.1 ∧ Rep H' n (fun b => H3 b = none ∧ b ≠ a1) x.2 e.2) (l.take j) es')
          (fun od => ⟨[], _, rfl, fun b o hb => ?_, by rw [upd_ne n1a]; exact upd_same, .nil⟩) (fun od j σ' H' _ ⟨_, _, _, e, _⟩ => e _ _ upd_same) (fun od j x σ' H0 H' hlt pv y => ?_) fun od σ' H' pv => ?_
        · by_cases e : b = a
          · rw [e] at hb ⊢; rw [upd_same] at hb ⊢; exact hb
          · rw [upd_ne e] at hb ⊢
            have : b ≠ a1 := fun z => by rw [z, h1] at hb; cases hb
            rw [upd_ne this]; exact hb
        · obtain ⟨es', o2, rfl, e, h1', pes⟩ := pv
          obtain ⟨rfl, kk, vj, hkv, rfl⟩ := y
          obtain ⟨⟨nm, dj⟩, hdj, hk, hrj⟩ := pair_back pr hkv
          have hk : kk = Sum.inr nm := hk
          subst hk
          have hvj : valV es (Sum.inr nm : Key) = some vj := valV_at (by rw [ekeys]; exact inr_nd hkn.1) hkv
          have hrj' := rep_in ha3 e (rep_ex e3 hrj)
          refine ⟨_, rfl, _, rfl, a, vj, rfl, .inl ⟨es, Sum.inr nm, .inr ⟨od, e _ _ upd_same⟩, rfl, hvj.symm⟩, vj, _, dj, rfl, hrj', hkn.2 _ (List.mem_of_getElem? hdj), fun H4 v4 e4 hr4 => ?_⟩
          have nv : valV es' (Sum.inr nm : Key) = none := vV_no (by rw [pair_keys pes, List.map_take]; exact inr_not (not_take hkn.1 (by rw [List.getElem?_map, hdj]; rfl)))
          refine ⟨_, rfl, _, rfl, a1, _, rfl, .inl ⟨es', Sum.inr nm, e4 _ _ h1', rfl, ?_, rfl⟩, es' ++ [(Sum.inr nm, v4)], _, rfl, Ex.mut (e.trans e4) (by rw [upd_ne n1a]; exact h1), by rw [upd_same, putK_new _ nv], ?_⟩
          · rw [← pair_len pes, List.length_take]; exact Evl.sz_lt (by omega)
          · rw [take_snoc hdj]
            have back : ∀ b, H' b = none → H3 b = none := fun b hb => by
              have := Evl.fresh_back e hb
              by_cases z : b = a
              · rw [z, upd_same] at this; cases this
              · rw [upd_ne z] at this; exact this
            exact pair_snoc (pair_imp pes fun a b h => ⟨h.1, rep_upd (e4 _ _ h1') (fun _ z => nomatch z) (fun b z => z.2) (rep_ex e4 h.2)⟩) ⟨rfl, rep_upd (e4 _ _ h1') (fun _ z => nomatch z) (fun b z => z.2) (rep_S (fun b hb => ⟨back b hb, fun z => by rw [z, h1'] at hb; cases hb⟩) hr4)⟩
        · obtain ⟨es', o2, rfl, e, h1', pes⟩ := pv
          rw [← le, List.take_of_length_le (Nat.le_refl _)] at pes
          have eu : Ex H3 (upd H' a (.dK es)) := unlock ha3 e
          refine Evl.s_ret (Evl.ev_var rfl) fun H7 e7 => k H7 _ (e13.trans (eu.trans e7)) (rep_ex e7 ⟨a1, es', rfl, Evl.fresh_back e13 h1, by rw [upd_ne n1a]; exact h1', l5, pair_imp pes fun x en h => ⟨h.1, ?_⟩⟩)
          refine rep_S (fun b hb => ⟨Evl.fresh_back e13 hb.1, hb.2⟩) (rep_upd (e _ _ upd_same) (fun _ z => nomatch z) (fun b z ez => ?_) h.2)
          rw [ez] at z
          rw [ha3] at z
          exact nomatch z.1
      have c3 : ∀ l, d ≠ .dic l := fun l e => c3 ⟨l, e⟩
      refine Evl.q_when (b := false) (Evl.et_B (ev_kind false (Evl.ev_var rfl) hv2 (skip3 c3))) (fun h => nomatch h) fun _ H3 e3 => Evl.s_ret (Evl.ev_var rfl) fun H4 e4 => leaf (e12.trans (e3.trans e4)) c1 c2 c3
end
section
variable {J : It} {n : Nat} {G : Hp → Prop} {Y : Nat → Hp → V → Hp → Prop}
/-- a dict by a comprehension: Pv by the turn and the heap (the new dict at Dl within) -/
theorem dc_it (w : Walk J n G Y) {g : TG} {tt : TT} {tk tv : TE} {vs : List Nat} {σ : L2.St} {H1 : Hp} {Dl : Addr} {Qd : Hp → Prop} (Pv : Nat → Hp → Prop) (h0 : Pv 0 (upd H1 Dl (.dK []))) (hG : ∀ i H, i ≤ n → Pv i H → G H)
    (hs : ∀ i x H H', i < n → Pv i H → Y i H x H' → g x (wipe σ vs) H' fun σ2 H2 => wipe σ2 vs = wipe σ vs ∧ tt σ2 H2 fun b H3 =>
      if b = true then tk σ2 H3 fun y H4 => tv σ2 H4 fun z H5 => ∃ kvs k, y = kV k ∧ H5 Dl = some (.dK kvs) ∧ kvs.length < sizeLine ∧ Pv (i + 1) (upd H5 Dl (.dK (putK kvs k z))) else Pv (i + 1) H3) (hd : ∀ H, Pv n H → Qd H) :
    ∃ W : Nat → Nat → Hp → Prop, (∃ m, W 0 m (upd H1 Dl (.dK []))) ∧ ∀ i m H, W i m H →
      (J.stop i H ∧ Qd H) ∨ (J.go i H ∧ ∃ Nx : Hp → Prop, (∀ H', Nx H' → ∃ m', m' < m ∧ W (i + 1) m' H') ∧ ∀ x H', J.yld i H x H' → g x (wipe σ vs) H' fun σ2 H2 => wipe σ2 vs = wipe σ vs ∧ tt σ2 H2 fun b H3 =>
        if b = true then tk σ2 H3 fun y H4 => tv σ2 H4 fun z H5 => ∃ kvs k, y = kV k ∧ H5 Dl = some (.dK kvs) ∧ kvs.length < sizeLine ∧ Nx (upd H5 Dl (.dK (putK kvs k z))) else Nx H3) := by
  refine ⟨fun i m H => m = n - i ∧ i ≤ n ∧ Pv i H, ⟨n, by simp, Nat.zero_le _, h0⟩, ?_⟩
  rintro i m H ⟨rfl, hi, p⟩
  have q := hG i H hi p
  by_cases hlt : i < n
  · refine .inr ⟨w.goes i H hlt q, Pv (i + 1), fun H' p' => ⟨n - (i + 1), by omega, rfl, hlt, p'⟩, fun x H' y => hs i x H H' hlt p (w.yields i H x H' hlt q y)⟩
  · have e : i = n := by omega
    subst e
    exact .inl ⟨w.stops H q, hd H p⟩
end
section
variable {P : Program} {w : World} {K : PySem.W.Frag} {mg : Str → Option Value} {base : Heap} {C_Shape C_SHAPES : Addr}
end
end Pk

namespace Pk
open PySem PySem.Spec PyProof.Rows L2 Ssb
open Evl (Ex Ev EvT EvL EvA EvU)
def forms : List (Str × Int) := [("flag", 2), ("list", 2), ("field", 4), ("field", 5)]
def isS (s : Str) : D → Bool
  | .str t => decide (t = s)
  | _ => false
theorem isS_iff {s : Str} {d : D} : isS s d = true ↔ d = .str s := by
  cases d with
  | str t => show decide (t = s) = true ↔ _; rw [decide_eq_true_eq]; simp
  | _ => simp [isS]
def hasF : D → Bool
  | .tup (d :: l) => forms.any fun p => isS p.1 d && decide (p.2 = ((l.length + 1 : Nat) : Int))
  | _ => false
theorem rep_str {H : Hp} {n : Nat} {S : Addr → Prop} {d : D} {v : V} (h : Rep H (n + 1) S d v) (s : Str) : v = .str s ↔ d = .str s := by
  cases d with
  | non => have e : v = .non := h; subst e; simp
  | bl b => have e : v = .bl b := h; subst e; simp
  | int i => have e : v = .int i := h; subst e; simp
  | str s => have e : v = .str s := h; subst e; simp
  | lst l => obtain ⟨a, xs, rfl, _⟩ := h; simp
  | tup l => obtain ⟨a, xs, rfl, _⟩ := h; simp
  | dic l => obtain ⟨a, xs, rfl, _⟩ := h; simp
theorem rep_kd {H : Hp} {n : Nat} {S : Addr → Prop} {d : D} {v : V} (h : Rep H (n + 1) S d v) : Kd H v := by
  cases d with
  | non => have e : v = .non := h; subst e; exact .flat rfl
  | bl b => have e : v = .bl b := h; subst e; exact .flat rfl
  | int i => have e : v = .int i := h; subst e; exact .flat rfl
  | str s => have e : v = .str s := h; subst e; exact .flat rfl
  | lst l => obtain ⟨a, xs, rfl, _, ha, _⟩ := h; exact .lst ha
  | tup l => obtain ⟨a, xs, rfl, ha, _⟩ := h; exact .tup ha
  | dic l => obtain ⟨a, xs, rfl, _, ha, _⟩ := h; exact .dic ha
theorem u65 {k : Nat} {A : Around} (r : Room k A) : A.units + 65 < cLine := by have := r.un; omega
section
variable {P : Program} {w : World} {K : PySem.W.Frag} {mg : Str → Option Value} {base : Heap} {C_Shape C_SHAPES : Addr}
def spHasF (K : PySem.W.Frag) (C : Addr) : Sp := fun vs H Q _ => ∃ (v : V) (n : Nat) (S : Addr → Prop) (d : D), vs = [v, .ref C] ∧ Rep H (n + 2) S d v ∧ ∀ H', Ex H H' → Q (.bl (hasF d)) H'
theorem ok_has_form (T : Txt K mg C_Shape C_SHAPES) (R : Prg K mg C_Shape C_SHAPES) : ∃ f fd, Fn P w K mg base "has_form" 1 ["value", "forms"] (spHasF K C_SHAPES) f fd := by
  obtain ⟨f, fd, at_, F, kp⟩ := R.has_form
  refine ⟨f, fd, F.ok sc_has_form (fun vs H Q E h => ?_) (fun cdv A outer s H vs Q E hr h => ?_), at_, kp, F.binds (fun _ _ _ _ _ _ us hl => match us, hl with | [_, _], _ => rfl)⟩
  · obtain ⟨v, n, S, d, rfl, _⟩ := h; rfl
  · obtain ⟨v, n, S, d, rfl, hv, k⟩ := h
    refine ⟨_, (pss_one (ps_ret (pe_and (pe_callB (r := rIsi K) call_isi (by rfl) T.isinstance (by decide +kernel) (pa_cons (pv 0) (pa_cons (pe_bltn (v := .ty "tuple") (by rfl) T.tuple boot_tuple rfl) pa_nil))) (pe_and (pe_cmpR op_gt (pe_callB (r := rLenA K) call_len (by rfl) T.len (by decide +kernel) (pa_cons (pv 0) pa_nil)) pe_int (nomark _)) (pe_one (pe_cmpR (r := rInF K) (op_inF (u65 hr)) (pe_tup (pa_cons (pe_ix (r := rIxT K) ix_tup (pv 0) pe_int (fun _ _ => rfl)) (pa_cons (pe_callB (r := rLenA K) call_len (by rfl) T.len (by decide +kernel) (pa_cons (pv 0) pa_nil)) pa_nil))) (pv 1) (by rfl))))))), ?_⟩
    have no : kitB (dT d) "tuple" = some false → hasF d = false → _ := fun hk e =>
      Evl.s_ret (D := { nx := fun x H' => Q V.non H', rt := Q }) (σ := [some v, some (.ref C_SHAPES)]) (H := H) (te := tAndV (tCB (rIsi K) (tCons (tVar 0) (tCons (tC (.ty "tuple")) tNil))) (tAndV (tOp (rI0 fun i j => .bl (decide (i > j))) (tCB (rLenA K) (tCons (tVar 0) tNil)) (tC (.int 0))) (tOp (rInF K) (tTup (tCons (tOp (rIxT K) (tVar 0) (tC (.int 0))) (tCons (tCB (rLenA K) (tCons (tVar 0) tNil)) tNil))) (tVar 1)))) (v := .bl false) (Evl.ev_is (Evl.ev_andV (a := false) (b := true) (ev_kind false (Evl.ev_var rfl) hv hk) fun h => nomatch h) rfl) fun H1 e1 => by have := k H1 e1; rw [e] at this; exact this
    cases d with
    | non => exact no (by show kitB "NoneType" "tuple" = _; decide +kernel) rfl
    | bl b => exact no (by show kitB "bool" "tuple" = _; decide +kernel) rfl
    | int i => exact no (by show kitB "int" "tuple" = _; decide +kernel) rfl
    | str s => exact no (by show kitB "str" "tuple" = _; decide +kernel) rfl
    | lst l => exact no (by show kitB "list" "tuple" = _; decide +kernel) rfl
    | dic l => exact no (by show kitB "dict" "tuple" = _; decide +kernel) rfl
    | tup l =>
      obtain ⟨a, xs, rfl, ha, l5, pr⟩ := id hv
      have lx := pair_len pr
      cases pr with
      | nil =>
        exact Evl.s_ret (v := .bl false) (Evl.ev_is (Evl.ev_andV (a := true) (b := false) (ev_kind true (Evl.ev_var rfl) hv (by show kitB "tuple" "tuple" = _; decide +kernel)) fun _ => Evl.ev_is (Evl.ev_andV (a := false) (b := true) (Evl.ev_is (Evl.ev_op (ev_lenL (Evl.ev_var rfl) (.inr (Evl.st_of ha))) Evl.ev_c Evl.rv_I0) rfl) fun h => nomatch h) rfl) rfl) fun H1 e1 => k H1 e1
      | @cons d x l xs hx pr =>
        obtain ⟨cs, hc, pc⟩ := TupK.forms (fs := forms) T.tu_SHAPES
        refine Evl.s_ret (v := .bl (hasF (.tup (d :: l)))) (Evl.ev_is (Evl.ev_andV (a := true) (b := hasF (.tup (d :: l))) (ev_kind true (Evl.ev_var rfl) hv (by show kitB "tuple" "tuple" = _; decide +kernel)) fun _ => Evl.ev_is (Evl.ev_andV (a := true) (b := hasF (.tup (d :: l))) (Evl.ev_is (Evl.ev_op (ev_lenL (Evl.ev_var rfl) (.inr (Evl.st_of ha))) Evl.ev_c Evl.rv_I0) (by rw [decide_eq_true (by simp only [List.length_cons]; omega)])) fun _ => ?_) rfl) rfl) fun H1 e1 => k H1 e1
        intro H1 e1 Q1 q1
        refine Evl.eu_tup (σ := [some (.ref a), some (.ref C_SHAPES)]) (vs := [x, .int ((x :: xs).length : Int)]) (Evl.ea_cons (Evl.ev_op (Evl.ev_var rfl) Evl.ev_c (Evl.rv_ixT (Evl.st_of ha) (atI_nat (j := 0) rfl))) (Evl.ea_cons (ev_lenL (Evl.ev_var rfl) (.inr (Evl.st_of ha))) Evl.ea_nil)) (by show 2 ≤ 100000; decide) H1 e1 _ fun p H2 np e2 hp => ?_
        refine ⟨_, rfl, p, x, ((x :: xs).length : Int), C_SHAPES, cs, forms, rfl, hp, rep_kd (rep_ex (e1.trans e2) hx), rfl, hc, pc, ?_⟩
        have : (forms.any fun p => decide (x = .str p.1) && decide (p.2 = (((x :: xs).length : Nat) : Int))) = hasF (.tup (d :: l)) := by
          unfold hasF
          congr 1
          funext p
          have e1 : decide (x = .str p.1) = isS p.1 d := by rw [Bool.eq_iff_iff, decide_eq_true_eq, isS_iff]; exact rep_str hx p.1
          rw [e1, ← lx]; rfl
        rw [this]
        exact q1 H2 e2
end
/-- one form of the module -/
theorem form_mk {K : PySem.W.Frag} {b : Addr} {s : Str} {i : Int} {k t : Tok} {d : Option Addr} {n : Nat} {l : Array (Option Value)} (h : K.lookup b = some ⟨.type "tuple", d, .seq #[.str s k, .int i t] n, l⟩) : RepK K 3 (.tup [.str s, .int i]) (.ref b) :=
  ⟨_, [.str _, .int _], rfl, ⟨_, _, _, h, rfl, rfl, by show 2 ≤ sizeLine; decide, .cons ⟨_, rfl⟩ (.cons ⟨_, rfl⟩ .nil)⟩, .cons rfl (.cons rfl .nil)⟩
theorem tup_mk7 {K : PySem.W.Frag} {a a1 a2 a3 a4 a5 a6 a7 : Addr} {D1 D2 D3 D4 D5 D6 D7 : D} {d0 : Option Addr} {n0 : Nat} {l0 : Array (Option Value)}
    (h0 : K.lookup a = some ⟨.type "tuple", d0, .seq #[.ref a1, .ref a2, .ref a3, .ref a4, .ref a5, .ref a6, .ref a7] n0, l0⟩)
    (h1 : RepK K 3 D1 (.ref a1)) (h2 : RepK K 3 D2 (.ref a2)) (h3 : RepK K 3 D3 (.ref a3)) (h4 : RepK K 3 D4 (.ref a4)) (h5 : RepK K 3 D5 (.ref a5)) (h6 : RepK K 3 D6 (.ref a6)) (h7 : RepK K 3 D7 (.ref a7)) : TupK K a [D1, D2, D3, D4, D5, D6, D7] :=
  ⟨[.ref a1, .ref a2, .ref a3, .ref a4, .ref a5, .ref a6, .ref a7], ⟨_, _, _, h0, rfl, rfl, by show 7 ≤ sizeLine; decide, .cons rfl (.cons rfl (.cons rfl (.cons rfl (.cons rfl (.cons rfl (.cons rfl .nil))))))⟩, .cons h1 (.cons h2 (.cons h3 (.cons h4 (.cons h5 (.cons h6 (.cons h7 .nil))))))⟩
end Pk

namespace Pk
open PySem PySem.Spec PyProof.Rows L2 Ssb
open Evl (Ex Ev EvT EvL EvA EvU)
theorem inV_str {x : Str} {ys : List Str} : inV (.str x) (ys.map V.str) = decide (x ∈ ys) := by
  induction ys with
  | nil => rfl
  | cons y ys ih =>
    show (eqV (.str y) (.str x) || inV (.str x) (ys.map V.str)) = _
    rw [ih]
    show ((y == x) || decide (x ∈ ys)) = _
    rw [Bool.eq_iff_iff, Bool.or_eq_true, beq_iff_eq, decide_eq_true_eq, decide_eq_true_eq, List.mem_cons]
    exact or_congr eq_comm Iff.rfl
theorem all_flat_str (ys : List Str) : (ys.map V.str).all flatV = true := by
  rw [List.all_map]; exact List.all_eq_true.mpr fun _ _ => rfl
theorem q_go {te : TE} {i : Nat} {tz : TS} {D_ : Ends} {σ : L2.St} {H : Hp} (h : te σ H fun v H1 => tz D_ (σ.set i (some v)) H1) : tSeq (tAsg te (gName i)) tz D_ σ H := h
theorem q_seq {tu tz : TS} {D_ : Ends} {σ : L2.St} {H : Hp} (h : tu { D_ with nx := tz D_ } σ H) : tSeq tu tz D_ σ H := h
/-! ### words -/
theorem StAt.upd {S c p : Addr} {H : Hp} {o : HO} (n : p ≠ S ∧ p ≠ c) (h : StAt H S c) : StAt (L2.upd H p o) S c := by
  obtain ⟨ne, k, cs, h1, h2, h3⟩ := h
  exact ⟨ne, k, cs, by rw [upd_ne n.1.symm]; exact h1, by rw [upd_ne n.2.symm]; exact h2, h3⟩
section
variable {K : PySem.W.Frag} {σ : L2.St} {H : Hp} {ta : TA} {S c : Addr} {m : Int}
theorem dr_go {Q : VK} (h : EvA ta σ H [.ref S, .int m]) (st : StAt H S c) (h1 : 1 ≤ m) (h2 : m ≤ 2000000) (q : ∀ H' r, Mv S c H H' → 0 ≤ r → r < m → Q (.int r) H') : tCall spDraw [] E0 ta σ H Q :=
  h H (Ex.refl _) _ fun H1 e1 => ⟨S, c, m, rfl, st.ex e1, h1, by omega, fun H' r mv r0 r1 => q H' r ((Mv.ex st e1).trans mv) r0 r1⟩
theorem dr_if {tu tw : TS} {D_ : Ends} {z : Int} (h : EvA ta σ H [.ref S, .int m]) (st : StAt H S c) (h1 : 1 ≤ m) (h2 : m ≤ 2000000) (y : ∀ H', Mv S c H H' → tu D_ σ H') (n : ∀ H', Mv S c H H' → tw D_ σ H') : tIfS (tTest (tOp rEq (tCall spDraw [] E0 ta) (tC (.int z)))) tu tw D_ σ H :=
  dr_go h st h1 h2 fun H' r mv _ _ => ⟨rfl, _, rfl, by
    dsimp only
    by_cases e : V.int r = V.int z
    · rw [if_pos (decide_eq_true e)]; exact y H' mv
    · rw [if_neg (fun z => e (of_decide_eq_true z))]; exact n H' mv⟩
end
/-- the stream and the list at t moved, all else stands -/
structure MvX (S c t : Addr) (H H' : Hp) : Prop where
  z : StAt H' S c
  fr : ∀ b o, b ≠ S → b ≠ c → b ≠ t → H b = some o → H' b = some o
theorem Mv.x {S c t : Addr} {H0 H H' : Hp} (m : Mv S c H0 H) (h : H0 t = none) (x : MvX S c t H H') : Mv S c H0 H' :=
  ⟨m.a, x.z, fun b o b1 b2 hb => x.fr b o b1 b2 (fun e => by rw [e, h] at hb; cases hb) (m.fr b o b1 b2 hb)⟩
def ab : Str := "abcdefghijklmnopqrstuvwxyz"
theorem ab_list : ab.cps.toList = (List.range 26).map (97 + ·) := by decide +kernel
theorem ab_at {i : Nat} (h : i < 26) : atI ab.cps.toList (i : Int) = some (97 + i) := by
  refine atI_nat ?_
  rw [ab_list, List.getElem?_map, List.getElem?_range h]; rfl
def spare (k : Nat) : Str := ("spareq" : Str) ++ ⟨#[97 + k]⟩
def notSpare (x : Str) : Prop := ∀ k, x ≠ spare k
/-- the words of a list so far -/
structure WdOk (ws : List Str) : Prop where
  w : ∀ x ∈ ws, isW x
  sp : ∀ (i : Nat) (x : Str), ws[i]? = some x → x = spare i ∨ notSpare x
  nd : ws.Nodup
theorem WdOk.nil : WdOk [] := ⟨(fun x h => nomatch h), (fun i x h => by rw [List.getElem?_nil] at h; cases h), List.nodup_nil⟩
theorem spare_inj {i j : Nat} (h : spare i = spare j) : i = j := by
  have h1 : (spare i).cps.toList = (spare j).cps.toList := by rw [h]
  have e : ∀ k, (spare k).cps.toList = ("spareq" : Str).cps.toList ++ [97 + k] := fun k => by
    show (("spareq" : Str).cps ++ #[97 + k]).toList = _
    rw [Array.toList_append]
  rw [e, e] at h1
  have := List.append_cancel_left h1
  simp at this
  exact this
theorem spare_w {k : Nat} (h : k < 26) : isW (spare k) := by
  have e : (spare k).cps.toList = ("spareq" : Str).cps.toList ++ [97 + k] := by
    show (("spareq" : Str).cps ++ #[97 + k]).toList = _
    rw [Array.toList_append]
  have l : (spare k).length = 7 := by
    show (spare k).cps.size = 7
    rw [← Array.length_toList, e, List.length_append]
    have : ("spareq" : Str).cps.toList.length = 6 := by decide +kernel
    rw [this]; rfl
  refine ⟨by omega, by omega, fun c hc => ?_⟩
  rw [e] at hc
  rcases List.mem_append.mp hc with hc | hc
  · exact (by decide +kernel : ∀ c ∈ ("spareq" : Str).cps.toList, 97 ≤ c ∧ c ≤ 122) c hc
  · rw [List.mem_singleton.mp hc]; omega
theorem spare_new {ws : List Str} (h : WdOk ws) : spare ws.length ∉ ws := fun hm => by
  obtain ⟨i, hi⟩ := List.getElem?_of_mem hm
  rcases h.sp i _ hi with e | e
  · have := spare_inj e
    have := (List.getElem?_eq_some_iff.mp hi).1
    omega
  · exact e _ rfl
theorem WdOk.snoc {ws : List Str} {x : Str} (h : WdOk ws) (hw : isW x) (hs : x = spare ws.length ∨ notSpare x) (hn : x ∉ ws) : WdOk (ws ++ [x]) := by
  refine ⟨fun y hy => ?_, fun i y hy => ?_, List.nodup_append.mpr ⟨h.nd, by simp, fun a ha b hb => ?_⟩⟩
  · rcases List.mem_append.mp hy with hy | hy
    · exact h.w y hy
    · rw [List.mem_singleton.mp hy]; exact hw
  · by_cases c : i < ws.length
    · rw [List.getElem?_append_left c] at hy
      exact h.sp i y hy
    · rw [List.getElem?_append_right (by omega)] at hy
      have ei : i = ws.length := by
        cases e : i - ws.length with
        | zero => omega
        | succ n => rw [e] at hy; simp at hy
      subst ei
      rw [Nat.sub_self] at hy
      cases hy
      exact hs
  · rw [List.mem_singleton.mp hb]
    exact fun e => hn (e ▸ ha)
theorem short_ns {x : Str} (h : x.length ≤ 3) : notSpare x := fun k e => by
  have : (spare k).length = 7 := by
    show (("spareq" : Str).cps ++ #[97 + k]).size = 7
    rw [Array.size_append]
    have : ("spareq" : Str).cps.size = 6 := by decide +kernel
    rw [this]; rfl
  rw [e, this] at h; omega
theorem long_ns {x : Str} (h : x.length ≤ 3) : notSpare (x ++ ("wxyzv" : Str)) := fun k e => by
  have h1 : (x ++ ("wxyzv" : Str)).cps.toList = (spare k).cps.toList := by rw [e]
  have e1 : (x ++ ("wxyzv" : Str)).cps.toList = x.cps.toList ++ [119, 120, 121, 122, 118] := by
    show (x.cps ++ ("wxyzv" : Str).cps).toList = _
    rw [Array.toList_append]
    exact congrArg _ (by decide +kernel)
  have e2 : (spare k).cps.toList = [115, 112, 97, 114, 101, 113, 97 + k] := by
    show (("spareq" : Str).cps ++ #[97 + k]).toList = _
    rw [Array.toList_append]
    have : ("spareq" : Str).cps.toList = [115, 112, 97, 114, 101, 113] := by decide +kernel
    rw [this]; rfl
  rw [e1, e2] at h1
  have hl : x.cps.toList.length ≤ 3 := by rw [Array.length_toList]; exact h
  match hx : x.cps.toList, hl with
  | [], _ => rw [hx] at h1; simp at h1
  | [a], _ => rw [hx] at h1; simp at h1
  | [a, b], _ => rw [hx] at h1; simp at h1
  | [a, b, d], _ => rw [hx] at h1; simp at h1
section
variable {P : Program} {w : World} {K : PySem.W.Frag} {mg : Str → Option Value} {base : Heap} {C_Shape C_SHAPES : Addr}
def spWord : Sp := fun vs H Q _ => ∃ (S c t : Addr) (ws : List Str), vs = [.ref S, .ref t] ∧ StAt H S c ∧ t ≠ S ∧ t ≠ c ∧ H t = some (.lst (ws.map V.str)) ∧ ws.length ≤ 20 ∧ WdOk ws ∧
  ∀ H' x, MvX S c t H H' → H' t = some (.lst ((ws ++ [x]).map V.str)) → WdOk (ws ++ [x]) → Q (.str x) H'
theorem ok__law_word (T : Txt K mg C_Shape C_SHAPES) (R : Prg K mg C_Shape C_SHAPES) : ∃ f fd, Fn P w K mg base "_law_word" 3 ["_law_state", "_law_taken"] spWord f fd := by
  obtain ⟨_, _, G__law_draw⟩ := ok__law_draw (P := P) (w := w) (base := base) T R
  obtain ⟨f, fd, at_, F, kp⟩ := R._law_word
  refine ⟨f, fd, F.ok sc__law_word (fun vs H Q E h => ?_) (fun cdv A outer s H vs Q E hr h => ?_), at_, kp, F.binds (fun _ _ _ _ _ _ us hl => match us, hl with | [_, _], _ => rfl)⟩
  · obtain ⟨S, c, t, ws, rfl, _⟩ := h; rfl
  · obtain ⟨S, c, t, ws, rfl, st, tS, tc, ht, l20, ok, k⟩ := h
    refine ⟨_, (pss_cons (ps_set (i := 2) sc__law_word.nd rfl (Or.inl rfl) pe_str)
  (pss_cons (ps_set (i := 3) sc__law_word.nd rfl (Or.inl rfl) pe_str)
  (pss_cons (ps_for PassesOwn.never rfl (pi_range1 (by rfl) T.range (pa_cons (pe_op op_add pe_int (pcl G__law_draw hr (pa_cons (pv 0) (pa_cons pe_int pa_nil)))) pa_nil)) (pg_name (i := 4) sc__law_word.nd rfl (Or.inl rfl))
    (pss_one (ps_set (i := 3) sc__law_word.nd rfl (Or.inl rfl) (pe_op op_add_str (pv 3) (pe_ix ix_str (pv 2) (pcl G__law_draw hr (pa_cons (pv 0) (pa_cons pe_int pa_nil))) (fun _ _ => rfl))))))
  (Evl.pss_cut (ps_if (pt_cmpR op_eq (pcl G__law_draw hr (pa_cons (pv 0) (pa_cons pe_int pa_nil))) pe_int (nomark _)) (pss_one (ps_set (i := 3) sc__law_word.nd rfl (Or.inl rfl) (pe_op op_add_str (pv 3) pe_str))) pss_nil)
  (Evl.pss_cut (ps_if (pt_cmpR (r := rIn K false) op_in_seq (pv 3) (pv 1) (by rfl)) (pss_one (ps_set (i := 3) sc__law_word.nd rfl (Or.inl rfl) (pe_op op_add_str pe_str (pe_ix ix_str (pv 2) (pe_callB (r := rLenA K) call_len (by rfl) T.len (by decide +kernel) (pa_cons (pv 1) pa_nil)) (fun _ _ => rfl))))) pss_nil)
  (pss_cons (ps_expr (show PE _ _ (tBM K _ _ _ _) from pe_bm PySem.F.plainAttrs_list PySem.F.slot_list_append PySem.F.type_list_append mt_append (pv 1) (pa_cons (pv 3) pa_nil)))
  (pss_one (ps_ret (pv 3))))))))), ?_⟩
    refine Evl.q_asg Evl.ev_c fun H1 e1 => ?_
    refine Evl.q_asg Evl.ev_c fun H2 e2 => ?_
    have m2 := Mv.ex st (e1.trans e2)
    refine dr_go (m := 3) (Evl.ea_cons (Evl.ev_var rfl) (Evl.ea_cons Evl.ev_c Evl.ea_nil)) m2.z (by decide) (by decide) fun H3 r m3 r0 r1 => ⟨_, _, rfl, rfl, _, rfl, by omega, by omega, ?_⟩
    have m03 := m2.trans m3
    refine for_it walk_range (fun i σ' H' => ∃ (b : Str) (o4 : Option V), σ' = [some (.ref S), some (.ref t), some (.str ab), some (.str b), o4] ∧ Mv S c H H' ∧ b.length = i ∧ ∀ c ∈ b.cps.toList, 97 ≤ c ∧ c ≤ 122) ⟨_, _, rfl, m03, rfl, fun c hc => by cases hc⟩ (fun _ _ _ _ _ => trivial) (fun i x σ' H0 H' hi pv y => ?_) fun σ' H4 pv => ?_
    · obtain ⟨b, o4, rfl, mH, lb, hb⟩ := pv
      obtain ⟨rfl, rfl⟩ := y
      refine ⟨_, rfl, _, rfl, dr_go (m := 26) (Evl.ea_cons (Evl.ev_var rfl) (Evl.ea_cons Evl.ev_c Evl.ea_nil)) mH.z (by decide) (by decide) fun H5 q m5 q0 q1 => ?_⟩
      obtain ⟨qn, rfl⟩ := Int.eq_ofNat_of_zero_le q0
      refine ⟨ab, (qn : Int), _, rfl, rfl, by decide +kernel, ab_at (by omega), b, _, rfl, rfl, Evl.sz_of (by show b.length + 1 ≤ 100000; omega), ?_⟩
      refine gname_go ⟨_, _, rfl, mH.trans m5, ?_, fun d hd => ?_⟩
      · show (b.cps ++ #[97 + qn]).size = i + 1
        rw [Array.size_append]
        show b.length + 1 = i + 1
        rw [lb]
      · have hd : d ∈ (b.cps ++ #[97 + qn]).toList := hd
        rw [Array.toList_append, List.mem_append] at hd
        rcases hd with hd | hd
        · exact hb d hd
        · have : d = 97 + qn := by simpa using hd
          omega
    · obtain ⟨b, o4, rfl, mH, lb, hb⟩ := pv
      have lb3 : 1 ≤ b.length ∧ b.length ≤ 3 := by omega
      refine Evl.q_cut (M := fun σ' H' => ∃ b : Str, σ' = [some (.ref S), some (.ref t), some (.str ab), some (.str b), o4] ∧ Mv S c H H' ∧ isW b ∧ notSpare b) ?_ fun σ' H5 pm => ?_
      · refine dr_if (m := 6) (z := 0) (Evl.ea_cons (Evl.ev_var rfl) (Evl.ea_cons Evl.ev_c Evl.ea_nil)) mH.z (by decide) (by decide) (fun H5 m5 => ?_) (fun H5 m5 => ⟨b, rfl, mH.trans m5, ⟨lb3.1, by omega, hb⟩, short_ns lb3.2⟩)
        refine Evl.s_asg (v := .str (b ++ ("wxyzv" : Str))) (Evl.ev_op (Evl.ev_var rfl) Evl.ev_c (fun H7 _ Q' q' => ⟨_, _, rfl, rfl, Evl.sz_of (by show b.length + 5 ≤ 100000; omega), q' _ (Ex.refl _)⟩)) fun H6 e6 => ⟨_, rfl, (mH.trans m5).tx e6, ⟨?_, ?_, fun d hd => ?_⟩, long_ns lb3.2⟩
        · show 1 ≤ (b.cps ++ ("wxyzv" : Str).cps).size
          rw [Array.size_append]
          have : 1 ≤ b.cps.size := lb3.1
          omega
        · show (b.cps ++ ("wxyzv" : Str).cps).size ≤ 8
          rw [Array.size_append]
          have h1 : b.cps.size ≤ 3 := lb3.2
          have h2 : ("wxyzv" : Str).cps.size = 5 := by decide +kernel
          omega
        · have hd : d ∈ (b.cps ++ ("wxyzv" : Str).cps).toList := hd
          rw [Array.toList_append, List.mem_append] at hd
          rcases hd with hd | hd
          · exact hb d hd
          · exact (by decide +kernel : ∀ c ∈ ("wxyzv" : Str).cps.toList, 97 ≤ c ∧ c ≤ 122) d hd
      obtain ⟨b, rfl, m5, wb, nb⟩ := pm
      have ht5 := m5.fr t _ tS tc ht
      refine Evl.q_cut (M := fun σ' H' => ∃ b : Str, σ' = [some (.ref S), some (.ref t), some (.str ab), some (.str b), o4] ∧ Mv S c H H' ∧ WdOk (ws ++ [b])) ?_ fun σ' H6 pm => ?_
      · refine Evl.s_when (b := decide (b ∈ ws)) (Evl.et_is (Evl.et_test (Evl.ev_op (Evl.ev_var rfl) (Evl.ev_var rfl) (Evl.rv_isL (Evl.sq_of ht5) rfl (all_flat_str ws)))) inV_str) (fun hb H6 e6 => ?_) (fun hb H6 e6 => ⟨b, rfl, m5.tx e6, ok.snoc wb (.inr nb) (of_decide_eq_false hb)⟩)
        refine Evl.s_asg (v := .str (spare ws.length)) (Evl.ev_op Evl.ev_c (Evl.ev_op (Evl.ev_var rfl) (Evl.ev_is (ev_lenL (Evl.ev_var rfl) (.inl (Evl.sq_of (e6 _ _ ht5)))) (by rw [List.length_map])) (Evl.rv_ixS (by show 26 ≤ 100000; decide) (ab_at (by omega)))) (fun H7 _ Q' q' => ⟨_, _, rfl, rfl, Evl.sz_of (by show ("spareq" : Str).length + 1 ≤ 100000; decide +kernel), q' _ (Ex.refl _)⟩)) fun H7 e7 => ⟨_, rfl, (m5.tx e6).tx e7, ok.snoc (spare_w (by omega)) (.inl rfl) (spare_new ok)⟩
      obtain ⟨b, rfl, m6, okb⟩ := pm
      have ht6 := m6.fr t _ tS tc ht
      refine ⟨_, rfl, .inl ⟨rfl, _, Evl.sq_of ht6⟩, _, rfl, t, _, _, rfl, rfl, ht6, Evl.sz_lt (by rw [List.length_map]; omega), ?_⟩
      refine Evl.s_ret (Evl.ev_var rfl) fun H7 e7 => k H7 b ⟨(m6.z.upd ⟨tS, tc⟩).ex e7, fun y o y1 y2 y3 hy => e7 _ _ (by rw [upd_ne y3]; exact m6.fr y o y1 y2 hy)⟩ ?_ okb
      refine e7 _ _ ?_
      rw [upd_same, List.map_append]; rfl
end
end Pk

namespace Pk
open PySem PySem.Spec PyProof.Rows L2 Ssb
open Evl (Ex Ev EvT EvL EvA EvU)
/-! ### shapes that are drawn -/
/-- only what stands counts -/
theorem rep_dom {H : Hp} : ∀ {n : Nat} {S : Addr → Prop} {d : D} {v : V}, Rep H n S d v → Rep H n (fun b => S b ∧ H b ≠ none) d v
  | 0, _, _, _, h => h.elim
  | n + 1, S, d, v, h => by
    cases d with
    | non => exact h
    | bl b => exact h
    | int i => exact h
    | str s => exact h
    | lst l =>
      obtain ⟨a, xs, e, s, ha, hl, p⟩ := h
      exact ⟨a, xs, e, ⟨s, by rw [ha]; exact fun z => nomatch z⟩, ha, hl, pair_imp p fun d x r => rep_dom r⟩
    | tup l =>
      obtain ⟨a, xs, e, ha, hl, p⟩ := h
      exact ⟨a, xs, e, ha, hl, pair_imp p fun d x r => rep_dom r⟩
    | dic l =>
      obtain ⟨a, es, e, s, ha, hl, p⟩ := h
      exact ⟨a, es, e, ⟨s, by rw [ha]; exact fun z => nomatch z⟩, ha, hl, pair_imp p fun q x r => ⟨r.1, rep_S (fun b z => ⟨⟨z.1.1, z.2⟩, z.1.2⟩) (rep_dom r.2)⟩⟩
theorem rep_Sd {H : Hp} {n : Nat} {S S' : Addr → Prop} {d : D} {v : V} (k : ∀ b, S b → H b ≠ none → S' b) (h : Rep H n S d v) : Rep H n S' d v := rep_S (fun b z => k b z.1 z.2) (rep_dom h)
theorem lk_none {α : Type} : ∀ {l : List (Str × α)} {k : Str}, k ∉ l.map (·.1) → l.lookup k = none
  | [], _, _ => rfl
  | (j, d) :: l, k, h => by
    rw [lk_cons, if_neg (fun e => h (by rw [e]; exact List.mem_cons_self))]
    exact lk_none fun z => h (List.mem_cons_of_mem _ z)
theorem pair_strs {H : Hp} {n : Nat} {S : Addr → Prop} : ∀ {ws : List Str}, Paired (fun d x => Rep H (n + 1) S d x) (ws.map D.str) (ws.map V.str)
  | [] => .nil
  | w :: ws => .cons rfl pair_strs
theorem merge2 {k1 k2 : Str} {v1 v2 : V} (ne : k1 ≠ k2) : mergeK [] [((Sum.inr k1 : Key), v1), (Sum.inr k2, v2)] = [(Sum.inr k1, v1), (Sum.inr k2, v2)] := by
  show putK (putK [] (Sum.inr k1 : Key) v1) (Sum.inr k2) v2 = _
  rw [putK_new _ (by rfl : valV ([] : List (Key × V)) (Sum.inr k1) = none), List.nil_append, putK_new]
  · rfl
  · rw [vV_cons, if_neg fun z => ne (Sum.inr.inj z)]; rfl
def okFe (p : Str × List Str) : Prop := isW p.1 ∧ 2 ≤ p.2.length ∧ p.2.length ≤ 3 ∧ (∀ x ∈ p.2, isW x) ∧ p.2.Nodup
theorem rep_mvx {S c t : Addr} {H H' : Hp} (m : MvX S c t H H') (st : StAt H S c) {o : HO} (ht : H t = some o) (no : ∀ xs, o ≠ .tup xs) {n : Nat} {P : Addr → Prop} {d : D} {v : V} (n1 : ¬ P S) (n2 : ¬ P c) (n3 : ¬ P t) (h : Rep H n P d v) : Rep H' n P d v := by
  obtain ⟨_, k, cs, h1, h2, _⟩ := st
  refine rep_to (fun b o' hb hp => m.fr b o' (fun e => ?_) (fun e => ?_) (fun e => ?_) hb) h
  · rw [e] at hp hb
    rcases hp with hp | ⟨xs, rfl⟩
    · exact n1 hp
    · rw [h1] at hb; cases hb
  · rw [e] at hp hb
    rcases hp with hp | ⟨xs, rfl⟩
    · exact n2 hp
    · rw [h2] at hb; cases hb
  · rw [e] at hp hb
    rcases hp with hp | ⟨xs, rfl⟩
    · exact n3 hp
    · rw [ht] at hb; exact no _ (Option.some.inj hb)
section
variable {P : Program} {w : World} {K : PySem.W.Frag} {mg : Str → Option Value} {base : Heap} {C_Shape C_SHAPES : Addr}
def spFieldsG : Sp := fun vs H Q _ => ∃ (S c : Addr), vs = [.ref S] ∧ StAt H S c ∧ ∀ H' q f, Mv S c H H' → Rep H' 3 (fun b => H b = none) (flD f) (.ref q) → okFl f → Q (.ref q) H'
theorem ok__law_rich_fields (T : Txt K mg C_Shape C_SHAPES) (R : Prg K mg C_Shape C_SHAPES) : ∃ f fd, Fn P w K mg base "_law_rich_fields" 4 ["_law_state"] spFieldsG f fd := by
  obtain ⟨_, _, G__law_word⟩ := ok__law_word (P := P) (w := w) (base := base) T R
  obtain ⟨_, _, G__law_draw⟩ := ok__law_draw (P := P) (w := w) (base := base) T R
  obtain ⟨f, fd, at_, F, kp⟩ := R._law_rich_fields
  refine ⟨f, fd, F.ok sc__law_rich_fields (fun vs H Q E h => ?_) (fun cdv A outer s H vs Q E hr h => ?_), at_, kp, F.binds (fun _ _ _ _ _ _ us hl => match us, hl with | [_], _ => rfl)⟩
  · obtain ⟨S, c, rfl, _⟩ := h; rfl
  · obtain ⟨S, c, rfl, st, k⟩ := h
    refine ⟨_, (pss_cons (ps_set (i := 1) sc__law_rich_fields.nd rfl (Or.inl rfl) pe_dnewK)
  (pss_cons (ps_set (i := 2) sc__law_rich_fields.nd rfl (Or.inl rfl) (pe_lst pa_nil))
  (pss_cons (ps_for PassesOwn.never rfl (pi_range1 (by rfl) T.range (pa_cons (pcl G__law_draw hr (pa_cons (pv 0) (pa_cons pe_int pa_nil))) pa_nil)) (pg_name (i := 3) sc__law_rich_fields.nd rfl (Or.inl rfl))
    (pss_cons (ps_set (i := 4) sc__law_rich_fields.nd rfl (Or.inl rfl) (pcl G__law_word hr (pa_cons (pv 0) (pa_cons (pv 2) pa_nil))))
  (pss_cons (ps_set (i := 5) sc__law_rich_fields.nd rfl (Or.inr rfl) (pe_lst pa_nil))
  (pss_cons (ps_setLc (i := 6) (own := [("_law_k", 3)]) rfl sc__law_rich_fields.nd rfl rfl (sw_true rfl rfl rfl (by decide +kernel)) (pi_range1 (by rfl) T.range (pa_cons (pe_op op_add pe_int (pcl G__law_draw hr (pa_cons (pv 0) (pa_cons pe_int pa_nil)))) pa_nil)) (blkOk_by (own := [("_law_k", 3)]) (N := ["_law_state", "_law_fields", "_law_taken", "_law_k", "_law_field", "_law_inside", "_law_several"]) (sc := defScope s__law_rich_fields) (by decide +kernel)) (fun _ _ _ _ _ => (pg_name (i := 3) sc__law_rich_fields.nd rfl (Or.inl rfl))) (fun _ _ _ _ _ => pts_nil) (fun _ _ _ _ _ => (pcl G__law_word hr (pa_cons (pv 0) (pa_cons (pv 5) pa_nil)))))
  (pss_one (ps_dput (hu_of hr) (pv 1) (pv 4) (pe_callTy (r := rTupA K) call_tuple_of (by rfl) T.tuple (by decide +kernel) (pa_cons (pv 6) pa_nil)) rfl))))))
  (pss_one (ps_ret (pv 1)))))), ?_⟩
    intro d hd
    refine gname_go ?_
    have dS := st.someS hd
    refine Evl.q_asgL (xs := []) (Evl.el_lst Evl.ea_nil (Nat.zero_le _)) fun t H2 ht e2 ht2 => ?_
    have td : t ≠ d := fun e => by rw [e, upd_same] at ht; cases ht
    have htH : H t = none := by rw [upd_ne td] at ht; exact ht
    have tS := st.someS htH
    have m02 := (Mv.new (o := .dK []) st hd).tx e2
    refine dr_go (m := 3) (Evl.ea_cons (Evl.ev_var rfl) (Evl.ea_cons Evl.ev_c Evl.ea_nil)) m02.z (by decide) (by decide) fun H3 r m3 r0 r1 => ⟨r, rfl, by omega, by omega, ?_⟩
    have m03 := m02.trans m3
    refine for_it walk_range (fun i σ' H' => ∃ (es : List (Key × V)) (f : Fl) (ws : List Str) (o3 o4 o5 o6 : Option V), σ' = [some (.ref S), some (.ref d), some (.ref t), o3, o4, o5, o6] ∧ Mv S c H H' ∧ H' d = some (.dK es) ∧ H' t = some (.lst (ws.map V.str)) ∧ ws.length = i ∧ WdOk ws ∧ f.map (·.1) = ws ∧ (∀ p ∈ f, okFe p) ∧
        Paired (fun (x : Str × D) (e : Key × V) => e.1 = Sum.inr x.1 ∧ Rep H' 2 (fun b => (H b = none ∧ b ≠ t) ∧ b ≠ d) x.2 e.2) (f.map fun p => (p.1, .tup (p.2.map .str))) es)
      ⟨[], [], [], _, _, _, _, rfl, m03, m3.fr d _ dS.1 dS.2 (e2 _ _ upd_same), m3.fr t _ tS.1 tS.2 ht2, rfl, .nil, rfl, (fun p hp => nomatch hp), .nil⟩ (fun _ _ _ _ _ => trivial) (fun i x σ' H0 H' hi pv y => ?_) fun σ' H' pv => ?_
    · obtain ⟨es, f, ws, o3, o4, o5, o6, rfl, mH, hdH, htH', lw, ok, fk, fok, pr⟩ := pv
      obtain ⟨rfl, rfl⟩ := y
      refine gname_go ?_
      refine ⟨_, rfl, _, rfl, S, c, t, ws, rfl, mH.z, tS.1, tS.2, htH', by omega, ok, fun H5 x mx ht5 ok5 => ?_⟩
      refine gname_go ?_
      have m05 := mH.x htH mx
      have hd5 := mx.fr d _ dS.1 dS.2 td.symm hdH
      have pr5 := pair_imp pr fun a b h => (⟨h.1, rep_mvx mx mH.z htH' (fun _ z => nomatch z) (fun z => (st.someS z.1.1).1 rfl) (fun z => (st.someS z.1.1).2 rfl) (fun z => z.1.2 rfl) h.2⟩ : _ ∧ _)
      clear pr hdH htH' mx mH
      refine Evl.q_asgL (xs := []) (Evl.el_lst Evl.ea_nil (Nat.zero_le _)) fun t2 H6 ht2' e6 ht26 => ?_
      have m56 := Mv.ex m05.z e6
      have t2S := m05.z.someS ht2'
      refine q_go (dr_go (m := 2) (Evl.ea_cons (Evl.ev_var rfl) (Evl.ea_cons Evl.ev_c Evl.ea_nil)) m56.z (by decide) (by decide) fun H7 r5 m7 s0 s1 => ⟨_, _, rfl, rfl, _, rfl, by omega, by omega, fun q hq => ?_⟩)
      have m57 := m56.trans m7
      have hq5 := m57.back hq
      have qS := m05.z.someS hq5
      have ht27 := m7.fr t2 _ t2S.1 t2S.2 ht26
      have qt2 : q ≠ t2 := fun e => by rw [e, ht27] at hq; cases hq
      refine lc_it walk_range (fun j H' => Mv S c H5 H' ∧ ∃ vs : List Str, H' q = some (.lst (vs.map V.str)) ∧ H' t2 = some (.lst (vs.map V.str)) ∧ vs.length = j ∧ WdOk vs) ⟨m57.trans (Mv.new m7.z hq), [], upd_same, by rw [upd_ne qt2.symm]; exact ht27, rfl, .nil⟩ (fun _ _ _ _ => trivial) (fun j x' H0 H' hj pv y => ?_) fun H8 pv => ?_
      · obtain ⟨mv, vs, hqv, htv, lv, okv⟩ := pv
        obtain ⟨rfl, hx⟩ := y
        refine ⟨rfl, yes_go ?_⟩
        refine ⟨_, rfl, _, rfl, S, c, t2, vs, rfl, mv.z, t2S.1, t2S.2, htv, by omega, okv, fun H9 y my ht9 ok9 => ?_⟩
        have hq9 := my.fr q _ qS.1 qS.2 qt2 hqv
        refine ⟨_, hq9, Evl.sz_lt (by rw [List.length_map]; omega), (mv.x ht2' my).mut hq5, vs ++ [y], by rw [upd_same, List.map_append]; rfl, by rw [upd_ne qt2.symm]; exact ht9, by rw [List.length_append, lv]; rfl, ok9⟩
      · obtain ⟨mv, vs, hqv, htv, lv, okv⟩ := pv
        dsimp only
        have m08 := m05.trans mv
        have lv2 : 2 ≤ vs.length ∧ vs.length ≤ 3 := by omega
        refine ⟨_, rfl, q, _, rfl, .inl ⟨Evl.sq_of hqv, fun tp htp => ?_⟩⟩
        have eT := Ex.new (o := .tup (vs.map V.str)) htp
        have m09 := m08.tx eT
        have m59 := mv.tx eT
        have hd9 := m59.fr d _ dS.1 dS.2 hd5
        have ht9 := m59.fr t _ tS.1 tS.2 ht5
        have htp9 : (upd H8 tp (.tup (vs.map V.str))) tp = some (.tup (vs.map V.str)) := upd_same
        generalize (upd H8 tp (.tup (vs.map V.str))) = H9 at m09 m59 hd9 ht9 htp9 ⊢
        have les : es.length = f.length := by have := pair_len pr5; rw [List.length_map] at this; exact this.symm
        have lf : f.length = i := by rw [← lw, ← fk, List.length_map]
        have nx : x ∉ ws := fun hm => (List.nodup_append.mp ok5.nd).2.2 x hm x (List.mem_singleton.mpr rfl) rfl
        have nv : valV es (Sum.inr x : Key) = none := pair_no (F := fun x v => Rep H5 2 (fun b => (H b = none ∧ b ≠ t) ∧ b ≠ d) x v) pr5 (lk_none (by rw [List.map_map]; show x ∉ f.map (·.1); rw [fk]; exact nx))
        refine ⟨_, rfl, _, rfl, d, _, rfl, .inl ⟨es, Sum.inr x, hd9, rfl, Evl.sz_lt (by omega), rfl⟩, ?_⟩
        refine ⟨es ++ [(Sum.inr x, .ref tp)], f ++ [(x, vs)], ws ++ [x], _, _, _, _, rfl, m09.mut hd, by rw [upd_same, putK_new _ nv], by rw [upd_ne td]; exact ht9, by rw [List.length_append, lw]; rfl, ok5, by rw [List.map_append, fk]; rfl, fun p hp => ?_, ?_⟩
        · rcases List.mem_append.mp hp with hp | hp
          · exact fok p hp
          · rw [List.mem_singleton.mp hp]
            exact ⟨ok5.w x (List.mem_append_right _ List.mem_cons_self), lv2.1, lv2.2, okv.w, okv.nd⟩
        · rw [List.map_append]
          have tr : ∀ {y : D} {v : V}, Rep H9 2 (fun b => (H b = none ∧ b ≠ t) ∧ b ≠ d) y v → Rep (upd H9 d (.dK (putK es (Sum.inr x) (.ref tp)))) 2 (fun b => (H b = none ∧ b ≠ t) ∧ b ≠ d) y v := fun h => rep_lock hd9 (fun b z => z.2) h
          refine pair_snoc (pair_imp pr5 fun a b h => ⟨h.1, tr (rep_mv m59 (fun z => (st.someS z.1.1).1 rfl) (fun z => (st.someS z.1.1).2 rfl) h.2)⟩) ⟨rfl, tr ?_⟩
          exact ⟨tp, _, rfl, htp9, by show (vs.map D.str).length ≤ 100000; rw [List.length_map]; omega, pair_strs⟩
    · obtain ⟨es, f, ws, o3, o4, o5, o6, rfl, mH, hdH, htH', lw, ok, fk, fok, pr⟩ := pv
      have lf : f.length = ws.length := by rw [← fk, List.length_map]
      exact Evl.s_ret (Evl.ev_var rfl) fun H7 e7 => k H7 d f (mH.tx e7) (rep_ex e7 ⟨d, es, rfl, hd, hdH, by rw [List.length_map]; omega, pair_imp pr fun a b h => ⟨h.1, rep_S (fun b hb => ⟨hb.1.1, hb.2⟩) h.2⟩⟩) ⟨by omega, by rw [fk]; exact ok.nd, fok⟩
end
end Pk

namespace Pk
open PySem PySem.Spec PyProof.Rows L2 Ssb
open Evl (Ex Ev EvT EvL EvA EvU)
/-! ### the whole shape -/
def inL (i : List (Str × Fl)) : List (Str × D) := i.map fun q => (q.1, .dic [("fields", flD q.2), ("inner", .dic [])])
def elD (f : Fl) (i : List (Str × Fl)) : D := .dic [("fields", flD f), ("inner", .dic (inL i))]
def lsL (s : Sh) : List (Str × D) := s.map fun p => (p.1, elD p.2.1 p.2.2)
def lsD (s : Sh) : D := .dic (lsL s)
theorem ne_fi : ("fields" : Str) ≠ "inner" := by decide +kernel
theorem rep_le {H : Hp} {n : Nat} {S : Addr → Prop} {d : D} {v : V} : ∀ {m : Nat}, n ≤ m → Rep H n S d v → Rep H m S d v := by
  intro m hm h
  induction hm with
  | refl => exact h
  | step _ ih => exact rep_up ih
theorem merge_2 {k1 k2 : Str} {v1 v2 : V} (ne : k1 ≠ k2) : mergeK [] [((Sum.inr k1 : Key), v1), (Sum.inr k2, v2)] = [(Sum.inr k1, v1), (Sum.inr k2, v2)] := by
  show putK [((Sum.inr k1 : Key), v1)] (Sum.inr k2) v2 = _
  rw [putK_new _ (by rw [vV_cons, if_neg (fun e => ne (Sum.inr.inj e))]; rfl)]
  rfl
structure PcOk (fl : List Str) (s : Sh) (ws : List Str) : Prop where
  ok : WdOk ws
  us : ∃ us, ws = fl ++ us ∧ us.Perm ((rowsS s).map (·.1))
  p : ∀ p ∈ s, isW p.1 ∧ okFl p.2.1 ∧ p.2.2.length ≤ 1 ∧ ∀ q ∈ p.2.2, isW q.1 ∧ okFl q.2
theorem rows_app (s : Sh) (p : Str × Fl × List (Str × Fl)) : rowsS (s ++ [p]) = rowsS s ++ rowsOf p := by unfold rowsS; rw [List.flatMap_append]; simp
theorem PcOk.okSh {fl : List Str} {s : Sh} {ws : List Str} (h : PcOk fl s ws) (l : s.length ≤ 2) : okSh s ∧ fl.Nodup ∧ ∀ x ∈ fl, isW x := by
  obtain ⟨us, rfl, pm⟩ := h.us
  have nd := List.nodup_append.mp h.ok.nd
  exact ⟨⟨l, pm.nodup_iff.mp nd.2.1, h.p⟩, nd.1, fun x hx => h.ok.w x (List.mem_append_left _ hx)⟩
section
variable {P : Program} {w : World} {K : PySem.W.Frag} {mg : Str → Option Value} {base : Heap} {C_Shape C_SHAPES : Addr}
/-- {'fields': rich_fields(state), 'inner': te} -/
theorem el_go {te : TE} {σ : L2.St} {H : Hp} {S c : Addr} {Q : VK} {i : List (Str × Fl)} {n : Nat} {P : Addr → Prop} (hs : σ[0]? = some (some (.ref S))) (st : StAt H S c) (hP : ∀ b, P b → H b ≠ none)
    (hte : ∀ H1, Mv S c H H1 → ∀ Q1 : VK, (∀ u H2, Ex H1 H2 → Rep H2 (n + 3) (fun b => P b ∨ H1 b = none) (.dic (inL i)) u → Q1 u H2) → te σ H1 Q1)
    (k : ∀ p H' f, Mv S c H H' → H p = none → Rep H' (n + 4) (fun b => P b ∨ H b = none) (elD f i) (.ref p) → okFl f → Q (.ref p) H') :
    tDisp [(tC (.str "fields"), tCall spFieldsG [] E0 (tCons (tVar 0) tNil)), (tC (.str "inner"), te)] σ H Q := by
  intro p hp
  have mp := Mv.new (o := .dK []) st hp
  have pS := st.someS hp
  refine ⟨_, hs, S, c, rfl, mp.z, fun H3 qd f m3 rf okf => ?_⟩
  have m03 := mp.trans m3
  refine hte H3 m03 _ fun u H4 e4 ru => ?_
  have hp4 := e4 _ _ (m3.fr p _ pS.1 pS.2 upd_same)
  refine ⟨hp4, [(Sum.inr "fields", .ref qd), (Sum.inr "inner", u)], rfl, by show 2 ≤ 15; decide, ?_⟩
  rw [merge_2 ne_fi]
  refine k p _ f ((m03.tx e4).mut hp) hp ?_ okf
  have np : ∀ b, (upd H p (.dK [])) b = none → H b = none ∧ b ≠ p := fun b hb => by
    have n : b ≠ p := fun z => by rw [z, upd_same] at hb; cases hb
    rw [upd_ne n] at hb; exact ⟨hb, n⟩
  have rf : Rep H4 (n + 3) (fun b => H b = none ∧ b ≠ p) (flD f) (.ref qd) := by
    exact rep_le (by omega) (rep_ex e4 (rep_S (S' := fun b => H b = none ∧ b ≠ p) (fun b hb => np b hb) rf))
  refine ⟨p, _, rfl, .inr hp, upd_same, by show 2 ≤ 100000; decide, .cons ⟨rfl, ?_⟩ (.cons ⟨rfl, ?_⟩ .nil)⟩
  · exact rep_upd hp4 (fun _ z => nomatch z) (fun b z => z.2) (rep_S (fun b hb => ⟨.inr hb.1, hb.2⟩) rf)
  · refine rep_upd hp4 (fun _ z => nomatch z) (fun b z => z.2) (rep_S (fun b hb => ?_) ru)
    rcases hb with hb | hb
    · exact ⟨.inl hb, fun z => hP b hb (by rw [z]; exact hp)⟩
    · have := np b (m3.back hb)
      exact ⟨.inr this.1, this.2⟩
def spRich : Sp := fun vs H Q _ => ∃ (S c : Addr), vs = [.ref S] ∧ StAt H S c ∧
  ∀ (H' : Hp) (q qf ql : Addr) (fl : List Str) (s : Sh), Mv S c H H' → H q = none → H qf = none → H' q = some (.lst [.ref qf, .ref ql]) → H' qf = some (.lst (fl.map V.str)) → fl.length ≤ 2 → fl.Nodup → (∀ x ∈ fl, isW x) → Rep H' 7 (fun b => H b = none) (lsD s) (.ref ql) → okSh s → Q (.ref q) H'
theorem ok__law_rich (T : Txt K mg C_Shape C_SHAPES) (R : Prg K mg C_Shape C_SHAPES) : ∃ f fd, Fn P w K mg base "_law_rich" 5 ["_law_state"] spRich f fd := by
  obtain ⟨_, _, G__law_word⟩ := ok__law_word (P := P) (w := w) (base := base) T R
  obtain ⟨_, _, G__law_draw⟩ := ok__law_draw (P := P) (w := w) (base := base) T R
  obtain ⟨_, _, G__law_rich_fields⟩ := ok__law_rich_fields (P := P) (w := w) (base := base) T R
  obtain ⟨f, fd, at_, F, kp⟩ := R._law_rich
  refine ⟨f, fd, F.ok sc__law_rich (fun vs H Q E h => ?_) (fun cdv A outer s H vs Q E hr h => ?_), at_, kp, F.binds (fun _ _ _ _ _ _ us hl => match us, hl with | [_], _ => rfl)⟩
  · obtain ⟨S, c, rfl, _⟩ := h; rfl
  · obtain ⟨S, c, rfl, st, k⟩ := h
    refine ⟨_, (pss_cons (ps_set (i := 1) sc__law_rich.nd rfl (Or.inr rfl) (pe_lst pa_nil))
  (pss_cons (ps_setLc (i := 2) (own := [("_law_k", 4)]) rfl sc__law_rich.nd rfl rfl (sw_true rfl rfl rfl (by decide +kernel)) (pi_range1 (by rfl) T.range (pa_cons (pcl G__law_draw hr (pa_cons (pv 0) (pa_cons pe_int pa_nil))) pa_nil)) (blkOk_by (own := [("_law_k", 4)]) (N := ["_law_state", "_law_taken", "_law_flags", "_law_lists", "_law_k", "_law_inner"]) (sc := defScope s__law_rich) (by decide +kernel)) (fun _ _ _ _ _ => (pg_name (i := 4) sc__law_rich.nd rfl (Or.inl rfl))) (fun _ _ _ _ _ => pts_nil) (fun _ _ _ _ _ => (pcl G__law_word hr (pa_cons (pv 0) (pa_cons (pv 1) pa_nil)))))
  (pss_cons (ps_set (i := 3) sc__law_rich.nd rfl (Or.inl rfl) pe_dnewK)
  (pss_cons (ps_for PassesOwn.never rfl (pi_range1 (by rfl) T.range (pa_cons (pe_ix (r := rIxT K) ix_tup (pe_tup (pa_cons pe_int (pa_cons pe_int (pa_cons pe_int (pa_cons pe_int (pa_cons pe_int pa_nil)))))) (pcl G__law_draw hr (pa_cons (pv 0) (pa_cons pe_int pa_nil))) (fun _ _ => rfl)) pa_nil)) (pg_name (i := 4) sc__law_rich.nd rfl (Or.inl rfl))
    (pss_cons (ps_set (i := 5) sc__law_rich.nd rfl (Or.inl rfl) pe_dnewK)
  (Evl.pss_cut (ps_if (pt_cmpR op_eq (pcl G__law_draw hr (pa_cons (pv 0) (pa_cons pe_int pa_nil))) pe_int (nomark _)) (pss_one (ps_dput (hu_of hr) (pv 5) (pcl G__law_word hr (pa_cons (pv 0) (pa_cons (pv 1) pa_nil))) (pe_disp (pps_cons pe_str (pcl G__law_rich_fields hr (pa_cons (pv 0) pa_nil)) (pps_cons pe_str pe_dnewK pps_nil)) (by rfl) (by rfl) (fun z => by cases z) (by decide)) rfl)) pss_nil)
  (pss_one (ps_dput (hu_of hr) (pv 3) (pcl G__law_word hr (pa_cons (pv 0) (pa_cons (pv 1) pa_nil))) (pe_disp (pps_cons pe_str (pcl G__law_rich_fields hr (pa_cons (pv 0) pa_nil)) (pps_cons pe_str (pv 5) pps_nil)) (by rfl) (by rfl) (fun z => by cases z) (by decide)) rfl)))))
  (pss_one (ps_ret (pe_lst (pa_cons (pv 2) (pa_cons (pv 3) pa_nil))))))))), ?_⟩
    refine Evl.q_asgL (xs := []) (Evl.el_lst Evl.ea_nil (Nat.zero_le _)) fun t H1 ht e1 ht1 => ?_
    have tS := st.someS ht
    have m1 := Mv.ex st e1
    -- flags
    refine q_go (dr_go (m := 3) (Evl.ea_cons (Evl.ev_var rfl) (Evl.ea_cons Evl.ev_c Evl.ea_nil)) m1.z (by decide) (by decide) fun H2 r m2 r0 r1 => ⟨r, rfl, by omega, by omega, fun qf hqf => ?_⟩)
    have m02 := m1.trans m2
    have hqf0 := m02.back hqf
    have qS := st.someS hqf0
    have ht2 := m2.fr t _ tS.1 tS.2 ht1
    have qt : qf ≠ t := fun e => by rw [e, ht2] at hqf; cases hqf
    refine lc_it walk_range (fun j H' => Mv S c H H' ∧ ∃ vs : List Str, H' qf = some (.lst (vs.map V.str)) ∧ H' t = some (.lst (vs.map V.str)) ∧ vs.length = j ∧ WdOk vs) ⟨m02.mut hqf0, [], upd_same, by rw [upd_ne qt.symm]; exact ht2, rfl, .nil⟩ (fun _ _ _ _ => trivial) (fun j x' H0 H' hj pv y => ?_) fun H3 pv => ?_
    · obtain ⟨mv, vs, hqv, htv, lv, okv⟩ := pv
      obtain ⟨rfl, hx⟩ := y
      refine ⟨rfl, yes_go ?_⟩
      refine ⟨_, rfl, _, rfl, S, c, t, vs, rfl, mv.z, tS.1, tS.2, htv, by omega, okv, fun H9 y my ht9 ok9 => ?_⟩
      have hq9 := my.fr qf _ qS.1 qS.2 qt hqv
      refine ⟨_, hq9, Evl.sz_lt (by rw [List.length_map]; omega), (mv.x ht my).mut hqf0, vs ++ [y], by rw [upd_same, List.map_append]; rfl, by rw [upd_ne qt.symm]; exact ht9, by rw [List.length_append, lv]; rfl, ok9⟩
    obtain ⟨m03, fl, hqf3, ht3, lfl, okfl⟩ := pv
    -- lists
    intro d hd
    refine gname_go ?_
    have hd0 := m03.back hd
    have dS := st.someS hd0
    have dqf : d ≠ qf := fun e => by rw [e, hqf3] at hd; cases hd
    have dt : d ≠ t := fun e => by rw [e, ht3] at hd; cases hd
    have m04 := m03.mut (o := .dK []) hd0
    have hqf4 : (upd H3 d (.dK [])) qf = some (.lst (fl.map V.str)) := by rw [upd_ne dqf.symm]; exact hqf3
    have ht4 : (upd H3 d (.dK [])) t = some (.lst (fl.map V.str)) := by rw [upd_ne dt.symm]; exact ht3
    have hd4 : (upd H3 d (.dK [])) d = some (.dK []) := upd_same
    generalize (upd H3 d (.dK [])) = H4 at m04 hqf4 ht4 hd4 ⊢
    refine ⟨by show 5 ≤ sizeLine; decide, fun tp htp => ?_⟩
    have e5 := Ex.new (o := .tup [V.int 1, V.int 1, V.int 2, V.int 2, V.int 0]) htp
    refine dr_go (m := 5) (Evl.ea_cons (Evl.ev_var rfl) (Evl.ea_cons Evl.ev_c Evl.ea_nil)) (m04.tx e5).z (by decide) (by decide) fun H6 r2 m6 s0 s1 => ?_
    have m06 := (m04.tx e5).trans m6
    have tpS := m04.z.someS htp
    have htp6 := m6.fr tp _ tpS.1 tpS.2 upd_same
    obtain ⟨many, hat, hmany⟩ : ∃ many : Nat, atI [V.int 1, V.int 1, V.int 2, V.int 2, V.int 0] r2 = some (.int (many : Int)) ∧ many ≤ 2 := by
      obtain ⟨rn, rfl⟩ := Int.eq_ofNat_of_zero_le s0
      match rn, (show rn < 5 by omega) with
      | 0, _ => exact ⟨1, rfl, by decide⟩
      | 1, _ => exact ⟨1, rfl, by decide⟩
      | 2, _ => exact ⟨2, rfl, by decide⟩
      | 3, _ => exact ⟨2, rfl, by decide⟩
      | 4, _ => exact ⟨0, rfl, by decide⟩
    refine ⟨tp, _, r2, _, rfl, rfl, Evl.st_of htp6, hat, _, rfl, by omega, by omega, ?_⟩
    rw [Int.toNat_natCast]
    have g6 : ∀ {b : Addr} {o : HO}, b ≠ S → b ≠ c → H4 b = some o → H6 b = some o := fun b1 b2 h => m6.fr _ _ b1 b2 (e5 _ _ h)
    refine for_it walk_range (fun i σ' H' => ∃ (es : List (Key × V)) (s : Sh) (ws : List Str) (o4 o5 : Option V), σ' = [some (.ref S), some (.ref t), some (.ref qf), some (.ref d), o4, o5] ∧ Mv S c H H' ∧ H' qf = some (.lst (fl.map V.str)) ∧ H' t = some (.lst (ws.map V.str)) ∧ H' d = some (.dK es) ∧ s.length = i ∧ ws.length ≤ 2 + 2 * i ∧ PcOk fl s ws ∧
        Paired (fun (x : Str × D) (e : Key × V) => e.1 = Sum.inr x.1 ∧ Rep H' 6 (fun b => ((H b = none ∧ b ≠ t) ∧ b ≠ qf) ∧ b ≠ d) x.2 e.2) (lsL s) es)
      ⟨[], [], fl, _, _, rfl, m06, g6 qS.1 qS.2 hqf4, g6 tS.1 tS.2 ht4, g6 dS.1 dS.2 hd4, rfl, by omega, ⟨okfl, ⟨[], by rw [List.append_nil], .nil⟩, fun p hp => nomatch hp⟩, .nil⟩ (fun _ _ _ _ _ => trivial) (fun i x σ' H0 H' hi pv y => ?_) fun σ' H' pv => ?_
    · obtain ⟨es, s, ws, o4, o5, rfl, mH, hqfH, htH, hdH, ls, lw, pc, pr⟩ := pv
      obtain ⟨rfl, rfl⟩ := y
      refine gname_go ?_
      intro e he
      refine gname_go ?_
      have he0 := mH.back he
      have eS := st.someS he0
      have eqf : e ≠ qf := fun z => by rw [z, hqfH] at he; cases he
      have et : e ≠ t := fun z => by rw [z, htH] at he; cases he
      have ed : e ≠ d := fun z => by rw [z, hdH] at he; cases he
      have rS : ∀ b, ((H b = none ∧ b ≠ t) ∧ b ≠ qf) ∧ b ≠ d → b ≠ S ∧ b ≠ c := fun b hb => st.someS hb.1.1.1
      -- the inner list
      refine Evl.q_cut (M := fun σ'' Hx => ∃ (inn : List (Str × Fl)) (ies : List (Key × V)) (ws2 : List Str), σ'' = [some (.ref S), some (.ref t), some (.ref qf), some (.ref d), some (.int ((0 : Int) + (i : Int))), some (.ref e)] ∧ Mv S c H Hx ∧ Mv S c H' (upd Hx t (.lst (ws.map V.str))) ∧ Hx t = some (.lst (ws2.map V.str)) ∧ Hx e = some (.dK ies) ∧ inn.length ≤ 1 ∧ WdOk ws2 ∧ ws2 = ws ++ inn.map (·.1) ∧ (∀ q ∈ inn, okFl q.2) ∧
          Paired (fun (x : Str × D) (e' : Key × V) => e'.1 = Sum.inr x.1 ∧ Rep Hx 4 (fun b => H' b = none ∧ b ≠ e) x.2 e'.2) (inL inn) ies) ?_ fun σ'' Hx pm => ?_
      · have mN : Mv S c H' (upd H' e (.dK [])) := Mv.new mH.z he
        have htN : (upd H' e (.dK [])) t = some (.lst (ws.map V.str)) := by rw [upd_ne et.symm]; exact htH
        have heN : (upd H' e (.dK [])) e = some (.dK []) := upd_same
        generalize (upd H' e (.dK [])) = HN at mN htN heN ⊢
        have same : ∀ {Hy : Hp}, Hy t = some (.lst (ws.map V.str)) → upd Hy t (.lst (ws.map V.str)) = Hy := fun h => by
          funext b
          by_cases z : b = t
          · rw [z, upd_same, h]
          · rw [upd_ne z]
        refine dr_if (m := 2) (z := 1) (Evl.ea_cons (Evl.ev_var rfl) (Evl.ea_cons Evl.ev_c Evl.ea_nil)) mN.z (by decide) (by decide) (fun H7 m7 => ?_) (fun H7 m7 => ?_)
        · have mN7 := mN.trans m7
          refine el_go (n := 0) (i := []) (P := fun _ => False) rfl m7.z (fun _ h => h.elim) (fun H8 m8 Q1 q1 p hp => q1 _ _ (Ex.new hp) ⟨p, [], rfl, .inr hp, upd_same, Nat.zero_le _, .nil⟩) fun p H8 f m8 hp rp okf => ?_
          have mN8 := mN7.trans m8
          have ht8 := (m7.trans m8).fr t _ tS.1 tS.2 htN
          have he8 := (m7.trans m8).fr e _ eS.1 eS.2 heN
          refine ⟨_, rfl, _, rfl, _, rfl, S, c, t, ws, rfl, mN8.z, tS.1, tS.2, ht8, by omega, pc.ok, fun H9 x mx ht9 ok9 => ?_⟩
          have he9 := mx.fr e _ eS.1 eS.2 et he8
          have p7 : H7 p = none := hp
          have pH : H' p = none := mN7.back hp
          have rp9 : Rep H9 4 (fun b => H' b = none ∧ b ≠ e) (elD f []) (.ref p) := by
            have ne7 : H7 e ≠ none := by rw [m7.fr e _ eS.1 eS.2 heN]; exact fun z => nomatch z
            have nt7 : H7 t ≠ none := by rw [m7.fr t _ tS.1 tS.2 htN]; exact fun z => nomatch z
            have := rep_mvx mx mN8.z ht8 (fun _ z => nomatch z) (fun z => z.elim id fun z => (m7.z.someS z).1 rfl) (fun z => z.elim id fun z => (m7.z.someS z).2 rfl) (fun z => z.elim id fun z => nt7 z) rp
            exact rep_S (fun b hb => hb.elim False.elim fun z => ⟨mN7.back z, fun y => ne7 (by rw [← y]; exact z)⟩) this
          refine ⟨e, _, rfl, .inl ⟨[], Sum.inr x, he9, rfl, by decide, rfl⟩, [(x, f)], [(Sum.inr x, .ref p)], ws ++ [x], rfl, ((mH.trans mN8).x ht mx).mut he0, ?_, by rw [upd_ne et.symm]; exact ht9, upd_same, Nat.le_refl _, ok9, rfl, fun q hq => by rw [List.mem_singleton.mp hq]; exact okf, .cons ⟨rfl, rep_upd he9 (fun _ z => nomatch z) (fun b z => z.2) rp9⟩ .nil⟩
          refine ⟨mN.a, ?_, fun b o b1 b2 hb => ?_⟩
          · exact ((mx.z.upd (o := .dK (putK [] (Sum.inr x) (.ref p))) ⟨eS.1, eS.2⟩).upd (o := .lst (ws.map V.str)) ⟨tS.1, tS.2⟩)
          · by_cases z : b = t
            · rw [z, upd_same]; rw [z, htH] at hb; exact hb
            · rw [upd_ne z]
              have ne : b ≠ e := fun y => by rw [y, he] at hb; cases hb
              rw [upd_ne ne]
              exact mx.fr b o b1 b2 z (mN8.fr b o b1 b2 hb)
        · have ht7 := m7.fr t _ tS.1 tS.2 htN
          refine ⟨[], [], ws, rfl, (mH.trans mN).trans m7, by rw [same ht7]; exact mN.trans m7, ht7, m7.fr e _ eS.1 eS.2 heN, Nat.zero_le _, pc.ok, by simp, (fun q hq => nomatch hq), .nil⟩
      · obtain ⟨inn, ies, ws2, rfl, mx, mt, htx, hex, li, okw, rfl, oki, pri⟩ := pm
        -- facts at Hx
        have keep : ∀ {b : Addr} {o : HO}, b ≠ S → b ≠ c → b ≠ t → H' b = some o → Hx b = some o := fun b1 b2 b3 h => by have := mt.fr _ _ b1 b2 h; rw [upd_ne b3] at this; exact this
        have hqfx := keep qS.1 qS.2 qt hqfH
        have hdx := keep dS.1 dS.2 dt hdH
        have backx : ∀ b, Hx b = none → H' b = none := fun b hb => by
          have nt : b ≠ t := fun z => by rw [z, htx] at hb; cases hb
          exact mt.back (by rw [upd_ne nt]; exact hb)
        have prx := pair_imp pr fun a b h => (⟨h.1, rep_to (fun y o hy hp => by
          have nt : y ≠ t := fun z => by
            rw [z] at hp hy
            rcases hp with hp | ⟨xs, rfl⟩
            · exact hp.1.1.2 rfl
            · rw [htH] at hy; cases hy
          have sc : y ≠ S ∧ y ≠ c := by
            obtain ⟨_, k0, cs0, h1, h2, _⟩ := mH.z
            refine ⟨fun z => ?_, fun z => ?_⟩
            · rw [z] at hp hy
              rcases hp with hp | ⟨xs, rfl⟩
              · exact (rS _ hp).1 rfl
              · rw [h1] at hy; cases hy
            · rw [z] at hp hy
              rcases hp with hp | ⟨xs, rfl⟩
              · exact (rS _ hp).2 rfl
              · rw [h2] at hy; cases hy
          exact keep sc.1 sc.2 nt hy) h.2⟩ : _ ∧ _)
        have rin : Rep Hx 5 (fun b => H' b = none ∧ Hx b ≠ none) (.dic (inL inn)) (.ref e) := rep_dom (rep_S (S := fun b => H' b = none) (fun b h => h) ⟨e, ies, rfl, he, hex, by unfold inL; rw [List.length_map]; omega, pri⟩)
        refine el_go (n := 2) (i := inn) (P := fun b => H' b = none ∧ Hx b ≠ none) rfl mx.z (fun b hb => hb.2) (fun H8 m8 Q1 q1 => ⟨_, rfl, q1 _ _ (Ex.refl _) ?_⟩) fun p H8 f m8 hp rp okf => ?_
        · have n1 : ¬ (H' S = none ∧ Hx S ≠ none) := fun z => (mH.z.someS z.1).1 rfl
          have n2 : ¬ (H' c = none ∧ Hx c ≠ none) := fun z => (mH.z.someS z.1).2 rfl
          exact rep_S (fun b hb => .inl hb) (rep_mv m8 n1 n2 rin)
        have m08 := mx.trans m8
        have ht8 := m8.fr t _ tS.1 tS.2 htx
        have hd8 := m8.fr d _ dS.1 dS.2 hdx
        have hqf8 := m8.fr qf _ qS.1 qS.2 hqfx
        have lw2 : (ws ++ inn.map (·.1)).length ≤ 3 + 2 * i := by rw [List.length_append, List.length_map]; omega
        refine ⟨_, rfl, _, rfl, _, rfl, S, c, t, _, rfl, m8.z, tS.1, tS.2, ht8, by omega, okw, fun H9 x my ht9 ok9 => ?_⟩
        have hd9 := my.fr d _ dS.1 dS.2 dt hd8
        have hqf9 := my.fr qf _ qS.1 qS.2 qt hqf8
        have m09 := m08.x ht my
        have reg : ∀ b, H' b = none → ((H b = none ∧ b ≠ t) ∧ b ≠ qf) ∧ b ≠ d := fun b hb => ⟨⟨⟨mH.back hb, fun z => by rw [z, htH] at hb; cases hb⟩, fun z => by rw [z, hqfH] at hb; cases hb⟩, fun z => by rw [z, hdH] at hb; cases hb⟩
        have go : ∀ {y : D} {v : V}, Rep Hx 6 (fun b => ((H b = none ∧ b ≠ t) ∧ b ≠ qf) ∧ b ≠ d) y v → Rep H9 6 (fun b => ((H b = none ∧ b ≠ t) ∧ b ≠ qf) ∧ b ≠ d) y v := fun h => rep_mvx my m8.z ht8 (fun _ z => nomatch z) (fun z => (rS _ z).1 rfl) (fun z => (rS _ z).2 rfl) (fun z => z.1.1.2 rfl) (rep_mv m8 (fun z => (rS _ z).1 rfl) (fun z => (rS _ z).2 rfl) h)
        have rp9 : Rep H9 6 (fun b => ((H b = none ∧ b ≠ t) ∧ b ≠ qf) ∧ b ≠ d) (elD f inn) (.ref p) := by
          have rp' := rep_S (S' := fun b => ((H b = none ∧ b ≠ t) ∧ b ≠ qf) ∧ b ≠ d) (fun b hb => hb.elim (fun z => reg b z.1) fun z => reg b (backx b z)) rp
          exact rep_mvx my m8.z ht8 (fun _ z => nomatch z) (fun z => (rS _ z).1 rfl) (fun z => (rS _ z).2 rfl) (fun z => z.1.1.2 rfl) rp'
        have les : es.length = s.length := by have := pair_len pr; unfold lsL at this; rw [List.length_map] at this; exact this.symm
        obtain ⟨us, hus, pus⟩ := pc.us
        have nx : x ∉ ws ++ inn.map (·.1) := fun hm => (List.nodup_append.mp ok9.nd).2.2 x hm x (List.mem_singleton.mpr rfl) rfl
        have nxs : x ∉ s.map (·.1) := fun hm => by
          refine nx (List.mem_append_left _ ?_)
          rw [hus]
          refine List.mem_append_right _ (pus.mem_iff.mpr ?_)
          obtain ⟨p0, hp0, rfl⟩ := List.mem_map.mp hm
          exact List.mem_map.mpr ⟨(p0.1, none, p0.2.1), List.mem_flatMap.mpr ⟨p0, hp0, List.mem_cons_self⟩, rfl⟩
        have nv : valV es (Sum.inr x : Key) = none := pair_no (F := fun x v => Rep H' 6 (fun b => ((H b = none ∧ b ≠ t) ∧ b ≠ qf) ∧ b ≠ d) x v) pr (lk_none (by unfold lsL; rw [List.map_map]; exact nxs))
        refine ⟨d, _, rfl, .inl ⟨es, Sum.inr x, hd9, rfl, Evl.sz_lt (by omega), rfl⟩, es ++ [(Sum.inr x, .ref p)], s ++ [(x, f, inn)], ws ++ inn.map (·.1) ++ [x], _, _, rfl, m09.mut hd0, by rw [upd_ne dqf.symm]; exact hqf9, by rw [upd_ne dt.symm]; exact ht9, by rw [upd_same, putK_new _ nv], by rw [List.length_append, ls]; rfl, by rw [List.length_append]; simp only [List.length_singleton]; omega, ⟨ok9, ⟨us ++ inn.map (·.1) ++ [x], by rw [hus]; simp [List.append_assoc], ?_⟩, fun p1 hp1 => ?_⟩, ?_⟩
        · rw [rows_app, List.map_append]
          have e2 : (rowsOf (x, f, inn)).map (·.1) = x :: inn.map (·.1) := by show x :: (inn.map _).map _ = _; rw [List.map_map]; rfl
          rw [e2, List.append_assoc]
          exact List.Perm.append pus List.perm_append_comm
        · rcases List.mem_append.mp hp1 with hp1 | hp1
          · exact pc.p p1 hp1
          · rw [List.mem_singleton.mp hp1]
            exact ⟨ok9.w x (List.mem_append_right _ List.mem_cons_self), okf, li, fun q hq => ⟨ok9.w _ (List.mem_append_left _ (List.mem_append_right _ (List.mem_map.mpr ⟨q, hq, rfl⟩))), oki q hq⟩⟩
        · unfold lsL
          rw [List.map_append]
          have tr : ∀ {y : D} {v : V}, Rep H9 6 (fun b => ((H b = none ∧ b ≠ t) ∧ b ≠ qf) ∧ b ≠ d) y v → Rep (upd H9 d (.dK (putK es (Sum.inr x) (.ref p)))) 6 (fun b => ((H b = none ∧ b ≠ t) ∧ b ≠ qf) ∧ b ≠ d) y v := fun h => rep_lock hd9 (fun b z => z.2) h
          exact pair_snoc (pair_imp prx fun a b h => ⟨h.1, tr (go h.2)⟩) ⟨rfl, tr rp9⟩
    · obtain ⟨es, s, ws, o4, o5, rfl, mH, hqfH, htH, hdH, ls, lw, pc, pr⟩ := pv
      obtain ⟨ok1, nd1, w1⟩ := pc.okSh (by omega)
      refine Evl.s_retL (xs := [.ref qf, .ref d]) (Evl.el_lst (Evl.ea_cons (Evl.ev_var rfl) (Evl.ea_cons (Evl.ev_var rfl) Evl.ea_nil)) (by show 2 ≤ 100000; decide)) fun q H7 hq e7 hq7 => ?_
      exact k H7 q qf d fl s (mH.tx e7) (mH.back hq) hqf0 hq7 (e7 _ _ hqfH) (by omega) nd1 w1 (rep_ex e7 ⟨d, es, rfl, hd0, hdH, by unfold lsL; rw [List.length_map]; omega, pair_imp pr fun a b h => ⟨h.1, rep_S (fun b hb => ⟨hb.1.1.1, hb.2⟩) h.2⟩⟩) ok1
end
end Pk

namespace Pk
open PySem PySem.Spec PyProof.Rows L2 Ssb
theorem rows_mem {s : Sh} {r : Ro} (h : r ∈ rowsS s) : ∃ p ∈ s, r = (p.1, none, p.2.1) ∨ ∃ q ∈ p.2.2, r = (q.1, some p.1, q.2) := by
  obtain ⟨p, hp, hr⟩ := List.mem_flatMap.mp h
  refine ⟨p, hp, ?_⟩
  unfold rowsOf at hr
  rcases List.mem_cons.mp hr with e | hr
  · exact .inl e
  · obtain ⟨q, hq, e⟩ := List.mem_map.mp hr
    exact .inr ⟨q, hq, e.symm⟩
theorem row_in {s : Sh} {p : Str × Fl × List (Str × Fl)} {q : Str × Fl} (h : p ∈ s) (hq : q ∈ p.2.2) : ((q.1, some p.1, q.2) : Ro) ∈ rowsS s := List.mem_flatMap.mpr ⟨p, h, List.mem_cons_of_mem _ (List.mem_map.mpr ⟨q, hq, rfl⟩)⟩
theorem sh_nd : ∀ {s : Sh}, ((rowsS s).map (·.1)).Nodup → (s.map (·.1)).Nodup := fun {s} h => by
  refine List.Sublist.nodup ?_ h
  clear h
  induction s with
  | nil => exact List.Sublist.slnil
  | cons p s ih =>
    have : (rowsS (p :: s)).map (·.1) = p.1 :: ((p.2.2.map fun q => ((q.1, some p.1, q.2) : Ro)).map (·.1) ++ (rowsS s).map (·.1)) := by
      show ((rowsOf p ++ rowsS s).map (·.1)) = _
      rw [List.map_append]; rfl
    rw [this, List.map_cons]
    exact (ih.trans (List.sublist_append_right _ _)).cons_cons _
theorem row_out {s : Sh} {p : Str × Fl × List (Str × Fl)} (h : p ∈ s) : ((p.1, none, p.2.1) : Ro) ∈ rowsS s := List.mem_flatMap.mpr ⟨p, h, List.mem_cons_self⟩
theorem pigeon {α : Type} [DecidableEq α] : ∀ {l m : List α}, l.Nodup → (∀ x ∈ l, x ∈ m) → l.length ≤ m.length
  | [], _, _, _ => Nat.zero_le _
  | x :: l, m, nd, h => by
    rw [List.nodup_cons] at nd
    have h1 := pigeon (m := m.erase x) nd.2 fun y hy => (List.mem_erase_of_ne (fun e => nd.1 (by rw [← e]; exact hy))).mpr (h y (List.mem_cons_of_mem _ hy))
    have h2 := List.length_erase_of_mem (h x List.mem_cons_self)
    have h3 : 0 < m.length := List.length_pos_of_mem (h x List.mem_cons_self)
    rw [List.length_cons]
    omega
theorem lk_of_mem {α : Type} : ∀ {l : List (Str × α)} {k : Str} {x : α}, (l.map (·.1)).Nodup → (k, x) ∈ l → l.lookup k = some x
  | (j, d) :: l, k, x, nd, h => by
    rw [List.map_cons, List.nodup_cons] at nd
    rw [lk_cons]
    rcases List.mem_cons.mp h with h | h
    · cases h; rw [if_pos rfl]
    · rw [if_neg (fun e => nd.1 (by rw [← e]; exact List.mem_map.mpr ⟨_, h, rfl⟩))]
      exact lk_of_mem nd.2 h
/-! ### equal as dicts, without a heap -/
def dEq {α : Type} (g : Str → α → α → Bool) (l1 l2 : List (Str × α)) : Bool := l1.length == l2.length && l1.all fun p => match l2.lookup p.1 with | some y => g p.1 p.2 y | none => false
theorem lk_mem3 {α : Type} : ∀ {l : List (Str × α)} {k : Str} {d : α}, l.lookup k = some d → (k, d) ∈ l
  | [], k, d, h => by cases h
  | (j, x) :: l, k, d, h => by
    rw [lk_cons] at h
    by_cases c : k = j
    · rw [if_pos c] at h; cases h; rw [c]; exact List.mem_cons_self
    · rw [if_neg c] at h; exact List.mem_cons_of_mem _ (lk_mem3 h)
theorem mem_key {α : Type} {l : List (Str × α)} {k : Str} {a : α} (h : (k, a) ∈ l) : k ∈ l.map (·.1) := List.mem_map.mpr ⟨_, h, rfl⟩
theorem key_mem {α : Type} {l : List (Str × α)} {k : Str} (h : k ∈ l.map (·.1)) : ∃ a, (k, a) ∈ l := by
  obtain ⟨⟨j, a⟩, h1, rfl⟩ := List.mem_map.mp h
  exact ⟨a, h1⟩
theorem one_val {α : Type} {l : List (Str × α)} {k : Str} {a b : α} (nd : (l.map (·.1)).Nodup) (h : (k, a) ∈ l) (h' : (k, b) ∈ l) : a = b := by
  have e := lk_of_mem nd h
  rw [lk_of_mem nd h'] at e
  exact (Option.some.inj e).symm
theorem dEq_iff {α : Type} {g : Str → α → α → Bool} {l1 l2 : List (Str × α)} (n1 : (l1.map (·.1)).Nodup) (n2 : (l2.map (·.1)).Nodup) :
    dEq g l1 l2 = true ↔ (∀ k a, (k, a) ∈ l1 → ∃ b, (k, b) ∈ l2 ∧ g k a b = true) ∧ ∀ k b, (k, b) ∈ l2 → ∃ a, (k, a) ∈ l1 ∧ g k a b = true := by
  unfold dEq
  constructor
  · intro h
    obtain ⟨hl, ha⟩ := Bool.and_eq_true_iff.mp h
    have hl := beq_iff_eq.mp hl
    have f : ∀ k a, (k, a) ∈ l1 → ∃ b, (k, b) ∈ l2 ∧ g k a b = true := fun k a hm => by
      have := List.all_eq_true.mp ha _ hm
      dsimp only at this
      cases e : l2.lookup k with
      | none => rw [e] at this; cases this
      | some b => rw [e] at this; exact ⟨b, lk_mem3 e, this⟩
    refine ⟨f, fun k b hb => ?_⟩
    by_cases hk : k ∈ l1.map (·.1)
    · obtain ⟨a, ha⟩ := key_mem hk
      obtain ⟨b', hb', e⟩ := f k a ha
      rw [one_val n2 hb hb']
      exact ⟨a, ha, e⟩
    · have := pigeon (l := k :: l1.map (·.1)) (m := l2.map (·.1)) (List.nodup_cons.mpr ⟨hk, n1⟩) fun x hx => by
        rcases List.mem_cons.mp hx with rfl | hx
        · exact mem_key hb
        · obtain ⟨a, ha⟩ := key_mem hx
          obtain ⟨b', hb', _⟩ := f x a ha
          exact mem_key hb'
      rw [List.length_cons, List.length_map, List.length_map] at this
      omega
  · rintro ⟨f, r⟩
    have h1 := pigeon n1 (m := l2.map (·.1)) fun x hx => by
      obtain ⟨a, ha⟩ := key_mem hx
      obtain ⟨b, hb, _⟩ := f x a ha
      exact mem_key hb
    have h2 := pigeon n2 (m := l1.map (·.1)) fun x hx => by
      obtain ⟨a, ha⟩ := key_mem hx
      obtain ⟨b, hb, _⟩ := r x a ha
      exact mem_key hb
    rw [List.length_map, List.length_map] at h1 h2
    refine Bool.and_eq_true_iff.mpr ⟨beq_iff_eq.mpr (Nat.le_antisymm h1 h2), List.all_eq_true.mpr fun p hp => ?_⟩
    obtain ⟨k, a⟩ := p
    obtain ⟨b, hb, e⟩ := f k a hp
    show (match l2.lookup k with | some y => g k a y | none => false) = true
    rw [lk_of_mem n2 hb]
    exact e
theorem dEq_refl {α : Type} {g : Str → α → α → Bool} {l : List (Str × α)} (nd : (l.map (·.1)).Nodup) (h : ∀ k a, (k, a) ∈ l → g k a a = true) : dEq g l l = true :=
  (dEq_iff nd nd).mpr ⟨fun k a ha => ⟨a, ha, h k a ha⟩, fun k a ha => ⟨a, ha, h k a ha⟩⟩
/-- fields -/
def FE (f1 f2 : Fl) : Bool := dEq (fun _ a b => decide (a = b)) f1 f2
/-- lists, as the law describes them -/
def IE (i1 i2 : List (Str × Fl)) : Bool := dEq (fun _ a b => FE a b) i1 i2
def LE (s1 s2 : Sh) : Bool := dEq (fun _ a b => FE a.1 b.1 && IE a.2 b.2) s1 s2
/-- the table of a shape -/
def TbE (s1 s2 : Sh) : Bool := dEq (fun _ a b => decide (a.1 = b.1) && FE a.2 b.2) (rowsS s1) (rowsS s2)
theorem row_none {s : Sh} {k : Str} {f : Fl} (h : (k, none, f) ∈ rowsS s) : ∃ i, (k, f, i) ∈ s := by
  obtain ⟨⟨k', f', i⟩, hp, e | ⟨q, hq, e⟩⟩ := rows_mem h
  · cases e; exact ⟨i, hp⟩
  · cases e
theorem row_some {s : Sh} {k nm : Str} {f : Fl} (h : (k, some nm, f) ∈ rowsS s) : ∃ f0 i, (nm, f0, i) ∈ s ∧ (k, f) ∈ i := by
  obtain ⟨⟨k', f', i⟩, hp, e | ⟨⟨j, g⟩, hq, e⟩⟩ := rows_mem h
  · cases e
  · cases e; exact ⟨f', i, hp, hq⟩
theorem nd_one {α : Type} {l : List (Str × α)} (h : l.length ≤ 1) : (l.map (·.1)).Nodup := by
  match l, h with
  | [], _ => exact List.nodup_nil
  | [x], _ => simp
theorem TE_in {s1 s2 : Sh} (z1 : okSh s1) (z2 : okSh s2)
    (F : ∀ k a, (k, a) ∈ rowsS s1 → ∃ b, (k, b) ∈ rowsS s2 ∧ (decide (a.1 = b.1) && FE a.2 b.2) = true) (B : ∀ k b, (k, b) ∈ rowsS s2 → ∃ a, (k, a) ∈ rowsS s1 ∧ (decide (a.1 = b.1) && FE a.2 b.2) = true)
    {k : Str} {f f2 : Fl} {i i2 : List (Str × Fl)} (h1 : (k, f, i) ∈ s1) (h2 : (k, f2, i2) ∈ s2) : IE i i2 = true := by
  refine (dEq_iff (nd_one (z1.2.2 _ h1).2.2.1) (nd_one (z2.2.2 _ h2).2.2.1)).mpr ⟨fun j g hg => ?_, fun j g hg => ?_⟩
  · obtain ⟨⟨p, g2⟩, hb, e⟩ := F j (some k, g) (row_in h1 hg)
    obtain ⟨e1, e2⟩ := Bool.and_eq_true_iff.mp e
    have e1 : some k = p := of_decide_eq_true e1
    subst e1
    obtain ⟨f0, i0, hm, hj⟩ := row_some hb
    have := one_val (sh_nd z2.2.1) hm h2
    cases this
    exact ⟨g2, hj, e2⟩
  · obtain ⟨⟨p, g2⟩, hb, e⟩ := B j (some k, g) (row_in h2 hg)
    obtain ⟨e1, e2⟩ := Bool.and_eq_true_iff.mp e
    have e1 : p = some k := of_decide_eq_true e1
    subst e1
    obtain ⟨f0, i0, hm, hj⟩ := row_some hb
    have := one_val (sh_nd z1.2.1) hm h1
    cases this
    exact ⟨g2, hj, e2⟩
/-- the two say the same of valid shapes -/
theorem LE_TE {s1 s2 : Sh} (z1 : okSh s1) (z2 : okSh s2) : LE s1 s2 = TbE s1 s2 := by
  refine Bool.eq_iff_iff.mpr ⟨fun h => ?_, fun h => ?_⟩
  · obtain ⟨F, B⟩ := (dEq_iff (sh_nd z1.2.1) (sh_nd z2.2.1)).mp h
    refine (dEq_iff z1.2.1 z2.2.1).mpr ⟨fun k a ha => ?_, fun k a ha => ?_⟩
    · obtain ⟨par, f⟩ := a
      cases par with
      | none =>
        obtain ⟨i, hi⟩ := row_none ha
        obtain ⟨⟨f2, i2⟩, hb, e⟩ := F k (f, i) hi
        obtain ⟨e1, e2⟩ := Bool.and_eq_true_iff.mp e
        exact ⟨(none, f2), row_out hb, Bool.and_eq_true_iff.mpr ⟨decide_eq_true rfl, e1⟩⟩
      | some nm =>
        obtain ⟨f0, i, hi, hk⟩ := row_some ha
        obtain ⟨⟨f2, i2⟩, hb, e⟩ := F nm (f0, i) hi
        obtain ⟨e1, e2⟩ := Bool.and_eq_true_iff.mp e
        obtain ⟨F2, _⟩ := (dEq_iff (nd_one (z1.2.2 _ hi).2.2.1) (nd_one (z2.2.2 _ hb).2.2.1)).mp e2
        obtain ⟨g, hg, e3⟩ := F2 k f hk
        exact ⟨(some nm, g), row_in hb hg, Bool.and_eq_true_iff.mpr ⟨decide_eq_true rfl, e3⟩⟩
    · obtain ⟨par, f⟩ := a
      cases par with
      | none =>
        obtain ⟨i, hi⟩ := row_none ha
        obtain ⟨⟨f2, i2⟩, hb, e⟩ := B k (f, i) hi
        obtain ⟨e1, e2⟩ := Bool.and_eq_true_iff.mp e
        exact ⟨(none, f2), row_out hb, Bool.and_eq_true_iff.mpr ⟨decide_eq_true rfl, e1⟩⟩
      | some nm =>
        obtain ⟨f0, i, hi, hk⟩ := row_some ha
        obtain ⟨⟨f2, i2⟩, hb, e⟩ := B nm (f0, i) hi
        obtain ⟨e1, e2⟩ := Bool.and_eq_true_iff.mp e
        obtain ⟨_, B2⟩ := (dEq_iff (nd_one (z1.2.2 _ hb).2.2.1) (nd_one (z2.2.2 _ hi).2.2.1)).mp e2
        obtain ⟨g, hg, e3⟩ := B2 k f hk
        exact ⟨(some nm, g), row_in hb hg, Bool.and_eq_true_iff.mpr ⟨decide_eq_true rfl, e3⟩⟩
  · obtain ⟨F, B⟩ := (dEq_iff z1.2.1 z2.2.1).mp h
    refine (dEq_iff (sh_nd z1.2.1) (sh_nd z2.2.1)).mpr ⟨fun k a ha => ?_, fun k a ha => ?_⟩
    · obtain ⟨f, i⟩ := a
      obtain ⟨⟨p, f2⟩, hb, e⟩ := F k (none, f) (row_out ha)
      obtain ⟨e1, e2⟩ := Bool.and_eq_true_iff.mp e
      have e1 : none = p := of_decide_eq_true e1
      subst e1
      obtain ⟨i2, h2⟩ := row_none hb
      exact ⟨(f2, i2), h2, Bool.and_eq_true_iff.mpr ⟨e2, TE_in z1 z2 F B ha h2⟩⟩
    · obtain ⟨f, i⟩ := a
      obtain ⟨⟨p, f2⟩, hb, e⟩ := B k (none, f) (row_out ha)
      obtain ⟨e1, e2⟩ := Bool.and_eq_true_iff.mp e
      have e1 : p = none := of_decide_eq_true e1
      subst e1
      obtain ⟨i2, h2⟩ := row_none hb
      exact ⟨(f2, i2), h2, Bool.and_eq_true_iff.mpr ⟨e2, TE_in z1 z2 F B h2 ha⟩⟩
end Pk

namespace Pk
open PySem PySem.Spec PyProof.Rows L2 Ssb
theorem pair_names {α β : Type} {F : Str × α → Str × β → Prop} {l : List (Str × α)} {s : List (Str × β)} (h : Paired (fun p q => p.1 = q.1 ∧ F p q) l s) : l.map (·.1) = s.map (·.1) := by
  induction h with
  | nil => rfl
  | cons h t ih => rw [List.map_cons, List.map_cons, ih, h.1]
theorem pair_mem {α β : Type} {F : α → β → Prop} {l : List α} {m : List β} (p : Paired F l m) : ∀ x ∈ l, ∃ y ∈ m, F x y := fun x hx => by
  obtain ⟨t, ht, e⟩ := List.mem_iff_getElem.mp hx
  obtain ⟨b, hb, h⟩ := pair_at p (i := t) (a := x) (by rw [← e]; exact List.getElem?_eq_getElem ht)
  exact ⟨b, List.mem_of_getElem? hb, h⟩
/-- one value, one datum -/
theorem rep_inj {H : Hp} : ∀ {m m' : Nat} {S1 S2 : Addr → Prop} {d1 d2 : D} {v : V}, Rep H m S1 d1 v → Rep H m' S2 d2 v → d1 = d2
  | 0, _, _, _, _, _, _, h, _ => h.elim
  | _ + 1, 0, _, _, _, _, _, _, h => h.elim
  | m + 1, m' + 1, S1, S2, d1, d2, v, h1, h2 => by
    cases d1 with
    | non =>
      have e1 : v = .non := h1
      subst e1
      cases d2 with
      | non => have e2 : V.non = .non := h2; cases e2; rfl
      | bl b' => have e2 : V.non = .bl b' := h2; cases e2
      | int i' => have e2 : V.non = .int i' := h2; cases e2
      | str x' => have e2 : V.non = .str x' := h2; cases e2
      | lst l' => obtain ⟨a', xs', e', _, ha', _, pr'⟩ := h2; cases e'
      | tup l' => obtain ⟨a', xs', e', ha', _, pr'⟩ := h2; cases e'
      | dic l' => obtain ⟨a', xs', e', _, ha', _, pr'⟩ := h2; cases e'
    | bl b =>
      have e1 : v = .bl b := h1
      subst e1
      cases d2 with
      | non => have e2 : V.bl b = .non := h2; cases e2
      | bl b' => have e2 : V.bl b = .bl b' := h2; cases e2; rfl
      | int i' => have e2 : V.bl b = .int i' := h2; cases e2
      | str x' => have e2 : V.bl b = .str x' := h2; cases e2
      | lst l' => obtain ⟨a', xs', e', _, ha', _, pr'⟩ := h2; cases e'
      | tup l' => obtain ⟨a', xs', e', ha', _, pr'⟩ := h2; cases e'
      | dic l' => obtain ⟨a', xs', e', _, ha', _, pr'⟩ := h2; cases e'
    | int i =>
      have e1 : v = .int i := h1
      subst e1
      cases d2 with
      | non => have e2 : V.int i = .non := h2; cases e2
      | bl b' => have e2 : V.int i = .bl b' := h2; cases e2
      | int i' => have e2 : V.int i = .int i' := h2; cases e2; rfl
      | str x' => have e2 : V.int i = .str x' := h2; cases e2
      | lst l' => obtain ⟨a', xs', e', _, ha', _, pr'⟩ := h2; cases e'
      | tup l' => obtain ⟨a', xs', e', ha', _, pr'⟩ := h2; cases e'
      | dic l' => obtain ⟨a', xs', e', _, ha', _, pr'⟩ := h2; cases e'
    | str x =>
      have e1 : v = .str x := h1
      subst e1
      cases d2 with
      | non => have e2 : V.str x = .non := h2; cases e2
      | bl b' => have e2 : V.str x = .bl b' := h2; cases e2
      | int i' => have e2 : V.str x = .int i' := h2; cases e2
      | str x' => have e2 : V.str x = .str x' := h2; cases e2; rfl
      | lst l' => obtain ⟨a', xs', e', _, ha', _, pr'⟩ := h2; cases e'
      | tup l' => obtain ⟨a', xs', e', ha', _, pr'⟩ := h2; cases e'
      | dic l' => obtain ⟨a', xs', e', _, ha', _, pr'⟩ := h2; cases e'
    | lst l =>
      obtain ⟨a, xs, e, _, ha, -, pr⟩ := h1
      subst e
      cases d2 with
      | non => have e2 : V.ref a = .non := h2; cases e2
      | bl b' => have e2 : V.ref a = .bl b' := h2; cases e2
      | int i' => have e2 : V.ref a = .int i' := h2; cases e2
      | str x' => have e2 : V.ref a = .str x' := h2; cases e2
      | lst l' =>
        obtain ⟨a', xs', e', _, ha', -, pr'⟩ := h2
        cases e'; rw [ha] at ha'; cases ha'
        refine congrArg D.lst ?_
        clear ha
        revert l'
        induction pr with
        | nil => intro l' pr'; cases pr'; rfl
        | cons h t ih =>
          intro l' pr'
          cases pr' with
          | cons h' t' =>
            rw [ih _ t', rep_inj h h']
      | tup l' => obtain ⟨a', xs', e', ha', -, pr'⟩ := h2; cases e'; rw [ha] at ha'; cases ha'
      | dic l' => obtain ⟨a', xs', e', _, ha', -, pr'⟩ := h2; cases e'; rw [ha] at ha'; cases ha'
    | tup l =>
      obtain ⟨a, xs, e, ha, -, pr⟩ := h1
      subst e
      cases d2 with
      | non => have e2 : V.ref a = .non := h2; cases e2
      | bl b' => have e2 : V.ref a = .bl b' := h2; cases e2
      | int i' => have e2 : V.ref a = .int i' := h2; cases e2
      | str x' => have e2 : V.ref a = .str x' := h2; cases e2
      | lst l' => obtain ⟨a', xs', e', _, ha', -, pr'⟩ := h2; cases e'; rw [ha] at ha'; cases ha'
      | tup l' =>
        obtain ⟨a', xs', e', ha', -, pr'⟩ := h2
        cases e'; rw [ha] at ha'; cases ha'
        refine congrArg D.tup ?_
        clear ha
        revert l'
        induction pr with
        | nil => intro l' pr'; cases pr'; rfl
        | cons h t ih =>
          intro l' pr'
          cases pr' with
          | cons h' t' =>
            rw [ih _ t', rep_inj h h']
      | dic l' => obtain ⟨a', xs', e', _, ha', -, pr'⟩ := h2; cases e'; rw [ha] at ha'; cases ha'
    | dic l =>
      obtain ⟨a, xs, e, _, ha, -, pr⟩ := h1
      subst e
      cases d2 with
      | non => have e2 : V.ref a = .non := h2; cases e2
      | bl b' => have e2 : V.ref a = .bl b' := h2; cases e2
      | int i' => have e2 : V.ref a = .int i' := h2; cases e2
      | str x' => have e2 : V.ref a = .str x' := h2; cases e2
      | lst l' => obtain ⟨a', xs', e', _, ha', -, pr'⟩ := h2; cases e'; rw [ha] at ha'; cases ha'
      | tup l' => obtain ⟨a', xs', e', ha', -, pr'⟩ := h2; cases e'; rw [ha] at ha'; cases ha'
      | dic l' =>
        obtain ⟨a', xs', e', _, ha', -, pr'⟩ := h2
        cases e'; rw [ha] at ha'; cases ha'
        refine congrArg D.dic ?_
        clear ha
        revert l'
        induction pr with
        | nil => intro l' pr'; cases pr'; rfl
        | cons h t ih =>
          intro l' pr'
          cases pr' with
          | cons h' t' =>
            rw [ih _ t']
            exact congrArg (· :: _) (Prod.ext (Sum.inr.inj (h.1.symm.trans h'.1)) (rep_inj h.2 h'.2))
/-! ### == of data on the heap -/
theorem pair_val {F : D → V → Prop} : ∀ {l : List (Str × D)} {es : List (Key × V)}, Paired (fun (q : Str × D) (e : Key × V) => e.1 = Sum.inr q.1 ∧ F q.2 e.2) l es → ∀ {k : Str} {v : V}, valV es (Sum.inr k) = some v → ∃ d, (k, d) ∈ l ∧ F d v
  | _, _, .nil, k, v, h => by cases h
  | (j, d0) :: l, e :: es, .cons h t, k, v, hk => by
    rw [vV_cons] at hk
    by_cases c : e.1 = Sum.inr k
    · rw [if_pos c] at hk
      cases hk
      have : j = k := Sum.inr.inj (h.1.symm.trans c)
      subst this
      exact ⟨d0, List.mem_cons_self, h.2⟩
    · rw [if_neg c] at hk
      obtain ⟨d, hd, hf⟩ := pair_val t hk
      exact ⟨d, List.mem_cons_of_mem _ hd, hf⟩
theorem val_isSome : ∀ {es : List (Key × V)} {k : Key}, (valV es k).isSome = true ↔ k ∈ es.map (·.1)
  | [], k => ⟨fun h => (by cases h), fun h => nomatch h⟩
  | e :: es, k => by
    rw [vV_cons, List.map_cons, List.mem_cons]
    by_cases c : e.1 = k
    · rw [if_pos c]; exact ⟨fun _ => .inl c.symm, fun _ => rfl⟩
    · rw [if_neg c, val_isSome]
      exact ⟨.inr, fun h => h.elim (fun z => absurd z.symm c) id⟩
def DE (n : Nat) (d1 d2 : D) (b : Bool) : Prop := ∀ (K : PySem.W.Frag) (H : Hp) (m1 m2 : Nat) (S1 S2 : Addr → Prop) (v1 v2 : V), Rep H m1 S1 d1 v1 → Rep H m2 S2 d2 v2 → EqB K H n v1 v2 b
theorem de_opt {n : Nat} (a b : Option Str) : DE n (oD a) (oD b) (decide (a = b)) := fun K H m1 m2 S1 S2 v1 v2 h1 h2 => by
  cases m1 with
  | zero => exact h1.elim
  | succ m1 =>
  cases m2 with
  | zero => exact h2.elim
  | succ m2 =>
  have e1 : v1 = oV a := by cases a <;> exact h1
  have e2 : v2 = oV b := by cases b <;> exact h2
  subst e1 e2
  have e : decide (a = b) = eqV (oV a) (oV b) := by
    cases a with
    | none => cases b <;> simp [oV, eqV]
    | some x =>
      cases b with
      | none => rfl
      | some y =>
        show decide (some x = some y) = (x == y)
        exact Bool.eq_iff_iff.mpr (by simp)
  rw [e]
  exact .leaf (by cases a <;> rfl) (by cases b <;> rfl)
theorem de_str {n : Nat} (a b : Str) : DE n (.str a) (.str b) (decide (a = b)) := by
  have := de_opt (n := n) (some a) (some b)
  rw [show decide (a = b) = decide (some a = some b) from by simp]
  exact this
theorem de_tup {n : Nat} {l1 l2 : List D} {b : Bool} {e : Nat → Bool} (h : ∀ (j : Nat) (x y : D), l1[j]? = some x → l2[j]? = some y → DE n x y (e j)) (hb : ((List.range (min l1.length l2.length)).all e && l1.length == l2.length) = b) (hs : l1 = l2 → b = true) :
    DE (n + 1) (.tup l1) (.tup l2) b := fun K H m1 m2 S1 S2 v1 v2 h1 h2 => by
  by_cases c : v1 = v2
  · subst c
    have := D.tup.inj (rep_inj h1 h2)
    rw [hs this]
    cases m1 with
    | zero => exact h1.elim
    | succ m1 =>
    obtain ⟨a, xs, rfl, _⟩ := h1
    exact .same
  · cases m1 with
    | zero => exact h1.elim
    | succ m1 =>
    cases m2 with
    | zero => exact h2.elim
    | succ m2 =>
    obtain ⟨a, xs, rfl, ha, _, pr⟩ := h1
    obtain ⟨a', xs', rfl, ha', _, pr'⟩ := h2
    rw [← hb, pair_len pr, pair_len pr']
    refine .tups (fun z => c (by rw [z])) (.inl (.inl ha)) (.inl (.inl ha')) fun j x y hx hy => ?_
    obtain ⟨dx, hdx, rx⟩ := pair_back pr hx
    obtain ⟨dy, hdy, ry⟩ := pair_back pr' hy
    exact h j dx dy hdx hdy K H _ _ _ _ _ _ rx ry
theorem dic_top {α : Type} {n : Nat} {G : Str → D → α → Prop} {g : Str → α → α → Bool} {l1 l2 : List (Str × D)} {L1 L2 : List (Str × α)} (p1 : Paired (fun (p : Str × D) (q : Str × α) => p.1 = q.1 ∧ G q.1 p.2 q.2) l1 L1) (p2 : Paired (fun (p : Str × D) (q : Str × α) => p.1 = q.1 ∧ G q.1 p.2 q.2) l2 L2)
    (n1 : (L1.map (·.1)).Nodup) (n2 : (L2.map (·.1)).Nodup) (hk : ∀ k a b x y, (k, a) ∈ L1 → (k, b) ∈ L2 → G k x a → G k y b → DE n x y (g k a b)) {K : PySem.W.Frag} {H : Hp} {m1 m2 : Nat} {S1 S2 : Addr → Prop} {v1 v2 : V} (h1 : Rep H m1 S1 (.dic l1) v1) (h2 : Rep H m2 S2 (.dic l2) v2) :
    ∃ a c ks ls, ∃ e : Key → Bool, v1 = .ref a ∧ v2 = .ref c ∧ H a = some (.dK ks) ∧ H c = some (.dK ls) ∧ (∀ (k : Key) (x y : V), (k, x) ∈ ks → valV ls k = some y → EqB K H n x y (e k)) ∧ (ks.length == ls.length && ks.all fun p => (valV ls p.1).isSome && e p.1) = dEq g L1 L2 := by
  cases m1 with
  | zero => exact h1.elim
  | succ m1 =>
  cases m2 with
  | zero => exact h2.elim
  | succ m2 =>
  obtain ⟨a, ks, rfl, _, ha, _, pr⟩ := h1
  obtain ⟨c, ls, rfl, _, hc, _, pr'⟩ := h2
  have k1 : ks.map (·.1) = (L1.map (·.1)).map Sum.inr := by rw [pair_keys pr, pair_names p1]
  have k2 : ls.map (·.1) = (L2.map (·.1)).map Sum.inr := by rw [pair_keys pr', pair_names p2]
  let E : Key → Bool := fun k => match k with | .inr s => (match L1.lookup s, L2.lookup s with | some a, some b => g s a b | _, _ => false) | _ => false
  refine ⟨a, c, ks, ls, E, rfl, rfl, ha, hc, fun k x y hx hy => ?_, ?_⟩
  · obtain ⟨⟨s, dx⟩, hdx, e1, rx⟩ : ∃ q ∈ l1, k = Sum.inr q.1 ∧ Rep H m1 (fun b => S1 b ∧ b ≠ a) q.2 x := by
      obtain ⟨i, hi⟩ := List.getElem?_of_mem hx
      obtain ⟨q, hq, h⟩ := pair_back pr hi
      exact ⟨q, List.mem_of_getElem? hq, h⟩
    have e1 : k = Sum.inr s := e1
    subst e1
    obtain ⟨dy, hdy, ry⟩ := pair_val pr' hy
    obtain ⟨⟨s1, u1⟩, hu1, e1, g1⟩ := pair_mem p1 _ hdx
    obtain ⟨⟨s2, u2⟩, hu2, e2, g2⟩ := pair_mem p2 _ hdy
    have e1 : s = s1 := e1
    have e2 : s = s2 := e2
    subst e1 e2
    have : E (Sum.inr s) = g s u1 u2 := by
      show (match L1.lookup s, L2.lookup s with | some a, some b => g s a b | _, _ => false) = _
      rw [lk_of_mem n1 hu1, lk_of_mem n2 hu2]
    rw [this]
    exact hk s u1 u2 dx dy hu1 hu2 g1 g2 K H _ _ _ _ _ _ rx ry
  · unfold dEq
    have l1' : ks.length = L1.length := by have := congrArg List.length k1; simpa using this
    have l2' : ls.length = L2.length := by have := congrArg List.length k2; simpa using this
    rw [l1', l2']
    congr 1
    have : (ks.all fun p => (valV ls p.1).isSome && E p.1) = (ks.map (·.1)).all fun k => (valV ls k).isSome && E k := by rw [List.all_map]; rfl
    rw [this, k1, List.map_map, List.all_map]
    refine Bool.eq_iff_iff.mpr ?_
    rw [List.all_eq_true, List.all_eq_true]
    refine forall_congr' fun q => forall_congr' fun hq => ?_
    obtain ⟨s, u⟩ := q
    show ((valV ls (Sum.inr s)).isSome && E (Sum.inr s)) = true ↔ (match L2.lookup s with | some y => g s u y | none => false) = true
    have eE : E (Sum.inr s) = (match L2.lookup s with | some y => g s u y | none => false) := by
      show (match L1.lookup s, L2.lookup s with | some a, some b => g s a b | _, _ => false) = _
      rw [lk_of_mem n1 hq]
      cases L2.lookup s <;> rfl
    rw [eE]
    cases e : L2.lookup s with
    | none => simp
    | some y =>
      have : (valV ls (Sum.inr s)).isSome = true := val_isSome.mpr (by rw [k2]; exact List.mem_map.mpr ⟨s, mem_key (lk_mem3 e), rfl⟩)
      rw [this]; simp
theorem de_dic {α : Type} {n : Nat} {G : Str → D → α → Prop} {g : Str → α → α → Bool} {l1 l2 : List (Str × D)} {L1 L2 : List (Str × α)} (p1 : Paired (fun (p : Str × D) (q : Str × α) => p.1 = q.1 ∧ G q.1 p.2 q.2) l1 L1) (p2 : Paired (fun (p : Str × D) (q : Str × α) => p.1 = q.1 ∧ G q.1 p.2 q.2) l2 L2)
    (n1 : (L1.map (·.1)).Nodup) (n2 : (L2.map (·.1)).Nodup) (hk : ∀ k a b x y, (k, a) ∈ L1 → (k, b) ∈ L2 → G k x a → G k y b → DE n x y (g k a b)) (hs : l1 = l2 → dEq g L1 L2 = true) : DE (n + 1) (.dic l1) (.dic l2) (dEq g L1 L2) := fun K H m1 m2 S1 S2 v1 v2 h1 h2 => by
  obtain ⟨a, c, ks, ls, e, rfl, rfl, ha, hc, he, hb⟩ := dic_top p1 p2 n1 n2 hk (K := K) h1 h2
  by_cases z : a = c
  · subst z
    rw [hs (D.dic.inj (rep_inj h1 h2))]
    exact .same
  · rw [← hb]
    exact .dics z ha hc he
end Pk

namespace Pk
open PySem PySem.Spec PyProof.Rows L2 Ssb
theorem pair_map {α β : Type} {F : β → α → Prop} {g : α → β} : ∀ {l : List α}, (∀ x ∈ l, F (g x) x) → Paired F (l.map g) l
  | [], _ => .nil
  | x :: l, h => .cons (h x List.mem_cons_self) (pair_map fun y hy => h y (List.mem_cons_of_mem _ hy))
theorem nFI : ¬ (("fields" : Str) = "inner") := by decide +kernel
theorem two_cases {l : List (Str × D)} {a b : Str} {x y : D} (ne : a ≠ b) (h2 : l.length = 2) (ha : l.lookup a = some x) (hb : l.lookup b = some y) : l = [(a, x), (b, y)] ∨ l = [(b, y), (a, x)] := by
  match l, h2 with
  | [(j, u), (k, v)], _ =>
    rw [lk_cons] at ha hb
    by_cases c1 : a = j
    · rw [if_pos c1] at ha
      cases ha
      have c2 : ¬ b = j := fun e => ne (c1.trans e.symm)
      rw [if_neg c2, lk_cons] at hb
      by_cases c3 : b = k
      · rw [if_pos c3] at hb
        cases hb
        exact .inl (by rw [c1, c3])
      · rw [if_neg c3] at hb; cases hb
    · rw [if_neg c1, lk_cons] at ha
      by_cases c3 : a = k
      · rw [if_pos c3] at ha
        cases ha
        by_cases c2 : b = j
        · rw [if_pos c2] at hb; cases hb
          exact .inr (by rw [c2, c3])
        · rw [if_neg c2, lk_cons] at hb
          by_cases c4 : b = k
          · exact absurd (c3.trans c4.symm) ne
          · rw [if_neg c4] at hb; cases hb
      · rw [if_neg c3] at ha; cases ha
theorem map_inj {α β : Type} {F : α → β} (hF : ∀ x y, F x = F y → x = y) : ∀ {l m : List α}, l.map F = m.map F → l = m
  | [], [], _ => rfl
  | [], _ :: _, h => nomatch h
  | _ :: _, [], h => nomatch h
  | x :: l, y :: m, h => by
    rw [hF _ _ (List.cons.inj h).1, map_inj hF (List.cons.inj h).2]
theorem strs_inj {a b : List Str} (h : a.map D.str = b.map D.str) : a = b := map_inj (fun x y e => D.str.inj e) h
theorem flD_inj {a b : Fl} (h : flD a = flD b) : a = b := map_inj (fun x y e => by
  have e1 := congrArg Prod.fst e
  have e2 := strs_inj (D.tup.inj (congrArg Prod.snd e))
  exact Prod.ext e1 e2) (D.dic.inj h)
theorem oD_inj {a b : Option Str} (h : oD a = oD b) : a = b := by
  cases a with
  | none => cases b with
    | none => rfl
    | some y => exact nomatch h
  | some x => cases b with
    | none => exact nomatch h
    | some y => exact congrArg some (D.str.inj h)
theorem pair_fun {α β : Type} {F : α → β → Prop} (hF : ∀ a b b', F a b → F a b' → b = b') : ∀ {l : List α} {m m' : List β}, Paired F l m → Paired F l m' → m = m'
  | _, _, _, .nil, .nil => rfl
  | _, _, _, .cons h t, .cons h' t' => by rw [hF _ _ _ h h', pair_fun hF t t']
theorem ls0_fun {d : D} {f f' : Fl} (h : ls0 d f) (h' : ls0 d f') : f = f' := by
  obtain ⟨l, rfl, _, h1, _⟩ := h
  obtain ⟨l', e, _, h2, _⟩ := h'
  cases e
  rw [h1] at h2
  exact flD_inj (Option.some.inj h2)
theorem ls1_fun {d : D} {f f' : Fl} {i i' : List (Str × Fl)} (h : ls1 d f i) (h' : ls1 d f' i') : f = f' ∧ i = i' := by
  obtain ⟨l, e, rfl, _, h1, h2, pr⟩ := h
  obtain ⟨l', e', ed, _, h3, h4, pr'⟩ := h'
  cases ed
  rw [h1] at h3
  rw [h2] at h4
  cases D.dic.inj (Option.some.inj h4)
  refine ⟨flD_inj (Option.some.inj h3), pair_fun (fun a b b' u v => ?_) pr pr'⟩
  exact Prod.ext (u.1.symm.trans v.1) (ls0_fun u.2 v.2)
theorem FE_refl {f : Fl} (h : okFl f) : FE f f = true := dEq_refl h.2.1 fun k a _ => decide_eq_true rfl
theorem IE_refl {i : List (Str × Fl)} (h1 : i.length ≤ 1) (h : ∀ q ∈ i, okFl q.2) : IE i i = true := dEq_refl (nd_one h1) fun k a ha => FE_refl (h _ ha)
theorem de_words {n : Nat} (a b : List Str) : DE (n + 1) (.tup (a.map .str)) (.tup (b.map .str)) (decide (a = b)) := by
  refine de_tup (e := fun j => decide (a[j]? = b[j]?)) (fun j x y hx hy => ?_) ?_ (fun h => decide_eq_true (strs_inj h))
  · rw [List.getElem?_map] at hx hy
    cases ea : a[j]? with
    | none => rw [ea] at hx; cases hx
    | some s =>
    cases eb : b[j]? with
    | none => rw [eb] at hy; cases hy
    | some t =>
    rw [ea] at hx; rw [eb] at hy
    cases hx; cases hy
    rw [show decide (some s = some t) = decide (s = t) from by simp]
    exact de_str s t
  · rw [List.length_map, List.length_map]
    refine Bool.eq_iff_iff.mpr ⟨fun h => ?_, fun h => ?_⟩
    · obtain ⟨h1, h2⟩ := Bool.and_eq_true_iff.mp h
      have h2 := beq_iff_eq.mp h2
      refine decide_eq_true (List.ext_getElem? fun j => ?_)
      by_cases hj : j < a.length
      · exact of_decide_eq_true (List.all_eq_true.mp h1 j (List.mem_range.mpr (by omega)))
      · rw [List.getElem?_eq_none_iff.mpr (by omega), List.getElem?_eq_none_iff.mpr (by omega)]
    · have h := of_decide_eq_true h
      subst h
      refine Bool.and_eq_true_iff.mpr ⟨List.all_eq_true.mpr fun j _ => decide_eq_true rfl, beq_iff_eq.mpr rfl⟩
theorem de_fl {n : Nat} {f1 f2 : Fl} (h1 : okFl f1) (h2 : okFl f2) : DE (n + 2) (flD f1) (flD f2) (FE f1 f2) := by
  refine de_dic (G := fun _ d ws => d = .tup (ws.map .str)) (pair_map fun x _ => ⟨rfl, rfl⟩) (pair_map fun x _ => ⟨rfl, rfl⟩) h1.2.1 h2.2.1 (fun k a b x y _ _ ha hb => ?_) (fun h => ?_)
  · subst ha hb; exact de_words a b
  · have : f1 = f2 := flD_inj (congrArg D.dic h)
    subst this
    exact FE_refl h1
theorem de_nil {n : Nat} : DE (n + 1) (.dic []) (.dic []) true := de_dic (α := Unit) (G := fun _ _ _ => True) (g := fun _ _ _ => true) (L1 := []) (L2 := []) .nil .nil List.nodup_nil List.nodup_nil (fun k a b x y h => nomatch h) fun _ => rfl
/-- the dict of a list: two keys, in either order -/
theorem de_two {n : Nat} {l1 l2 : List (Str × D)} {x1 y1 x2 y2 : D} {b1 b2 : Bool} (z1 : l1.length = 2) (z2 : l2.length = 2) (f1 : l1.lookup ("fields" : Str) = some x1) (i1 : l1.lookup ("inner" : Str) = some y1) (f2 : l2.lookup ("fields" : Str) = some x2) (i2 : l2.lookup ("inner" : Str) = some y2)
    (hx : DE n x1 x2 b1) (hy : DE n y1 y2 b2) (hs : l1 = l2 → (b1 && b2) = true) : DE (n + 1) (.dic l1) (.dic l2) (b1 && b2) := by
  have key : ∀ {l1 l2 : List (Str × D)} {L1 L2 : List (Str × Bool)}, (L1 = [(("fields" : Str), false), (("inner" : Str), false)] ∧ l1 = [(("fields" : Str), x1), (("inner" : Str), y1)] ∨ L1 = [(("inner" : Str), false), (("fields" : Str), false)] ∧ l1 = [(("inner" : Str), y1), (("fields" : Str), x1)]) →
      (L2 = [(("fields" : Str), true), (("inner" : Str), true)] ∧ l2 = [(("fields" : Str), x2), (("inner" : Str), y2)] ∨ L2 = [(("inner" : Str), true), (("fields" : Str), true)] ∧ l2 = [(("inner" : Str), y2), (("fields" : Str), x2)]) → (l1 = l2 → (b1 && b2) = true) → DE (n + 1) (.dic l1) (.dic l2) (b1 && b2) := by
    intro l1 l2 L1 L2 c1 c2 hs
    have nIF : ¬ (("inner" : Str) = "fields") := fun e => nFI e.symm
    have hd : dEq (fun (k : Str) (_ _ : Bool) => if k = "fields" then b1 else b2) L1 L2 = (b1 && b2) := by
      unfold dEq
      rcases c1 with ⟨rfl, _⟩ | ⟨rfl, _⟩ <;> rcases c2 with ⟨rfl, _⟩ | ⟨rfl, _⟩ <;> simp [lk_cons, nFI, nIF, Bool.and_comm]
    rw [← hd]
    refine de_dic (G := fun k d t => d = if k = "fields" then (if t = true then x2 else x1) else (if t = true then y2 else y1)) ?_ ?_ ?_ ?_ (fun k a b x y ha hb gx gy => ?_) (fun e => by rw [hd]; exact hs e)
    · rcases c1 with ⟨rfl, rfl⟩ | ⟨rfl, rfl⟩
      · exact .cons ⟨rfl, by simp⟩ (.cons ⟨rfl, by simp [nIF]⟩ .nil)
      · exact .cons ⟨rfl, by simp [nIF]⟩ (.cons ⟨rfl, by simp⟩ .nil)
    · rcases c2 with ⟨rfl, rfl⟩ | ⟨rfl, rfl⟩
      · exact .cons ⟨rfl, by simp⟩ (.cons ⟨rfl, by simp [nIF]⟩ .nil)
      · exact .cons ⟨rfl, by simp [nIF]⟩ (.cons ⟨rfl, by simp⟩ .nil)
    · rcases c1 with ⟨rfl, _⟩ | ⟨rfl, _⟩ <;> simp [nFI, nIF]
    · rcases c2 with ⟨rfl, _⟩ | ⟨rfl, _⟩ <;> simp [nFI, nIF]
    · have ea : a = false := by
        rcases c1 with ⟨rfl, _⟩ | ⟨rfl, _⟩ <;> (simp at ha; rcases ha with ha | ha <;> exact ha.2)
      have eb : b = true := by
        rcases c2 with ⟨rfl, _⟩ | ⟨rfl, _⟩ <;> (simp at hb; rcases hb with hb | hb <;> exact hb.2)
      subst ea eb
      by_cases c : k = "fields"
      · rw [if_pos c] at gx gy ⊢
        rw [gx, gy]; simpa using hx
      · rw [if_neg c] at gx gy ⊢
        rw [gx, gy]; simpa using hy
  have w1 := two_cases nFI z1 f1 i1
  have w2 := two_cases nFI z2 f2 i2
  rcases w1 with w1 | w1 <;> rcases w2 with w2 | w2
  · exact key (.inl ⟨rfl, w1⟩) (.inl ⟨rfl, w2⟩) hs
  · exact key (.inl ⟨rfl, w1⟩) (.inr ⟨rfl, w2⟩) hs
  · exact key (.inr ⟨rfl, w1⟩) (.inl ⟨rfl, w2⟩) hs
  · exact key (.inr ⟨rfl, w1⟩) (.inr ⟨rfl, w2⟩) hs
theorem de_ls0 {n : Nat} {d1 d2 : D} {f1 f2 : Fl} (h1 : ls0 d1 f1) (h2 : ls0 d2 f2) (o1 : okFl f1) (o2 : okFl f2) : DE (n + 3) d1 d2 (FE f1 f2) := by
  have hf : d1 = d2 → f1 = f2 := fun e => ls0_fun h1 (e ▸ h2)
  obtain ⟨l1, rfl, z1, a1, b1⟩ := h1
  obtain ⟨l2, rfl, z2, a2, b2⟩ := h2
  have := de_two (n := n + 2) z1 z2 a1 b1 a2 b2 (de_fl o1 o2) de_nil (fun e => by rw [← hf (congrArg D.dic e), FE_refl o1]; rfl)
  rw [Bool.and_true] at this
  exact this
def okI (i : List (Str × Fl)) : Prop := i.length ≤ 1 ∧ ∀ q ∈ i, okFl q.2
theorem de_in {n : Nat} {e1 e2 : List (Str × D)} {i1 i2 : List (Str × Fl)} (p1 : Paired (fun (p : Str × D) (q : Str × Fl) => p.1 = q.1 ∧ ls0 p.2 q.2) e1 i1) (p2 : Paired (fun (p : Str × D) (q : Str × Fl) => p.1 = q.1 ∧ ls0 p.2 q.2) e2 i2) (o1 : okI i1) (o2 : okI i2) : DE (n + 4) (.dic e1) (.dic e2) (IE i1 i2) := by
  refine de_dic (G := fun _ d f => ls0 d f) p1 p2 (nd_one o1.1) (nd_one o2.1) (fun k a b x y ha hb gx gy => de_ls0 gx gy (o1.2 _ ha) (o2.2 _ hb)) (fun e => ?_)
  subst e
  have : i1 = i2 := pair_fun (fun a b b' u v => Prod.ext (u.1.symm.trans v.1) (ls0_fun u.2 v.2)) p1 p2
  subst this
  exact IE_refl o1.1 o1.2
theorem de_ls1 {n : Nat} {d1 d2 : D} {f1 f2 : Fl} {i1 i2 : List (Str × Fl)} (h1 : ls1 d1 f1 i1) (h2 : ls1 d2 f2 i2) (o1 : okFl f1) (o2 : okFl f2) (q1 : okI i1) (q2 : okI i2) : DE (n + 5) d1 d2 (FE f1 f2 && IE i1 i2) := by
  have hf : d1 = d2 → f1 = f2 ∧ i1 = i2 := fun e => ls1_fun h1 (e ▸ h2)
  obtain ⟨l1, e1, rfl, z1, a1, b1, p1⟩ := h1
  obtain ⟨l2, e2, rfl, z2, a2, b2, p2⟩ := h2
  refine de_two (n := n + 4) z1 z2 a1 b1 a2 b2 (de_fl o1 o2) (de_in p1 p2 q1 q2) (fun e => ?_)
  obtain ⟨rfl, rfl⟩ := hf (congrArg D.dic e)
  rw [FE_refl o1, IE_refl q1.1 q1.2]; rfl
/-- == of the lists of two shapes -/
theorem top_sh {d1 d2 : D} {s1 s2 : Sh} (h1 : shD d1 s1) (h2 : shD d2 s2) (o1 : okSh s1) (o2 : okSh s2) {K : PySem.W.Frag} {H : Hp} {m1 m2 : Nat} {S1 S2 : Addr → Prop} {v1 v2 : V} (r1 : Rep H m1 S1 d1 v1) (r2 : Rep H m2 S2 d2 v2) {Q : VK} (q : Q (.bl (LE s1 s2)) H) :
    rEqQ K v1 v2 H Q := by
  obtain ⟨l1, rfl, p1⟩ := h1
  obtain ⟨l2, rfl, p2⟩ := h2
  obtain ⟨a, c, ks, ls, e, rfl, rfl, ha, hc, he, hb⟩ := dic_top (n := 5) (G := fun _ d a => ls1 d a.1 a.2) (g := fun _ a b => FE a.1 b.1 && IE a.2 b.2) p1 p2 (sh_nd o1.2.1) (sh_nd o2.2.1)
    (fun k a b x y ma mb ga gb => de_ls1 (n := 0) ga gb (o1.2.2 _ ma).2.1 (o2.2.2 _ mb).2.1 ⟨(o1.2.2 _ ma).2.2.1, fun q hq => ((o1.2.2 _ ma).2.2.2 q hq).2⟩ ⟨(o2.2.2 _ mb).2.2.1, fun q hq => ((o2.2.2 _ mb).2.2.2 q hq).2⟩) (K := K) r1 r2
  exact ⟨5, a, c, ks, ls, e, by decide, rfl, rfl, ha, hc, he, by rw [hb]; exact q⟩
/-- == of the tables -/
theorem top_tab {s1 s2 : Sh} (o1 : okSh s1) (o2 : okSh s2) {K : PySem.W.Frag} {H : Hp} {m1 m2 : Nat} {S1 S2 : Addr → Prop} {v1 v2 : V} (r1 : Rep H m1 S1 (tabD s1) v1) (r2 : Rep H m2 S2 (tabD s2) v2) {Q : VK} (q : Q (.bl (TbE s1 s2)) H) : rEqQ K v1 v2 H Q := by
  have k1 := (okSh_rows o1).2
  have k2 := (okSh_rows o2).2
  obtain ⟨a, c, ks, ls, e, rfl, rfl, ha, hc, he, hb⟩ := dic_top (n := 4) (α := Option Str × Fl) (L1 := rowsS s1) (L2 := rowsS s2) (G := fun _ d a => d = .tup [oD a.1, flD a.2]) (g := fun _ a b => decide (a.1 = b.1) && FE a.2 b.2) (pair_map fun x _ => ⟨rfl, rfl⟩) (pair_map fun x _ => ⟨rfl, rfl⟩) o1.2.1 o2.2.1
    (fun k a b x y ma mb ga gb => by
      subst ga gb
      refine de_tup (e := fun j => if j = 0 then decide (a.1 = b.1) else FE a.2 b.2) (fun j x y hx hy => ?_) ?_ (fun h => ?_)
      · match j with
        | 0 => cases hx; cases hy; exact de_opt a.1 b.1
        | 1 => cases hx; cases hy; exact de_fl (n := 1) (k1 _ ma).2 (k2 _ mb).2
        | j + 2 => cases hx
      · simp [List.range, List.range.loop]
      · have h1 := oD_inj (List.cons.inj h).1
        have h2 := flD_inj (List.cons.inj (List.cons.inj h).2).1
        rw [h1, h2, FE_refl (k2 _ mb).2, decide_eq_true rfl]; rfl) (K := K) r1 r2
  exact ⟨4, a, c, ks, ls, e, by decide, rfl, rfl, ha, hc, he, by rw [hb]; exact q⟩
end Pk

namespace Pk
open PySem PySem.Spec PyProof.Rows L2 Ssb
open Evl (Ex Ev EvT EvL EvA EvU)
theorem lt_tot : ∀ xs ys : List Nat, ltCps xs ys = false → ltCps ys xs = false → xs = ys
  | [], [], _, _ => rfl
  | [], _ :: _, h, _ => nomatch h
  | _ :: _, [], _, h => nomatch h
  | a :: r, b :: t, h1, h2 => by
    simp only [ltCps, Bool.or_eq_false_iff, decide_eq_false_iff_not, Bool.and_eq_false_iff, beq_eq_false_iff_ne] at h1 h2
    have e : a = b := by omega
    subst e
    rw [lt_tot r t (h1.2.resolve_left fun h => h rfl) (h2.2.resolve_left fun h => h rfl)]
theorem sort_uniq {l m : List Str} (p : l.Perm m) (h : m.length ≤ 2) (sl : sortedS l = true) (sm : sortedS m = true) : l = m := by
  match m, h with
  | [], _ => exact p.eq_nil
  | [x], _ => exact List.perm_singleton.mp p
  | [a, b], _ =>
    match l, p.length_eq with
    | [c, d], _ =>
      by_cases e : c = a
      · subst e
        rw [List.cons.inj (List.perm_singleton.mp ((List.perm_cons c).mp p)) |>.1]
      · have hc : c = b := by
          have := p.mem_iff.mp (List.mem_cons_self : c ∈ [c, d])
          rcases List.mem_cons.mp this with h | h
          · exact absurd h e
          · exact List.mem_singleton.mp h
        subst hc
        have hd : d = a := (List.cons.inj (List.perm_singleton.mp ((List.perm_cons c).mp (p.trans (List.Perm.swap c a []))))).1
        subst hd
        have s1 : ltCps d.cps.toList c.cps.toList = false := by
          simp only [sortedS, risingS, Bool.and_true, Bool.not_eq_true'] at sl; exact sl
        have s2 : ltCps c.cps.toList d.cps.toList = false := by
          simp only [sortedS, risingS, Bool.and_true, Bool.not_eq_true'] at sm; exact sm
        have := lt_tot _ _ s1 s2
        obtain ⟨⟨c⟩⟩ := c
        obtain ⟨⟨d⟩⟩ := d
        have : d = c := this
        rw [this]
open Classical in
noncomputable def srt (l : List Str) : List Str := if h : ∃ m : List Str, m.Perm l ∧ sortedS m = true then h.choose else l
theorem srt_eq {l ys : List Str} (h : l.length ≤ 2) (p : ys.Perm l) (s : sortedS ys = true) : ys = srt l := by
  have e : ∃ m : List Str, m.Perm l ∧ sortedS m = true := ⟨ys, p, s⟩
  unfold srt
  rw [dif_pos e]
  have c := e.choose_spec
  exact sort_uniq (p.trans c.1.symm) (by rw [c.1.length_eq]; exact h) s c.2
theorem srt_perm {l : List Str} : (srt l).Perm l := by
  unfold srt
  split
  · next h => exact h.choose_spec.1
  · exact List.Perm.refl _
/-! ### lists and tuples of words -/
theorem isW_ok {x : Str} (h : isW x) : PyData.strOk x = true := by
  unfold PyData.strOk
  rw [← Array.all_toList]
  refine List.all_eq_true.mpr fun c hc => ?_
  have := (h.2.2 c hc).2
  exact decide_eq_true (by omega)
theorem shaped_strs {ns : List Str} (h : ∀ x ∈ ns, isW x) : SeqAt.shaped (.list (ns.map PyData.str)) = true ∧ SeqAt.shaped (.tuple (ns.map PyData.str)) = true := by
  have h : PyData.canLayAll0 (ns.map PyData.str) = true ∧ PyData.depthAll (ns.map PyData.str) ≤ 1 := by
    induction ns with
    | nil => exact ⟨by simp [PyData.canLayAll0], by simp [PyData.depthAll]⟩
    | cons n ns ih =>
      have ih := ih fun x hx => h x (List.mem_cons_of_mem _ hx)
      exact ⟨by simp [PyData.canLayAll0, PyData.canLay0, ih.1, isW_ok (h n List.mem_cons_self)], by have := ih.2; simp [PyData.depthAll, PyData.depth]; omega⟩
  have h2 := h.2
  constructor <;> (unfold SeqAt.shaped; simp only [PyData.canLay0, PyData.depth, h.1, Bool.true_and]; exact decide_eq_true (by omega))
theorem dp_strs {K : PySem.W.Frag} {H : Hp} : ∀ (ns : List Str), DpAll K H (ns.map V.str) (ns.map PyData.str)
  | [] => .nil
  | n :: ns => .cons (.str n) (dp_strs ns)
theorem eqv_strs : ∀ (a b : List Str), PyData.eqvAll (a.map PyData.str) (b.map PyData.str) = decide (a = b)
  | [], [] => by simp [PyData.eqvAll]
  | [], _ :: _ => by simp [PyData.eqvAll]
  | _ :: _, [] => by simp [PyData.eqvAll]
  | x :: a, y :: b => by
    show (PyData.eqv (.str x) (.str y) && PyData.eqvAll (a.map PyData.str) (b.map PyData.str)) = _
    rw [eqv_strs a b]
    have : PyData.eqv (.str x) (.str y) = decide (x = y) := by
      simp only [PyData.eqv]
      exact Bool.eq_iff_iff.mpr (by simp)
    rw [this]
    exact Bool.eq_iff_iff.mpr (by simp)
theorem eq_tups {K : PySem.W.Frag} {H : Hp} {a c : Addr} {xs ys : List Str} (ha : H a = some (.tup (xs.map V.str))) (hc : H c = some (.tup (ys.map V.str))) (wx : ∀ x ∈ xs, isW x) (wy : ∀ x ∈ ys, isW x) {Q : VK} (q : Q (.bl (decide (xs = ys))) H) : rEqD K (.ref a) (.ref c) H Q :=
  ⟨_, _, .tup (Evl.st_of ha) (dp_strs xs), .tup (Evl.st_of hc) (dp_strs ys), (shaped_strs wx).2, (shaped_strs wy).2, by
    have : PyData.eqv (.tuple (xs.map PyData.str)) (.tuple (ys.map PyData.str)) = decide (xs = ys) := by simp only [PyData.eqv]; exact eqv_strs xs ys
    rw [this]; exact q⟩
theorem eq_lsts {K : PySem.W.Frag} {H : Hp} {a c : Addr} {xs ys : List Str} (ha : SqL K H a (xs.map V.str)) (hc : SqL K H c (ys.map V.str)) (wx : ∀ x ∈ xs, isW x) (wy : ∀ x ∈ ys, isW x) {Q : VK} (q : Q (.bl (decide (xs = ys))) H) : rEqD K (.ref a) (.ref c) H Q :=
  ⟨_, _, .lst ha (dp_strs xs), .lst hc (dp_strs ys), (shaped_strs wx).1, (shaped_strs wy).1, by
    have : PyData.eqv (.list (xs.map PyData.str)) (.list (ys.map PyData.str)) = decide (xs = ys) := by simp only [PyData.eqv]; exact eqv_strs xs ys
    rw [this]; exact q⟩
/-! ### either way round -/
theorem dEq_symm {α : Type} {g : Str → α → α → Bool} {l1 l2 : List (Str × α)} (n1 : (l1.map (·.1)).Nodup) (n2 : (l2.map (·.1)).Nodup) (h : ∀ k a b, (k, a) ∈ l1 → (k, b) ∈ l2 → g k a b = g k b a) : dEq g l1 l2 = dEq g l2 l1 := by
  refine Bool.eq_iff_iff.mpr ?_
  rw [dEq_iff n1 n2, dEq_iff n2 n1]
  constructor
  · rintro ⟨F, B⟩
    exact ⟨fun k b hb => (B k b hb).elim fun a ha => ⟨a, ha.1, by rw [← h k a b ha.1 hb]; exact ha.2⟩, fun k a ha => (F k a ha).elim fun b hb => ⟨b, hb.1, by rw [← h k a b ha hb.1]; exact hb.2⟩⟩
  · rintro ⟨F, B⟩
    exact ⟨fun k a ha => (B k a ha).elim fun b hb => ⟨b, hb.1, by rw [h k a b ha hb.1]; exact hb.2⟩, fun k b hb => (F k b hb).elim fun a ha => ⟨a, ha.1, by rw [h k a b ha.1 hb]; exact ha.2⟩⟩
theorem FE_symm {f1 f2 : Fl} (h1 : okFl f1) (h2 : okFl f2) : FE f1 f2 = FE f2 f1 := dEq_symm h1.2.1 h2.2.1 fun k a b _ _ => Bool.eq_iff_iff.mpr (by simp [eq_comm])
theorem TE_symm {s1 s2 : Sh} (z1 : okSh s1) (z2 : okSh s2) : TbE s1 s2 = TbE s2 s1 := dEq_symm z1.2.1 z2.2.1 fun k a b ha hb => by
  rw [FE_symm ((okSh_rows z1).2 _ ha).2 ((okSh_rows z2).2 _ hb).2]
  congr 1
  exact Bool.eq_iff_iff.mpr (by simp [eq_comm])
theorem TE_refl {s : Sh} (z : okSh s) : TbE s s = true := dEq_refl z.2.1 fun k a ha => by
  rw [FE_refl ((okSh_rows z).2 _ ha).2, decide_eq_true rfl]; rfl
/-! ### the shape's own == -/
/-- of lists and tuples of words, or of dicts -/
def rEqU (K : PySem.W.Frag) : R2 := fun x y H Q => rEqD K x y H Q ∨ rEqQ K x y H Q
theorem op_eqU {X : Cx} (hu : X.A.units + 64 < cLine) : OpR X (compareOp .Eq) (rEqU X.K) := fun pins s σ H x y v u Q I rx ry h => h.elim (op_eqD hu pins s σ H x y v u Q I rx ry) (op_eqQ hu pins s σ H x y v u Q I rx ry)
/-- what == of a shape answers -/
def EqR (K : PySem.W.Frag) (C : Addr) (x y : V) (H : Hp) (b : Bool) : Prop := ∃ (p : Addr) (fl : List Str) (s : Sh) (S : Addr → Prop), x = .ref p ∧ ShapeAt C H p fl s S ∧ okSh s ∧ (∀ z ∈ fl, isW z) ∧
  ((∃ (p2 : Addr) (fl2 : List Str) (s2 : Sh) (S2 : Addr → Prop), y = .ref p2 ∧ ShapeAt C H p2 fl2 s2 S2 ∧ okSh s2 ∧ (∀ z ∈ fl2, isW z) ∧ b = (decide (fl = fl2) && TbE s s2)) ∨ (∃ t, TyX K H y t ∧ (∀ H', Ex H H' → TyX K H' y t) ∧ PySem.W.kitOne K t (.ref C) = some false ∧ b = false))
section
variable {P : Program} {w : World} {K : PySem.W.Frag} {mg : Str → Option Value} {base : Heap} {C_Shape C_SHAPES : Addr}
theorem ty_shape (T : Txt K mg C_Shape C_SHAPES) {H : Hp} {p dx : Addr} {fs : List (Str × V)} (h : H p = some (.ins C_Shape dx fs)) : TyX K H (.ref p) (.ref C_Shape) := .base (.ins h T.cl_Shape T.kl_Shape T.gt_cls T.tk_cls T.km_Shape)
theorem ok_Shape_eq (T : Txt K mg C_Shape C_SHAPES) (R : Prg K mg C_Shape C_SHAPES) : ∃ f fd, FnOk P w K mg base CX0 1 f fd ["self", "other"] (spB2 (EqR K C_Shape)) ∧ EqFacts K C_Shape f ∧ Binds K fd ["self", "other"] [] := by
  obtain ⟨f, fd, F, fi, isf, kp⟩ := R.Shape_eq
  refine ⟨f, fd, F.ok sc_Shape_eq (fun vs H Q E h => ?_) (fun cdv A outer s H vs Q E hr h => ?_), ⟨isf, fi⟩, F.binds (fun _ _ _ _ _ _ us hl => match us, hl with | [_, _], _ => rfl)⟩
  · obtain ⟨a, y, b, rfl, _⟩ := h; rfl
  · obtain ⟨a, y, b, rfl, ⟨p, fl, z, S, e, hp, hz, wf, hy⟩, k⟩ := h
    cases e
    refine ⟨_, (pss_one (ps_ret (pe_and (pe_callB (r := rIsi K) call_isi (by rfl) T.isinstance (by decide +kernel) (pa_cons (pv 1) (pa_cons (pe_glob (v := .ref C_Shape) rfl T.at_Shape rfl) pa_nil))) (pe_and (pe_cmpR (r := rEqU K) (op_eqU hr.units) (show PE _ _ (tFld K _ _) from pe_fld (pv 0) rfl) (show PE _ _ (tFld K _ _) from pe_fld (pv 1) rfl) (nomark _)) (pe_one (pe_cmpR (r := rEqU K) (op_eqU hr.units) (show PE _ _ (tFld K _ _) from pe_fld (pv 0) rfl) (show PE _ _ (tFld K _ _) from pe_fld (pv 1) rfl) (nomark _))))))), ?_⟩
    obtain ⟨dx, ft, tb, hp1, hft, htb⟩ := hp
    rcases hy with ⟨p2, fl2, z2, S2, rfl, hp2, hz2, wf2, rfl⟩ | ⟨t, ty, ty', hk, rfl⟩
    · obtain ⟨dx2, ft2, tb2, hq1, hft2, htb2⟩ := hp2
      refine Evl.s_ret (v := .bl (decide (fl = fl2) && TbE z z2)) (Evl.ev_is (Evl.ev_andV (a := true) (b := decide (fl = fl2) && TbE z z2) (fun H1 e1 Q q => ⟨_, rfl, .ref p2, .ref C_Shape, .ref C_Shape, .ref C_Shape, true, rfl, .own C_Shape, ty_shape T (e1 _ _ hq1), T.se_Shape, q H1 (Ex.refl _)⟩) fun _ => ?_) rfl) fun H' e => k H' e
      refine Evl.ev_andV (a := decide (fl = fl2)) (b := TbE z z2) (fun H1 e1 Q q => ?_) (fun _ H1 e1 Q q => ?_)
      · exact ⟨_, rfl, a, C_Shape, dx, _, _, rfl, e1 _ _ hp1, T.cl_Shape, T.no_Shape_flags, shF_flags _ _, _, rfl, p2, C_Shape, dx2, _, _, rfl, e1 _ _ hq1, T.cl_Shape, T.no_Shape_flags, shF_flags _ _, .inl (eq_tups (e1 _ _ hft) (e1 _ _ hft2) wf wf2 (q H1 (Ex.refl _)))⟩
      · exact ⟨_, rfl, a, C_Shape, dx, _, _, rfl, e1 _ _ hp1, T.cl_Shape, T.no_Shape_table, shF_table _ _, _, rfl, p2, C_Shape, dx2, _, _, rfl, e1 _ _ hq1, T.cl_Shape, T.no_Shape_table, shF_table _ _, .inr (top_tab hz hz2 (rep_ex e1 htb) (rep_ex e1 htb2) (q H1 (Ex.refl _)))⟩
    · exact Evl.s_ret (v := .bl false) (Evl.ev_is (Evl.ev_andV (a := false) (b := false) (fun H1 e1 Q q => ⟨_, rfl, y, .ref C_Shape, t, .ref C_Shape, false, rfl, .own C_Shape, ty' H1 e1, hk, q H1 (Ex.refl _)⟩) fun h => nomatch h) rfl) fun H' e => k H' e
end
end Pk

/-! a text n times. -/
namespace Ssb
open PySem PySem.Spec PyProof.Rows L2
section
variable {X : Cx}
def repS (a : Str) (n : Nat) : Str := ⟨((List.replicate n a.cps.toList).flatten).toArray⟩
theorem rep_fold (a : Array Nat) : ∀ (n : Nat) (acc : Array Nat), (List.replicate n a).foldl (· ++ ·) acc = acc ++ ((List.replicate n a.toList).flatten).toArray
  | 0, acc => by simp
  | n + 1, acc => by
    rw [List.replicate_succ, List.foldl_cons, rep_fold a n, List.replicate_succ, List.flatten_cons]
    apply Array.toList_inj.mp
    simp
def rMulT : R2 := fun x y H Q => ∃ (a : Str) (n : Nat), x = .str a ∧ y = .int (n : Int) ∧ 1 ≤ a.length ∧ a.length ≤ 10 ∧ n ≤ 1000 ∧ Q (.str (repS a n)) H
theorem op_mulT : OpR X (binaryOp .Mult) rMulT := by
  rintro pins s σ H x y v u Q I rx ry ⟨a, k, rfl, rfl, a1, a2, n2, q⟩
  obtain ⟨t, rfl⟩ := rx
  obtain ⟨t2, rfl⟩ := ry
  have hl : a.length * k ≤ 10 * 1000 := Nat.mul_le_mul a2 n2
  refine P.mul_str (by simp; omega) (fun _ _ => ?_) (fun _ _ => ?_) ?_
  · have : (a.length : Int) ≤ ((2 : Int) ^ 63 - 1) / (k : Int) := by
      by_cases k0 : k = 0
      · omega
      · exact (Int.le_ediv_iff_mul_le (by omega)).mpr (by have : ((a.length * k : Nat) : Int) ≤ 10000 := by omega
                                                          rw [Int.natCast_mul] at this; omega)
    omega
  · rw [Int.toNat_natCast]
    unfold Builtin.Str.tooLong
    rw [sizeLine_eq]
    exact decide_eq_false (by omega)
  · by_cases k0 : k = 0
    · subst k0
      rw [if_pos (by decide)]
      exact ⟨by decide, .str _, H, I.tok _, ⟨_, rfl⟩, q⟩
    rw [if_neg (by omega)]
    by_cases h1 : k = 1
    · subst h1
      have e : repS a 1 = a := by
        unfold repS
        rw [List.replicate_succ, List.replicate_zero, List.flatten_cons, List.flatten_nil, List.append_nil]
      rw [e] at q
      rw [if_pos (by rfl)]
      exact ⟨.str _, H, I, ⟨t, rfl⟩, q⟩
    · rw [if_neg (by simp; omega), Int.toNat_natCast, rep_fold, Array.empty_append]
      refine ⟨?_, .str _, H, I.tok _, ⟨_, rfl⟩, q⟩
      show ((List.replicate k a.cps.toList).flatten).toArray.size ≤ _
      rw [List.size_toArray, List.length_flatten, List.map_replicate, List.sum_replicate_nat, sizeLine_eq]
      have : a.cps.toList.length = a.length := by simp [Str.length]
      rw [this, Nat.mul_comm]; omega
end
end Ssb

namespace Pk
open PySem PySem.Spec PyProof.Rows L2 Ssb
open Evl (Ex Ev EvT EvL EvA EvU)
open TL (tl ext_tl tl_append tl_join joinL join_eq split_join)
/-! ### rows of words -/
def wsT (ws : List Str) : Str := Txt.join (" " : Str) ws
def lineW (lv : Nat) (ws : List Str) : Str := repS ("  " : Str) lv ++ wsT ws
def rowT (q : Nat × List Str) : Str := lineW q.1 q.2 ++ ("\n" : Str)
def catT (rs : List Str) : Str := Txt.join ("" : Str) rs
theorem joinL_nil : ∀ (ps : List (List Nat)), joinL [] ps = ps.flatten
  | [] => rfl
  | [p] => by rw [List.flatten_cons, List.flatten_nil, List.append_nil]; rfl
  | p :: q :: r => by
    show p ++ ([] ++ joinL [] (q :: r)) = _
    rw [List.nil_append, joinL_nil (q :: r), List.flatten_cons, List.flatten_cons, List.flatten_cons]
theorem tl_cat (rs : List Str) : tl (catT rs) = (rs.map tl).flatten := by
  unfold catT
  rw [join_eq, tl_join]
  exact joinL_nil _
theorem tl_ofS : tl ("\n" : Str) = [10] := by decide +kernel
theorem tl_sp : tl (" " : Str) = [32] := by decide +kernel
theorem tl_rep (n : Nat) : tl (repS ("  " : Str) n) = List.replicate (2 * n) 32 := by
  unfold repS
  show (List.replicate n (tl ("  " : Str))).flatten = _
  have e : tl ("  " : Str) = [32, 32] := by decide +kernel
  rw [e]
  induction n with
  | zero => rfl
  | succ n ih =>
    rw [List.replicate_succ, List.flatten_cons, ih, Nat.mul_succ]
    show 32 :: 32 :: List.replicate (2 * n) 32 = _
    rw [← List.replicate_succ, ← List.replicate_succ]
/-- words joined, as they stand -/
theorem tl_ws : ∀ {ws : List Str}, tl (wsT ws) = joinL [32] (ws.map tl) := fun {ws} => by
  unfold wsT
  rw [join_eq, tl_join, tl_sp]
theorem tl_line (lv : Nat) (ws : List Str) : tl (lineW lv ws) = List.replicate (2 * lv) 32 ++ tl (wsT ws) := by
  unfold lineW
  rw [tl_append, tl_rep]
theorem tl_row (q : Nat × List Str) : tl (rowT q) = tl (lineW q.1 q.2) ++ [10] := by
  unfold rowT
  rw [tl_append, tl_ofS]
/-! ### the rows of a shape -/
def fLn (lv : Nat) (f : Fl) : List (Nat × List Str) := f.map fun p => (lv, ("field" : Str) :: p.1 :: p.2)
def iLn (lv : Nat) (q : Str × Fl) : List (Nat × List Str) := (lv, [("list" : Str), q.1]) :: fLn (lv + 1) q.2
def oLn (p : Str × Fl × List (Str × Fl)) : List (Nat × List Str) := (0, [("list" : Str), p.1]) :: (fLn 1 p.2.1 ++ p.2.2.flatMap (iLn 1))
def shLn (fl : List Str) (s : Sh) : List (Nat × List Str) := fl.map (fun x => (0, [("flag" : Str), x])) ++ s.flatMap oLn
def shT (fl : List Str) (s : Sh) : Str := catT ((shLn fl s).map rowT)
def iT (lv : Nat) (q : Str × Fl) : Str := catT ((iLn lv q).map rowT)
def oT (p : Str × Fl × List (Str × Fl)) : Str := catT ((oLn p).map rowT)
theorem flat_cat {α : Type} {f : α → List (Nat × List Str)} (l : List α) : ((l.map fun a => catT ((f a).map rowT)).map tl).flatten = (((l.flatMap f).map rowT).map tl).flatten := by
  induction l with
  | nil => rfl
  | cons a l ih =>
    rw [List.map_cons, List.map_cons, List.flatten_cons, ih, List.flatMap_cons, List.map_append, List.map_append, List.flatten_append, tl_cat]
theorem oT_eq (p : Str × Fl × List (Str × Fl)) : catT ([rowT (0, [("list" : Str), p.1])] ++ (fLn 1 p.2.1).map rowT ++ p.2.2.map (iT 1)) = oT p := ext_tl (by
  unfold oT oLn
  rw [tl_cat, tl_cat]
  simp only [List.map_append, List.flatten_append, List.map_cons, List.flatten_cons, List.map_nil, List.flatten_nil, List.append_nil, List.append_assoc]
  rw [← flat_cat]; rfl)
theorem iT_eq (lv : Nat) (q : Str × Fl) : catT ([rowT (lv, [("list" : Str), q.1])] ++ (fLn (lv + 1) q.2).map rowT ++ []) = iT lv q := ext_tl (by
  unfold iT iLn
  rw [tl_cat, tl_cat, List.append_nil]; rfl)
theorem shT_eq (fl : List Str) (s : Sh) : catT ((fl.map fun x => rowT (0, [("flag" : Str), x])) ++ s.map oT) = shT fl s := ext_tl (by
  unfold shT shLn
  rw [tl_cat, tl_cat, List.map_append, List.flatten_append, List.map_append, List.map_append, List.flatten_append, ← flat_cat]
  refine congr (congrArg (fun (a b : List Nat) => a ++ b) ?_) rfl
  rw [List.map_map, List.map_map, List.map_map]; rfl)
/-! ### sorted -/
noncomputable def canF (f : Fl) : Fl := (srt (f.map (·.1))).map fun k => (k, (f.lookup k).getD [])
noncomputable def canI (i : List (Str × Fl)) : List (Str × Fl) := (srt (i.map (·.1))).map fun k => (k, canF ((i.lookup k).getD []))
noncomputable def canS (s : Sh) : Sh := (srt (s.map (·.1))).map fun k => (k, canF ((s.lookup k).getD ([], [])).1, canI ((s.lookup k).getD ([], [])).2)
theorem srt_len {l : List Str} : (srt l).length = l.length := srt_perm.length_eq
theorem srt_mem {l : List Str} {x : Str} : x ∈ srt l ↔ x ∈ l := srt_perm.mem_iff
theorem canF_ok {f : Fl} (h : okFl f) : okFl (canF f) := by
  obtain ⟨h1, h2, h3⟩ := h
  have e : (canF f).map (·.1) = srt (f.map (·.1)) := by
    unfold canF
    rw [List.map_map]
    show List.map (fun k => k) _ = _
    rw [List.map_id']
  refine ⟨by unfold canF; rw [List.length_map, srt_len, List.length_map]; exact h1, by rw [e]; exact srt_perm.symm.nodup h2, fun p hp => ?_⟩
  unfold canF at hp
  obtain ⟨k, hk, rfl⟩ := List.mem_map.mp hp
  obtain ⟨a, ha⟩ := key_mem (srt_mem.mp hk)
  have := lk_of_mem h2 ha
  show isW k ∧ 2 ≤ ((f.lookup k).getD []).length ∧ ((f.lookup k).getD []).length ≤ 3 ∧ (∀ x ∈ (f.lookup k).getD [], isW x) ∧ ((f.lookup k).getD []).Nodup
  rw [this]
  exact h3 _ ha
theorem can_keys {α β : Type} {l : List (Str × α)} {g : Str → β} : ((srt (l.map (·.1))).map fun k => (k, g k)).map (·.1) = srt (l.map (·.1)) := by
  rw [List.map_map]
  show List.map (fun k => k) _ = _
  rw [List.map_id']
end Pk

namespace Pk
open PySem PySem.Spec PyProof.Rows L2 Ssb
open Evl (Ex Ev EvT EvL EvA EvU)
open TL (tl ext_tl tl_append tl_join joinL join_eq split_join len_tl)
/-! ### a shape is written -/
/-- a list, new or not -/
def EvB (te : TE) (σ : L2.St) (H : Hp) (xs : List V) : Prop := ∀ H1, Ex H H1 → ∀ Q : VK, (∀ p H2, Ex H1 H2 → H2 p = some (.lst xs) → Q (.ref p) H2) → te σ H1 Q
section
variable {K : PySem.W.Frag} {σ : L2.St} {H : Hp} {te ta tb tl_ td : TE} {vs : List Nat} {j : Nat}
theorem eb_L {xs : List V} (h : EvL te σ H xs) : EvB te σ H xs := fun H1 e Q q => h H1 e _ fun p H2 _ e2 hx => q p H2 e2 hx
theorem eb_var {i : Nat} {a : Addr} {xs : List V} (h : σ[i]? = some (some (.ref a))) (ha : H a = some (.lst xs)) : EvB (tVar i) σ H xs := fun H1 e Q q => ⟨_, h, q a H1 (Ex.refl _) (e _ _ ha)⟩
theorem el_cat {xs ys : List V} (ha : EvB ta σ H xs) (hb : EvB tb σ H ys) (hz : xs.length + ys.length ≤ 100000) : EvL (tOp rCat ta tb) σ H (xs ++ ys) := fun H1 e Q q =>
  ha H1 e _ fun a H2 e2 hx => hb H2 (e.trans e2) _ fun b H3 e3 hy => ⟨a, b, xs, ys, rfl, rfl, e3 _ _ hx, hy, Evl.sz_of hz, fun p hp => q p _ (Evl.fresh_back (e2.trans e3) hp) ((e2.trans e3).trans (Ex.new hp)) upd_same⟩
theorem rmap {ws : List Str} {f : Str → V} : (List.range (ws.map V.str).length).map (fun i => f (ws.getD i Str.empty)) = ws.map f := by
  refine List.ext_getElem (by simp) fun i h1 h2 => ?_
  simp only [List.length_map, List.length_range] at h1
  have : i < ws.length := by simpa using h1
  simp [List.getD, List.getElem?_eq_getElem this]
theorem el_lcW {ws : List Str} {f : Str → V} (h : EvB tl_ σ H (ws.map V.str)) (hz : ws.length ≤ 1000) (hw : ∀ x, wipe ((wipe σ vs).set j (some x)) vs = wipe σ vs) (he : ∀ x ∈ ws, ∀ H2, Ex H H2 → Ev te ((wipe σ vs).set j (some (.str x))) H2 (f x)) : EvL (tLc (iList K tl_) (gName j) tYes te vs) σ H (ws.map f) := fun H1 e Q q =>
  h H1 e _ fun a H2 e2 hx => ⟨a, rfl, ⟨_, Evl.sq_of hx⟩, fun Dl hD => el_walk (f := fun i => f (ws.getD i Str.empty)) walk_list (by rw [List.length_map]; omega) (fun H3 e3 => Evl.sq_of (e3 _ _ hx)) hw (fun i x h3 H3 e3 => by
    rw [List.getElem?_map] at h3
    cases hi : ws[i]? with
    | none => rw [hi] at h3; cases h3
    | some w =>
      rw [hi] at h3
      cases h3
      have : ws.getD i Str.empty = w := by rw [List.getD_eq_getElem?_getD, hi]; rfl
      show Ev te _ H3 (f (ws.getD i Str.empty))
      rw [this]
      exact he w (List.mem_of_getElem? hi) H3 ((e.trans e2).trans e3)) (fun p H3 hp e3 hl => q p H3 (Evl.fresh_back e2 hp) (e2.trans e3) (by rw [rmap] at hl; exact hl)) Dl hD⟩
theorem ev_join {sep : Str} {ws : List Str} (h : EvB te σ H (ws.map V.str)) (hz : (ws.map (·.length)).sum + ws.length * sep.length ≤ 16777216) : Ev (tBM K "str" (fun x xs H Q => ∃ a p, ∃ ys : List Str, x = .str a ∧ xs = [.ref p] ∧ (SqL K H p (ys.map V.str) ∨ SqT K H p (ys.map V.str)) ∧
    (ys.map (·.length)).sum + ys.length * a.length ≤ 16777216 ∧ Q (.str (Txt.join a ys)) H) (tC (.str sep)) (tCons te tNil)) σ H (.str (Txt.join sep ws)) := fun H1 e Q q =>
  ⟨rfl, h H1 e _ fun p H2 e2 hx => ⟨sep, p, ws, rfl, rfl, .inl (Evl.sq_of hx), hz, q H2 e2⟩⟩
theorem rv_addS {a b : Str} (h : a.length + b.length ≤ 100000) : Evl.RV (fun x y H Q => ∃ i j, x = .str i ∧ y = .str j ∧ i.length + j.length ≤ sizeLine ∧ Q (.str (i ++ j)) H) (.str a) (.str b) H (.str (a ++ b)) := fun H1 e Q q => ⟨a, b, rfl, rfl, Evl.sz_of h, q H1 (Ex.refl _)⟩
theorem rv_mulT {a : Str} {n : Nat} (h1 : 1 ≤ a.length) (h2 : a.length ≤ 10) (h3 : n ≤ 1000) : Evl.RV rMulT (.str a) (.int (n : Int)) H (.str (repS a n)) := fun H1 e Q q => ⟨a, n, rfl, rfl, h1, h2, h3, q H1 (Ex.refl _)⟩
theorem el_tupL {t : Addr} {xs : List V} (h : Ev te σ H (.ref t)) (ht : H t = some (.tup xs)) : EvL (tCB (rListA K) (tCons te tNil)) σ H xs := fun H1 e Q q =>
  h H1 e _ fun H2 e2 => ⟨t, xs, rfl, .inr (Evl.st_of ((e.trans e2) _ _ ht)), fun l hl => q l _ (Evl.fresh_back e2 hl) (e2.trans (Ex.new hl)) upd_same⟩
theorem ev_dgetS {i k : Nat} {a : Addr} {es : List (Key × V)} {z : Str} {v : V} (h1 : σ[i]? = some (some (.ref a))) (h2 : σ[k]? = some (some (.str z))) (ha : H a = some (.dK es)) (hv : valV es (Sum.inr z : Key) = some v) : Ev (tDGet (tVar i) (tVar k)) σ H v := fun H1 e Q q =>
  ⟨_, h1, _, h2, a, v, rfl, .inl ⟨es, Sum.inr z, .inl (e _ _ ha), rfl, hv.symm⟩, q H1 (Ex.refl _)⟩
theorem el_sortD {q : Addr} {es : List (Key × V)} {ks : List Str} (h : Ev td σ H (.ref q)) (hq : H q = some (.dK es)) (hk : es.map (·.1) = ks.map Sum.inr) (hl : ks.length ≤ 2) : EvL (tCB (rSortedS K) (tCons (tCB rListD (tCons td tNil)) tNil)) σ H ((srt ks).map V.str) := fun H1 e Q k =>
  h H1 e _ fun H2 e2 => ⟨q, es, rfl, (e.trans e2) _ _ hq, fun p hp => ⟨p, ks, rfl, Evl.sq_of (by
    rw [upd_same]
    have : es.map (fun kv => kV kv.1) = (es.map (·.1)).map kV := by rw [List.map_map]; rfl
    rw [this, hk, List.map_map]; rfl), by omega, fun ys p2 perm so hp2 => by
    have e3 := (Ex.new (o := .lst (es.map fun kv => kV kv.1)) hp).trans (Ex.new (o := .lst (ys.map V.str)) hp2)
    rw [srt_eq hl perm so] at e3 ⊢
    exact k p2 _ (Evl.fresh_back (e2.trans (Ex.new hp)) hp2) (e2.trans e3) upd_same⟩⟩
end
theorem sum_le {ws : List Str} {b : Nat} (h : ∀ w ∈ ws, w.length ≤ b) : (ws.map (·.length)).sum ≤ ws.length * b := by
  induction ws with
  | nil => simp
  | cons w ws ih =>
    rw [List.map_cons, List.sum_cons, List.length_cons, Nat.succ_mul]
    have := h w List.mem_cons_self
    have := ih fun x hx => h x (List.mem_cons_of_mem _ hx)
    omega
theorem joinL_len (S : List Nat) : ∀ (ps : List (List Nat)), (joinL S ps).length ≤ (ps.map List.length).sum + ps.length * S.length
  | [] => by simp [joinL]
  | [p] => by show p.length ≤ _; simp
  | p :: q :: r => by
    show (p ++ (S ++ joinL S (q :: r))).length ≤ _
    have := joinL_len S (q :: r)
    rw [List.length_append, List.length_append, List.map_cons, List.sum_cons, List.length_cons, Nat.succ_mul]
    omega
theorem join_len (sep : Str) (ws : List Str) : (Txt.join sep ws).length ≤ (ws.map (·.length)).sum + ws.length * sep.length := by
  rw [join_eq, len_tl, tl_join, len_tl sep]
  have h := joinL_len (tl sep) (ws.map tl)
  rw [List.length_map, List.map_map] at h
  have e : (List.length ∘ tl) = fun (w : Str) => w.length := funext fun w => (len_tl w).symm
  rw [e] at h
  exact h
/-- rows of few short words -/
def okRow (q : Nat × List Str) : Prop := q.1 ≤ 5 ∧ q.2.length ≤ 8 ∧ ∀ w ∈ q.2, w.length ≤ 8
theorem ws_len {q : Nat × List Str} (h : okRow q) : (wsT q.2).length ≤ 72 := by
  have h1 := join_len (" " : Str) q.2
  have h2 := sum_le h.2.2
  have h3 : (" " : Str).length = 1 := by decide +kernel
  unfold wsT
  rw [h3] at h1
  have := h.2.1
  omega
theorem line_len {q : Nat × List Str} (h : okRow q) : (lineW q.1 q.2).length ≤ 82 ∧ (rowT q).length ≤ 83 := by
  have h1 := ws_len h
  have h2 : (lineW q.1 q.2).length ≤ 82 := by
    rw [len_tl, tl_line, List.length_append, List.length_replicate, ← len_tl]
    have := h.1
    omega
  refine ⟨h2, ?_⟩
  rw [len_tl, tl_row, List.length_append, ← len_tl]
  show _ + 1 ≤ 83
  omega
section
variable {P : Program} {w : World} {K : PySem.W.Frag} {mg : Str → Option Value} {base : Heap} {C_Shape C_SHAPES : Addr}
def spLine (K : PySem.W.Frag) : Sp := fun vs H Q _ => ∃ (lv : Nat) (a : Addr) (ws : List Str), vs = [.int (lv : Int), .ref a] ∧ SqL K H a (ws.map V.str) ∧ okRow (lv, ws) ∧ ∀ H', Ex H H' → Q (.str (rowT (lv, ws))) H'
theorem ok_line_of (T : Txt K mg C_Shape C_SHAPES) (R : Prg K mg C_Shape C_SHAPES) : ∃ f fd, Fn P w K mg base "line_of" 1 ["level", "words"] (spLine K) f fd := by
  obtain ⟨f, fd, at_, F, kp⟩ := R.line_of
  refine ⟨f, fd, F.ok sc_line_of (fun vs H Q E h => ?_) (fun cdv A outer s H vs Q E hr h => ?_), at_, kp, F.binds (fun _ _ _ _ _ _ us hl => match us, hl with | [_, _], _ => rfl)⟩
  · obtain ⟨lv, a, ws, rfl, _⟩ := h; rfl
  · obtain ⟨lv, a, ws, rfl, ha, ok, k⟩ := h
    refine ⟨_, (pss_one (ps_ret (pe_op op_add_str (pe_op op_add_str (pe_op (r := rMulT) op_mulT pe_str (pv 0)) (show PE _ _ (tBM K _ _ _ _) from pe_bm PySem.F.plainAttrs_str PySem.F.slot_str_join PySem.F.type_str_join mt_join pe_str (pa_cons (pv 1) pa_nil))) pe_str))), ?_⟩
    have h1 := ws_len ok
    have h2 := line_len ok
    have h3 := sum_le ok.2.2
    have h4 := ok.2.1
    have h5 := ok.1
    have s1 : (" " : Str).length = 1 := by decide +kernel
    refine Evl.s_ret (v := .str (rowT (lv, ws))) (Evl.ev_op (x := .str (lineW lv ws)) (Evl.ev_op (x := .str (repS ("  " : Str) lv)) (y := .str (wsT ws)) (Evl.ev_op Evl.ev_c (Evl.ev_var rfl) (rv_mulT (by decide +kernel) (by decide +kernel) (by show lv ≤ 1000; have : lv ≤ 5 := h5; omega))) ?_ (rv_addS ?_)) Evl.ev_c (rv_addS ?_)) fun H' e => k H' e
    · exact fun H1 e Q q => ⟨rfl, _, rfl, (" " : Str), a, ws, rfl, rfl, .inl (Evl.ex_l e ha), by
        rw [s1]
        have h4 : ws.length ≤ 8 := h4
        have h3 : (ws.map (·.length)).sum ≤ ws.length * 8 := h3
        omega, q H1 (Ex.refl _)⟩
    · have e : (repS ("  " : Str) lv).length = 2 * lv := by rw [len_tl, tl_rep, List.length_replicate]
      rw [e]
      have h1 : (wsT ws).length ≤ 72 := h1
      have h5 : lv ≤ 5 := h5
      omega
    · have h2 : (lineW lv ws).length ≤ 82 := h2.1
      have e : ("\n" : Str).length = 1 := by decide +kernel
      rw [e]; omega
end
end Pk

namespace Pk
open PySem PySem.Spec PyProof.Rows L2 Ssb
open Evl (Ex Ev EvT EvL EvA EvU)
open TL (tl ext_tl tl_append tl_join joinL join_eq split_join len_tl)
/-! ### kids -/
theorem kids_app {s t : Sh} {par : Option Str} : kids (s ++ t) par = kids s par ++ kids t par := by
  unfold kids rowsS
  rw [List.flatMap_append, List.filter_append, List.map_append]
theorem kids_one (p : Str × Fl × List (Str × Fl)) (par : Option Str) : kids [p] par = (if par = none then [p.1] else []) ++ (if par = some p.1 then p.2.2.map (·.1) else []) := by
  unfold kids rowsS
  rw [List.flatMap_cons, List.flatMap_nil, List.append_nil]
  unfold rowsOf
  have e2 : ((p.2.2.map fun q => ((q.1, some p.1, q.2) : Ro)).filter fun r => decide (r.2.1 = par)).map (·.1) = if par = some p.1 then p.2.2.map (·.1) else [] := by
    by_cases c : par = some p.1
    · rw [if_pos c, List.filter_eq_self.mpr (fun r hr => by
        obtain ⟨q, _, rfl⟩ := List.mem_map.mp hr
        exact decide_eq_true c.symm), List.map_map]; rfl
    · rw [if_neg c, List.filter_eq_nil_iff.mpr (fun r hr => by
        obtain ⟨q, _, rfl⟩ := List.mem_map.mp hr
        simpa using fun z => c z.symm)]; rfl
  by_cases c : par = none
  · subst c
    rw [List.filter_cons_of_pos (by rfl), List.map_cons, e2]; rfl
  · rw [List.filter_cons_of_neg (by simpa using fun z => c z.symm), e2, if_neg c]; rfl
theorem kids_none : ∀ (s : Sh), kids s none = s.map (·.1)
  | [] => rfl
  | p :: s => by
    have : p :: s = [p] ++ s := rfl
    rw [this, kids_app, kids_one, kids_none s, if_pos rfl, if_neg (fun e => nomatch e)]
    simp
theorem kids_no {nm : Str} : ∀ {s : Sh}, nm ∉ s.map (·.1) → kids s (some nm) = []
  | [], _ => rfl
  | p :: s, h => by
    have e : p :: s = [p] ++ s := rfl
    rw [e, kids_app, kids_one, kids_no (s := s) (fun z => h (List.mem_cons_of_mem _ z)), if_neg (fun e => nomatch e), if_neg (fun e => h (by rw [Option.some.inj e]; exact List.mem_cons_self))]; rfl
theorem kids_of {p : Str × Fl × List (Str × Fl)} : ∀ {s : Sh}, (s.map (·.1)).Nodup → p ∈ s → kids s (some p.1) = p.2.2.map (·.1)
  | [], _, h => nomatch h
  | q :: s, nd, h => by
    rw [List.map_cons, List.nodup_cons] at nd
    have e : q :: s = [q] ++ s := rfl
    rw [e, kids_app, kids_one, if_neg (fun e => nomatch e)]
    rcases List.mem_cons.mp h with rfl | h
    · rw [if_pos rfl, kids_no nd.1]; simp
    · rw [if_neg (fun e => nd.1 (by rw [← Option.some.inj e]; exact List.mem_map.mpr ⟨p, h, rfl⟩)), kids_of nd.2 h]; rfl
/-- an inner list's name is no outer list's -/
theorem inner_not {s : Sh} (h : ((rowsS s).map (·.1)).Nodup) {p : Str × Fl × List (Str × Fl)} {q : Str × Fl} (hp : p ∈ s) (hq : q ∈ p.2.2) : q.1 ∉ s.map (·.1) := fun hm => by
  obtain ⟨p2, hp2, e⟩ := List.mem_map.mp hm
  have r1 := row_in hp hq
  have r2 := row_out hp2
  rw [e] at r2
  have := one_val h r1 r2
  cases this
section
variable {K : PySem.W.Frag} {σ : L2.St} {H : Hp} {te ta tl_ : TE} {vs : List Nat} {j : Nat}
/-- over a tuple of words -/
theorem el_lcWT {a : Addr} {ws : List Str} {f : Str → V} (h : Ev tl_ σ H (.ref a)) (ha : H a = some (.tup (ws.map V.str))) (hz : ws.length ≤ 1000) (hw : ∀ x, wipe ((wipe σ vs).set j (some x)) vs = wipe σ vs) (he : ∀ x ∈ ws, ∀ H2, Ex H H2 → Ev te ((wipe σ vs).set j (some (.str x))) H2 (f x)) : EvL (tLc (iTup K tl_) (gName j) tYes te vs) σ H (ws.map f) := fun H1 e Q q =>
  h H1 e _ fun H2 e2 => ⟨a, rfl, ⟨_, Evl.st_of ((e.trans e2) _ _ ha)⟩, fun Dl hD => el_walk (f := fun i => f (ws.getD i Str.empty)) walk_tup (by rw [List.length_map]; omega) (fun H3 e3 => Evl.st_of ((e.trans (e2.trans e3)) _ _ ha)) hw (fun i x h3 H3 e3 => by
    rw [List.getElem?_map] at h3
    cases hi : ws[i]? with
    | none => rw [hi] at h3; cases h3
    | some w =>
      rw [hi] at h3
      cases h3
      have : ws.getD i Str.empty = w := by rw [List.getD_eq_getElem?_getD, hi]; rfl
      show Ev te _ H3 (f (ws.getD i Str.empty))
      rw [this]
      exact he w (List.mem_of_getElem? hi) H3 (e.trans (e2.trans e3))) (fun p H3 hp e3 hl => q p H3 (Evl.fresh_back e2 hp) (e2.trans e3) (by rw [rmap] at hl; exact hl)) Dl hD⟩
theorem ev_line {lv : Nat} {ws : List Str} (h1 : Ev ta σ H (.int (lv : Int))) (h2 : EvB te σ H (ws.map V.str)) (ok : okRow (lv, ws)) : Ev (tCall (spLine K) [] E0 (tCons ta (tCons te tNil))) σ H (.str (rowT (lv, ws))) := fun H1 e Q q =>
  h1 H1 e _ fun H2 e2 => h2 H2 (e.trans e2) _ fun a H3 e3 hx => ⟨lv, a, ws, rfl, Evl.sq_of hx, ok, fun H4 e4 => q H4 ((e2.trans e3).trans e4)⟩
end
theorem fl_word : ("flag" : Str).length = 4 ∧ ("list" : Str).length = 4 ∧ ("field" : Str).length = 5 := by decide +kernel
theorem okRow_list {lv : Nat} {k : Str} (h : lv ≤ 5) (hk : isW k) : okRow (lv, [("list" : Str), k]) := ⟨h, by show 2 ≤ 8; decide, fun w hw => by
  rcases List.mem_cons.mp hw with rfl | hw
  · rw [fl_word.2.1]; decide
  · rw [List.mem_singleton.mp hw]; exact hk.2.1⟩
theorem okRow_flag {k : Str} (hk : isW k) : okRow (0, [("flag" : Str), k]) := ⟨Nat.zero_le _, by show 2 ≤ 8; decide, fun w hw => by
  rcases List.mem_cons.mp hw with rfl | hw
  · rw [fl_word.1]; decide
  · rw [List.mem_singleton.mp hw]; exact hk.2.1⟩
theorem okRow_field {lv : Nat} {p : Str × List Str} (h : lv ≤ 5) (hk : isW p.1) (h3 : p.2.length ≤ 3) (hw : ∀ x ∈ p.2, isW x) : okRow (lv, ("field" : Str) :: p.1 :: p.2) := ⟨h, by show p.2.length + 1 + 1 ≤ 8; omega, fun w hm => by
  rcases List.mem_cons.mp hm with rfl | hm
  · rw [fl_word.2.2]; decide
  · rcases List.mem_cons.mp hm with rfl | hm
    · exact hk.2.1
    · exact (hw w hm).2.1⟩
/-- an entry of a dict of fields -/
theorem fl_at {H : Hp} {n : Nat} {S : Addr → Prop} {f : Fl} {q : Addr} (h : Rep H n S (flD f) (.ref q)) : ∃ es, H q = some (.dK es) ∧ es.map (·.1) = (f.map (·.1)).map Sum.inr ∧ ∀ k ws, (k, ws) ∈ f → (f.map (·.1)).Nodup → ∃ t, valV es (Sum.inr k : Key) = some (.ref t) ∧ H t = some (.tup (ws.map V.str)) := by
  cases n with
  | zero => exact h.elim
  | succ n =>
  obtain ⟨a, es, e, _, ha, _, pr⟩ := h
  cases e
  refine ⟨es, ha, ?_, fun k ws hm nd => ?_⟩
  · have e : (f.map fun p => (p.1, D.tup (p.2.map D.str))).map (·.1) = f.map (·.1) := by rw [List.map_map]; rfl
    rw [pair_keys pr, e]
  · have hl : (f.map fun p => (p.1, D.tup (p.2.map D.str))).lookup k = some (.tup (ws.map .str)) := lk_of_mem (by rw [List.map_map]; exact nd) (List.mem_map.mpr ⟨_, hm, rfl⟩)
    obtain ⟨v, hv, rv⟩ := rep_entry pr hl
    obtain ⟨t, rfl, ht⟩ := rep_words rv
    exact ⟨t, hv, ht⟩
theorem cat_len (rs : List Str) : (catT rs).length ≤ (rs.map (·.length)).sum := by
  have := join_len ("" : Str) rs
  have e : ("" : Str).length = 0 := by decide +kernel
  rw [e, Nat.mul_zero, Nat.add_zero] at this
  exact this
theorem srt_nil : srt [] = [] := by
  have := srt_len (l := [])
  exact List.length_eq_zero_iff.mp this
section
variable {P : Program} {w : World} {K : PySem.W.Frag} {mg : Str → Option Value} {base : Heap} {C_Shape C_SHAPES : Addr}
/-- what a list of a shape is written as -/
noncomputable def ltT (lv : Nat) (k : Str) (f : Fl) (i : List (Str × Fl)) : Str := catT ([rowT (lv, [("list" : Str), k])] ++ (fLn (lv + 1) (canF f)).map rowT ++ (canI i).map (iT (lv + 1)))
theorem ltT_nil {lv : Nat} {k : Str} {f : Fl} : ltT lv k f [] = iT lv (k, canF f) := by
  unfold ltT
  have e : canI [] = [] := by unfold canI; rw [show ([] : List (Str × Fl)).map (·.1) = [] from rfl, srt_nil]; rfl
  rw [e]
  exact iT_eq lv (k, canF f)
theorem rows_f {lv : Nat} {f : Fl} (h : lv ≤ 5) (hf : okFl f) : ∀ q ∈ fLn lv f, okRow q := fun q hq => by
  obtain ⟨p, hp, rfl⟩ := List.mem_map.mp hq
  obtain ⟨w1, _, w3, ww, _⟩ := hf.2.2 p hp
  exact okRow_field h w1 w3 ww
theorem rows_i {lv : Nat} {q : Str × Fl} (h : lv ≤ 4) (hk : isW q.1) (hf : okFl q.2) : ∀ x ∈ iLn lv q, okRow x := fun x hx => by
  rcases List.mem_cons.mp hx with rfl | hx
  · exact okRow_list (by omega) hk
  · exact rows_f (by omega) hf x hx
theorem rowTs_len {rs : List (Nat × List Str)} (h : ∀ q ∈ rs, okRow q) : (catT (rs.map rowT)).length ≤ rs.length * 83 := by
  have h1 := cat_len (rs.map rowT)
  have h2 := sum_le (ws := rs.map rowT) (b := 83) fun w hw => by
    obtain ⟨q, hq, rfl⟩ := List.mem_map.mp hw
    exact (line_len (h q hq)).2
  rw [List.length_map] at h2
  omega
theorem iT_len {lv : Nat} {q : Str × Fl} (h : lv ≤ 4) (hk : isW q.1) (hf : okFl q.2) : (iT lv q).length ≤ 249 := by
  have := rowTs_len (rows_i h hk hf)
  have e : (iLn lv q).length ≤ 3 := by
    unfold iLn fLn
    rw [List.length_cons, List.length_map]
    have := hf.1; omega
  unfold iT
  omega
def spLT (C : Addr) : Nat → Sp
  | 0 => fun _ _ _ _ => False
  | n + 1 => fun vs H Q _ => ∃ (p : Addr) (fl : List Str) (s : Sh) (S : Addr → Prop) (r : Ro) (lv : Nat) (i : List (Str × Fl)), vs = [.ref p, .str r.1, .int (lv : Int)] ∧ ShapeAt C H p fl s S ∧ okSh s ∧ r ∈ rowsS s ∧ kids s (some r.1) = i.map (·.1) ∧ (n = 0 → i = []) ∧ i.length ≤ 1 ∧
    (∀ q ∈ i, ((q.1, some r.1, q.2) : Ro) ∈ rowsS s ∧ kids s (some q.1) = []) ∧ lv + n ≤ 3 ∧ ∀ H', Ex H H' → Q (.str (ltT lv r.1 r.2.2 i)) H'
theorem ok_list_textF (T : Txt K mg C_Shape C_SHAPES) (R : Prg K mg C_Shape C_SHAPES) {f : Addr} {fd : FuncData} (at_ : mg "list_text" = some (.ref f)) (F : Fun K "list_text" "list_text" s_list_text f fd) (kp : PySem.W.keepIn K (.ref f) = true) : ∀ n, Fn P w K mg base "list_text" (n + 4) ["shape", "name", "level"] (spLT C_Shape n) f fd
  | 0 => ⟨F.ok sc_list_text (fun vs H Q E h => h.elim) (fun cdv A outer s H vs Q E hr h => h.elim), at_, kp, F.binds (fun _ _ _ _ _ _ us hl => match us, hl with | [_, _, _], _ => rfl)⟩
  | n + 1 => by
    have G_list_text := ok_list_textF T R at_ F kp n
    obtain ⟨_, _, G_line_of⟩ := ok_line_of (P := P) (w := w) (base := base) T R
    obtain ⟨_, _, G_Shape_fields⟩ := ok_Shape_fields (P := P) (w := w) (base := base) T R
    obtain ⟨_, _, G_Shape_inner⟩ := ok_Shape_inner (P := P) (w := w) (base := base) T R
    refine ⟨F.ok sc_list_text (fun vs H Q E h => ?_) (fun cdv A outer s H vs Q E hr h => ?_), at_, kp, F.binds (fun _ _ _ _ _ _ us hl => match us, hl with | [_, _, _], _ => rfl)⟩
    · obtain ⟨p, fl, s, S, r, lv, i, rfl, _⟩ := h; rfl
    · obtain ⟨p, fl, z, S, r, lv, i, rfl, hS, hz, hr1, hk, h0, li, hi, llv, k⟩ := h
      obtain ⟨dx, ft, tb, hp, hft, htb⟩ := id hS
      obtain ⟨_, okr⟩ := okSh_rows hz
      obtain ⟨wr, f2, fnd, fw⟩ := okr r hr1
      refine ⟨_, (pss_cons (ps_set (i := 3) sc_list_text.nd rfl (Or.inr rfl) (pmt (pv 0) T.cl_Shape G_Shape_fields hr (pa_cons (pv 1) pa_nil)))
  (pss_cons (ps_setLc (i := 4) (own := [("field", 6)]) rfl sc_list_text.nd rfl rfl (sw_true rfl rfl rfl (by decide +kernel)) (show PI _ _ _ (iList K _) from pi_list (pe_callB (r := rSortedS K) cr_sortedS (by rfl) T.sorted (by decide +kernel) (pa_cons (pe_callTy (r := rListD) (call_list_dK rfl) (by rfl) T.list (by decide +kernel) (pa_cons (pv 3) pa_nil)) pa_nil))) (blkOk_by (own := [("field", 6)]) (N := ["shape", "name", "level", "fields", "lines", "inner", "field", "one"]) (sc := defScope s_list_text) (by decide +kernel)) (fun _ _ _ _ _ => (pg_name (i := 6) sc_list_text.nd rfl (Or.inl rfl))) (fun _ _ _ _ _ => pts_nil) (fun _ _ _ _ _ => (pcl G_line_of hr (pa_cons (pe_op op_add (pv 2) pe_int) (pa_cons (pe_op op_cat (pe_lst (pa_cons pe_str (pa_cons (pv 6) pa_nil))) (pe_callTy (r := rListA K) call_list_of (by rfl) T.list (by decide +kernel) (pa_cons (pe_dget (hu_of hr) (pv 3) (pv 6) (fun _ _ => rfl)) pa_nil))) pa_nil)))))
  (pss_cons (ps_setLc (i := 5) (own := [("one", 7)]) rfl sc_list_text.nd rfl rfl (sw_true rfl rfl rfl (by decide +kernel)) (show PI _ _ _ (iList K _) from pi_list (pmt (pv 0) T.cl_Shape G_Shape_inner hr (pa_cons (pv 1) pa_nil))) (blkOk_by (own := [("one", 7)]) (N := ["shape", "name", "level", "fields", "lines", "inner", "field", "one"]) (sc := defScope s_list_text) (by decide +kernel)) (fun _ _ _ _ _ => (pg_name (i := 7) sc_list_text.nd rfl (Or.inl rfl))) (fun _ _ _ _ _ => pts_nil) (fun _ _ _ _ _ => (pcl G_list_text hr (pa_cons (pv 0) (pa_cons (pv 7) (pa_cons (pe_op op_add (pv 2) pe_int) pa_nil))))))
  (pss_one (ps_ret (show PE _ _ (tBM K _ _ _ _) from pe_bm PySem.F.plainAttrs_str PySem.F.slot_str_join PySem.F.type_str_join mt_join pe_str (pa_cons (pe_op op_cat (pe_op op_cat (pe_lst (pa_cons (pcl G_line_of hr (pa_cons (pv 2) (pa_cons (pe_lst (pa_cons pe_str (pa_cons (pv 1) pa_nil))) pa_nil))) pa_nil)) (pv 4)) (pv 5)) pa_nil))))))), ?_⟩
      refine q_go ⟨_, rfl, p, dx, _, rfl, hp, shF_no _ _ (by decide +kernel) (by decide +kernel), _, rfl, p, fl, z, S, r, rfl, hS, hz, hr1, fun H1 q e1 rq => ?_⟩
      obtain ⟨es, hes, ekeys, ent⟩ := fl_at rq
      refine Evl.q_asgL (el_lcW (f := fun k => V.str (rowT (lv + 1, ("field" : Str) :: k :: (r.2.2.lookup k).getD []))) (eb_L (el_sortD (Evl.ev_var rfl) hes ekeys (by rw [List.length_map]; exact f2))) (by rw [srt_len, List.length_map]; omega) (fun _ => rfl) fun x hx H2 e2 => ?_) fun ql H2 hl0 e2 hl => ?_
      · obtain ⟨ws, hm⟩ := key_mem (srt_mem.mp hx)
        rw [lk_of_mem fnd hm]
        obtain ⟨_, w2, w3, ww, _⟩ := fw _ hm
        obtain ⟨t, ht, htw⟩ := ent x ws hm fnd
        refine ev_line (lv := lv + 1) (ws := ("field" : Str) :: x :: ws) (Evl.ev_is (Evl.ev_op (Evl.ev_var rfl) Evl.ev_c Evl.rv_I0) rfl) (eb_L (el_cat (xs := [.str "field", .str x]) (ys := ws.map V.str) (eb_L (Evl.el_lst (Evl.ea_cons Evl.ev_c (Evl.ea_cons (Evl.ev_var rfl) Evl.ea_nil)) (by show 2 ≤ 100000; decide))) (eb_L (el_tupL (ev_dgetS rfl rfl (e2 _ _ hes) ht) (e2 _ _ htw))) (by rw [List.length_map]; show 2 + _ ≤ _; have : ws.length ≤ 3 := w3; omega))) (okRow_field (p := (x, ws)) (by omega) (fw _ hm).1 w3 ww)
      · have e02 := e1.trans e2
        have inn : EvB (tMeth C_Shape "inner" (spInner C_Shape) [] E0 (tVar 0) (tCons (tVar 1) tNil)) [some (.ref p), some (.str r.1), some (.int (lv : Int)), some (.ref q), some (.ref ql), none, none, none] H2 ((srt (i.map (·.1))).map V.str) := fun H3 e3 Q' q' => by
          refine ⟨_, rfl, p, dx, _, rfl, (e02.trans e3) _ _ hp, shF_no _ _ (by decide +kernel) (by decide +kernel), _, rfl, p, fl, z, S, r.1, rfl, hS.ex (e02.trans e3), hz, List.mem_map.mpr ⟨r, hr1, rfl⟩, fun H4 q4 ys e4 _ h4 perm so => ?_⟩
          rw [hk] at perm
          rw [srt_eq (by rw [List.length_map]; omega) perm so] at h4
          exact q' q4 H4 e4 h4
        refine Evl.q_asgL (el_lcW (f := fun k => V.str (iT (lv + 1) (k, canF ((i.lookup k).getD [])))) inn (by rw [srt_len, List.length_map]; omega) (fun _ => rfl) fun x hx H3 e3 => ?_) fun qi H3 hi0 e3 hi3 => ?_
        · obtain ⟨g, hm⟩ := key_mem (srt_mem.mp hx)
          rw [lk_of_mem (nd_one li) hm]
          obtain ⟨hr2, hk2⟩ := hi _ hm
          cases n with
          | zero => rw [h0 rfl] at hm; cases hm
          | succ n =>
            intro H4 e4 Q' q'
            refine ⟨_, rfl, _, rfl, _, rfl, _, _, rfl, rfl, p, fl, z, S, (x, some r.1, g), lv + 1, [], rfl, hS.ex ((e02.trans e3).trans e4), hz, hr2, hk2, fun _ => rfl, by decide, (fun q hq => nomatch hq), by omega, fun H5 e5 => ?_⟩
            rw [ltT_nil]
            exact q' H5 e5
        · have e03 := e02.trans e3
          have ok2 := canF_ok (okr r hr1).2
          have q1 : (srt (r.2.2.map (·.1))).map (fun k => V.str (rowT (lv + 1, ("field" : Str) :: k :: (r.2.2.lookup k).getD []))) = ((fLn (lv + 1) (canF r.2.2)).map rowT).map V.str := by
            unfold fLn canF
            rw [List.map_map, List.map_map, List.map_map]; rfl
          have q2 : (srt (i.map (·.1))).map (fun k => V.str (iT (lv + 1) (k, canF ((i.lookup k).getD [])))) = ((canI i).map (iT (lv + 1))).map V.str := by
            unfold canI
            rw [List.map_map, List.map_map]; rfl
          rw [q1] at hl
          rw [q2] at hi3
          have lF : ((fLn (lv + 1) (canF r.2.2)).map rowT).length ≤ 2 := by
            rw [List.length_map]; unfold fLn; rw [List.length_map]; exact ok2.1
          have lI : ((canI i).map (iT (lv + 1))).length ≤ 1 := by
            rw [List.length_map]; unfold canI; rw [List.length_map, srt_len, List.length_map]; exact li
          have lF' : (((fLn (lv + 1) (canF r.2.2)).map rowT).map V.str).length ≤ 2 := by rw [List.length_map]; exact lF
          have lI' : (((canI i).map (iT (lv + 1))).map V.str).length ≤ 1 := by rw [List.length_map]; exact lI
          refine Evl.s_ret (v := .str (ltT lv r.1 r.2.2 i)) (ev_join (sep := ("" : Str)) (ws := [rowT (lv, [("list" : Str), r.1])] ++ (fLn (lv + 1) (canF r.2.2)).map rowT ++ (canI i).map (iT (lv + 1))) ?_ ?_) fun H' e => k H' (e03.trans e)
          · rw [List.map_append, List.map_append]
            exact eb_L (el_cat (eb_L (el_cat (eb_L (Evl.el_lst (vs := [.str (rowT (lv, [("list" : Str), r.1]))]) (Evl.ea_cons (ev_line (lv := lv) (ws := [("list" : Str), r.1]) (Evl.ev_var rfl) (eb_L (Evl.el_lst (Evl.ea_cons Evl.ev_c (Evl.ea_cons (Evl.ev_var rfl) Evl.ea_nil)) (by show 2 ≤ 100000; decide))) (okRow_list (by omega) wr)) Evl.ea_nil) (by show 1 ≤ 100000; decide))) (eb_var rfl (e3 _ _ hl)) (by show 1 + _ ≤ _; omega))) (eb_var rfl hi3) (by rw [List.length_append]; show 1 + _ + _ ≤ _; omega))
          · have h1 := sum_le (ws := [rowT (lv, [("list" : Str), r.1])] ++ (fLn (lv + 1) (canF r.2.2)).map rowT ++ (canI i).map (iT (lv + 1))) (b := 249) fun w hw => by
              rcases List.mem_append.mp hw with hw | hw
              · rcases List.mem_append.mp hw with hw | hw
                · rw [List.mem_singleton.mp hw]
                  have := (line_len (okRow_list (lv := lv) (k := r.1) (by omega) wr)).2
                  omega
                · obtain ⟨x, hx, rfl⟩ := List.mem_map.mp hw
                  have := (line_len (rows_f (lv := lv + 1) (by omega) ok2 x hx)).2
                  omega
              · obtain ⟨x, hx, rfl⟩ := List.mem_map.mp hw
                unfold canI at hx
                obtain ⟨kk, hkk, rfl⟩ := List.mem_map.mp hx
                obtain ⟨g, hm⟩ := key_mem (srt_mem.mp hkk)
                have okg := okr _ (hi _ hm).1
                refine iT_len (by omega) okg.1 ?_
                show okFl (canF ((i.lookup kk).getD []))
                rw [lk_of_mem (nd_one li) hm]
                exact canF_ok okg.2
            have e0 : ("" : Str).length = 0 := by decide +kernel
            rw [e0, Nat.mul_zero, Nat.add_zero]
            refine Nat.le_trans h1 ?_
            rw [List.length_append, List.length_append]
            have : ([rowT (lv, [("list" : Str), r.1])] : List Str).length = 1 := rfl
            omega
end
end Pk

namespace Pk
open PySem PySem.Spec PyProof.Rows L2 Ssb
open Evl (Ex Ev EvT EvL EvA EvU)
open TL (tl ext_tl tl_append tl_join joinL join_eq split_join len_tl)
theorem ltT_o {k : Str} {f : Fl} {i : List (Str × Fl)} : ltT 0 k f i = oT (k, canF f, canI i) := oT_eq (k, canF f, canI i)
theorem canI_ok {i : List (Str × Fl)} (h1 : i.length ≤ 1) (h : ∀ q ∈ i, isW q.1 ∧ okFl q.2) : (canI i).length ≤ 1 ∧ ∀ q ∈ canI i, isW q.1 ∧ okFl q.2 := by
  refine ⟨by unfold canI; rw [List.length_map, srt_len, List.length_map]; exact h1, fun q hq => ?_⟩
  unfold canI at hq
  obtain ⟨k, hk, rfl⟩ := List.mem_map.mp hq
  obtain ⟨g, hm⟩ := key_mem (srt_mem.mp hk)
  have := h _ hm
  refine ⟨this.1, ?_⟩
  show okFl (canF ((i.lookup k).getD []))
  rw [lk_of_mem (nd_one h1) hm]
  exact canF_ok this.2
theorem rows_o {p : Str × Fl × List (Str × Fl)} (hk : isW p.1) (hf : okFl p.2.1) (hi : ∀ q ∈ p.2.2, isW q.1 ∧ okFl q.2) : ∀ x ∈ oLn p, okRow x := fun x hx => by
  rcases List.mem_cons.mp hx with rfl | hx
  · exact okRow_list (by decide) hk
  · rcases List.mem_append.mp hx with hx | hx
    · exact rows_f (by decide) hf x hx
    · obtain ⟨q, hq, hx⟩ := List.mem_flatMap.mp hx
      exact rows_i (by decide) (hi q hq).1 (hi q hq).2 x hx
theorem oLn_len {p : Str × Fl × List (Str × Fl)} (hf : okFl p.2.1) (h1 : p.2.2.length ≤ 1) (hi : ∀ q ∈ p.2.2, okFl q.2) : (oLn p).length ≤ 6 := by
  obtain ⟨k, f, i⟩ := p
  unfold oLn fLn
  rw [List.length_cons, List.length_append, List.length_map]
  have hf1 : f.length ≤ 2 := hf.1
  match i, h1 with
  | [], _ => show f.length + 0 + 1 ≤ 6; omega
  | [q], _ =>
    have hq : q.2.length ≤ 2 := (hi q List.mem_cons_self).1
    rw [List.flatMap_cons, List.flatMap_nil, List.append_nil]
    unfold iLn fLn
    rw [List.length_cons, List.length_map]
    show f.length + (q.2.length + 1) + 1 ≤ 6
    omega
theorem oT_len {p : Str × Fl × List (Str × Fl)} (hk : isW p.1) (hf : okFl p.2.1) (h1 : p.2.2.length ≤ 1) (hi : ∀ q ∈ p.2.2, isW q.1 ∧ okFl q.2) : (oT p).length ≤ 498 := by
  have := rowTs_len (rows_o hk hf hi)
  have := oLn_len hf h1 fun q hq => (hi q hq).2
  unfold oT
  omega
theorem canS_mem {s : Sh} (h : okSh s) : (canS s).length ≤ 2 ∧ ∀ p ∈ canS s, isW p.1 ∧ okFl p.2.1 ∧ p.2.2.length ≤ 1 ∧ ∀ q ∈ p.2.2, isW q.1 ∧ okFl q.2 := by
  refine ⟨by unfold canS; rw [List.length_map, srt_len, List.length_map]; exact h.1, fun p hp => ?_⟩
  unfold canS at hp
  obtain ⟨k, hk, rfl⟩ := List.mem_map.mp hp
  obtain ⟨g, hm⟩ := key_mem (srt_mem.mp hk)
  obtain ⟨w1, w2, w3, w4⟩ := h.2.2 _ hm
  obtain ⟨c1, c2⟩ := canI_ok w3 w4
  show isW k ∧ okFl (canF ((s.lookup k).getD ([], [])).1) ∧ (canI ((s.lookup k).getD ([], [])).2).length ≤ 1 ∧ ∀ q ∈ canI ((s.lookup k).getD ([], [])).2, isW q.1 ∧ okFl q.2
  rw [lk_of_mem (sh_nd h.2.1) hm]
  exact ⟨w1, canF_ok w2, c1, c2⟩
section
variable {P : Program} {w : World} {K : PySem.W.Frag} {mg : Str → Option Value} {base : Heap} {C_Shape C_SHAPES : Addr}
def spWrite (C : Addr) : Sp := fun vs H Q _ => ∃ (p : Addr) (fl : List Str) (s : Sh) (S : Addr → Prop), vs = [.ref p] ∧ ShapeAt C H p fl s S ∧ okSh s ∧ fl.length ≤ 2 ∧ (∀ x ∈ fl, isW x) ∧ ∀ H', Ex H H' → Q (.str (shT fl (canS s))) H'
theorem ok_write_shape (T : Txt K mg C_Shape C_SHAPES) (R : Prg K mg C_Shape C_SHAPES) : ∃ f fd, Fn P w K mg base "write_shape" 7 ["shape"] (spWrite C_Shape) f fd := by
  obtain ⟨fl_, fld, fat, fF, fkp⟩ := R.list_text
  have G_list_text := ok_list_textF (P := P) (w := w) (base := base) T R fat fF fkp 2
  obtain ⟨_, _, G_line_of⟩ := ok_line_of (P := P) (w := w) (base := base) T R
  obtain ⟨_, _, G_Shape_outer⟩ := ok_Shape_outer (P := P) (w := w) (base := base) T R
  obtain ⟨f, fd, at_, F, kp⟩ := R.write_shape
  refine ⟨f, fd, F.ok sc_write_shape (fun vs H Q E h => ?_) (fun cdv A outer s H vs Q E hr h => ?_), at_, kp, F.binds (fun _ _ _ _ _ _ us hl => match us, hl with | [_], _ => rfl)⟩
  · obtain ⟨p, fl, s, S, rfl, _⟩ := h; rfl
  · obtain ⟨p, fl, z, S, rfl, hS, hz, l2, wf, k⟩ := h
    obtain ⟨dx, ft, tb, hp, hft, htb⟩ := id hS
    refine ⟨_, (pss_cons (ps_setLc (i := 1) (own := [("flag", 2)]) rfl sc_write_shape.nd rfl rfl (sw_true rfl rfl rfl (by decide +kernel)) (show PI _ _ _ (iTup K _) from pi_tup (show PE _ _ (tFld K _ _) from pe_fld (pv 0) rfl)) (blkOk_by (own := [("flag", 2)]) (N := ["shape", "flags", "flag", "name"]) (sc := defScope s_write_shape) (by decide +kernel)) (fun _ _ _ _ _ => (pg_name (i := 2) sc_write_shape.nd rfl (Or.inl rfl))) (fun _ _ _ _ _ => pts_nil) (fun _ _ _ _ _ => (pcl G_line_of hr (pa_cons pe_int (pa_cons (pe_lst (pa_cons pe_str (pa_cons (pv 2) pa_nil))) pa_nil)))))
  (pss_one (ps_ret (show PE _ _ (tBM K _ _ _ _) from pe_bm PySem.F.plainAttrs_str PySem.F.slot_str_join PySem.F.type_str_join mt_join pe_str (pa_cons (pe_op op_cat (pv 1) (pe_lc (own := [("name", 3)]) rfl sc_write_shape.nd (show PI _ _ _ (iList K _) from pi_list (pmt0 (pv 0) T.cl_Shape G_Shape_outer hr)) (blkOk_by (own := [("name", 3)]) (N := ["shape", "flags", "flag", "name"]) (sc := defScope s_write_shape) (by decide +kernel)) (fun _ _ _ _ _ => (pg_name (i := 3) sc_write_shape.nd rfl (Or.inl rfl))) (fun _ _ _ _ _ => pts_nil) (fun _ _ _ _ _ => (pcl G_list_text hr (pa_cons (pv 0) (pa_cons (pv 3) (pa_cons pe_int pa_nil))))))) pa_nil))))), ?_⟩
    refine Evl.q_asgL (el_lcWT (f := fun x => V.str (rowT (0, [("flag" : Str), x]))) (ev_fld (Evl.ev_var rfl) hp T.cl_Shape T.no_Shape_flags (shF_flags _ _)) hft (by omega) (fun _ => rfl) fun x hx H2 e2 => ?_) fun q H1 hq0 e1 hq => ?_
    · exact ev_line (lv := 0) (ws := [("flag" : Str), x]) Evl.ev_c (eb_L (Evl.el_lst (Evl.ea_cons Evl.ev_c (Evl.ea_cons (Evl.ev_var rfl) Evl.ea_nil)) (by show 2 ≤ 100000; decide))) (okRow_flag (wf x hx))
    · have q1 : fl.map (fun x => V.str (rowT (0, [("flag" : Str), x]))) = (fl.map fun x => rowT (0, [("flag" : Str), x])).map V.str := by rw [List.map_map]; rfl
      rw [q1] at hq
      have nd := sh_nd hz.2.1
      have inn : EvB (tMeth C_Shape "outer" (spOuter C_Shape) [] E0 (tVar 0) tNil) [some (.ref p), some (.ref q), none, none] H1 ((srt (z.map (·.1))).map V.str) := fun H3 e3 Q' q' => by
        refine ⟨_, rfl, p, dx, _, rfl, (e1.trans e3) _ _ hp, shF_no _ _ (by decide +kernel) (by decide +kernel), p, fl, z, S, rfl, hS.ex (e1.trans e3), hz, fun H4 q4 ys e4 _ h4 perm so => ?_⟩
        rw [kids_none] at perm
        rw [srt_eq (by rw [List.length_map]; exact hz.1) perm so] at h4
        exact q' q4 H4 e4 h4
      have lst := el_lcW (K := K) (te := tCall (spLT C_Shape 2) [] E0 (tCons (tVar 0) (tCons (tVar 3) (tCons (tC (.int 0)) tNil)))) (j := 3) (vs := [3]) (f := fun k => V.str (oT (k, canF ((z.lookup k).getD ([], [])).1, canI ((z.lookup k).getD ([], [])).2))) inn (by rw [srt_len, List.length_map]; have := hz.1; omega) (fun _ => rfl) fun x hx H3 e3 => by
        obtain ⟨g, hm⟩ := key_mem (srt_mem.mp hx)
        rw [lk_of_mem nd hm]
        obtain ⟨w1, w2, w3, w4⟩ := hz.2.2 _ hm
        intro H4 e4 Q' q'
        refine ⟨_, rfl, _, rfl, p, fl, z, S, (x, none, g.1), 0, g.2, rfl, hS.ex ((e1.trans e3).trans e4), hz, row_out hm, kids_of nd hm, (fun h => nomatch h), w3, fun q' hq' => ⟨row_in hm hq', kids_no (inner_not hz.2.1 hm hq')⟩, by decide, fun H5 e5 => ?_⟩
        rw [ltT_o]
        exact q' H5 e5
      have q2 : (srt (z.map (·.1))).map (fun k => V.str (oT (k, canF ((z.lookup k).getD ([], [])).1, canI ((z.lookup k).getD ([], [])).2))) = ((canS z).map oT).map V.str := by
        unfold canS
        rw [List.map_map, List.map_map]; rfl
      rw [q2] at lst
      obtain ⟨c1, c2⟩ := canS_mem hz
      have lF : ((fl.map fun x => rowT (0, [("flag" : Str), x])).map V.str).length ≤ 2 := by rw [List.length_map, List.length_map]; exact l2
      have lI : (((canS z).map oT).map V.str).length ≤ 2 := by rw [List.length_map, List.length_map]; exact c1
      refine Evl.s_ret (v := .str (shT fl (canS z))) (Evl.ev_is (ev_join (sep := ("" : Str)) (ws := (fl.map fun x => rowT (0, [("flag" : Str), x])) ++ (canS z).map oT) ?_ ?_) (congrArg V.str (shT_eq fl (canS z)))) fun H' e => k H' (e1.trans e)
      · rw [List.map_append]
        exact eb_L (el_cat (eb_var rfl hq) (eb_L lst) (by omega))
      · have h1 := sum_le (ws := (fl.map fun x => rowT (0, [("flag" : Str), x])) ++ (canS z).map oT) (b := 498) fun w hw => by
          rcases List.mem_append.mp hw with hw | hw
          · obtain ⟨x, hx, rfl⟩ := List.mem_map.mp hw
            have := (line_len (okRow_flag (wf x hx))).2
            omega
          · obtain ⟨x, hx, rfl⟩ := List.mem_map.mp hw
            obtain ⟨w1, w2, w3, w4⟩ := c2 x hx
            exact oT_len w1 w2 w3 w4
        have e0 : ("" : Str).length = 0 := by decide +kernel
        rw [e0, Nat.mul_zero, Nat.add_zero]
        refine Nat.le_trans h1 ?_
        rw [List.length_append, List.length_map, List.length_map]
        omega
end
end Pk

namespace Pk
open PySem PySem.Spec PyProof.Rows L2 Ssb
open Evl (Ex Ev EvT EvL EvA EvU)
open TL (tl ext_tl tl_append tl_join joinL join_eq split_join len_tl)
/-! ### the law's own rows -/
def rSortDK : List V → Hp → VK → Prop := fun xs H Q => ∃ (a : Addr) (kvs : List (Key × V)) (ks : List Str), xs = [.ref a] ∧ Rd H a (.dK kvs) ∧ kvs.map (·.1) = ks.map Sum.inr ∧ ks.length < 64 ∧ ∀ ys p, ys.Perm ks → sortedS ys = true → H p = none → Q (.ref p) (upd H p (.lst (ys.map V.str)))
theorem el_sortDK {σ : L2.St} {H : Hp} {td : TE} {q : Addr} {es : List (Key × V)} {ks : List Str} (h : Ev td σ H (.ref q)) (hq : Rd H q (.dK es)) (hk : es.map (·.1) = ks.map Sum.inr) (hl : ks.length ≤ 2) : EvL (tCB rSortDK (tCons td tNil)) σ H ((srt ks).map V.str) := fun H1 e Q k =>
  h H1 e _ fun H2 e2 => ⟨q, es, ks, rfl, hq.imp (fun z => (e.trans e2) _ _ z) (fun ⟨o, z⟩ => ⟨o, (e.trans e2) _ _ z⟩), hk, by omega, fun ys p perm so hp => by
    rw [srt_eq hl perm so]
    exact k p _ (Evl.fresh_back e2 hp) (e2.trans (Ex.new hp)) upd_same⟩
def emb (i : List (Str × Fl)) : Sh := i.map fun q => (q.1, q.2, [])
theorem inL_emb (i : List (Str × Fl)) : inL i = lsL (emb i) := by
  unfold inL lsL emb
  rw [List.map_map]; rfl
/-- what stands at a list of a shape's data -/
theorem ls_at {H : Hp} {m : Nat} {S : Addr → Prop} {s : Sh} {d : Addr} (h : Rep H m S (lsD s) (.ref d)) (nd : (s.map (·.1)).Nodup) : ∃ es, H d = some (.dK es) ∧ es.map (·.1) = (s.map (·.1)).map Sum.inr ∧ ∀ k f i, (k, f, i) ∈ s → ∃ t es2 fa ia m' S', valV es (Sum.inr k : Key) = some (.ref t) ∧ H t = some (.dK es2) ∧
    valV es2 (Sum.inr "fields" : Key) = some (.ref fa) ∧ valV es2 (Sum.inr "inner" : Key) = some (.ref ia) ∧ Rep H m' S' (flD f) (.ref fa) ∧ Rep H m' S' (lsD (emb i)) (.ref ia) := by
  cases m with
  | zero => exact h.elim
  | succ m =>
  obtain ⟨a, es, e, _, ha, _, pr⟩ := h
  cases e
  have ek : (lsL s).map (·.1) = s.map (·.1) := by unfold lsL; rw [List.map_map]; rfl
  refine ⟨es, ha, by rw [pair_keys pr, ek], fun k f i hm => ?_⟩
  have hl : (lsL s).lookup k = some (elD f i) := lk_of_mem (by rw [ek]; exact nd) (List.mem_map.mpr ⟨_, hm, rfl⟩)
  obtain ⟨v, hv, rv⟩ := rep_entry pr hl
  cases m with
  | zero => exact rv.elim
  | succ m =>
  obtain ⟨t, es2, rfl, _, ht, _, pr2⟩ := rv
  obtain ⟨v1, h1, r1⟩ := rep_entry (k := ("fields" : Str)) (d := flD f) pr2 rfl
  obtain ⟨v2, h2, r2⟩ := rep_entry (k := ("inner" : Str)) (d := .dic (inL i)) pr2 (by rw [List.lookup_cons]; rw [show (("inner" : Str) == ("fields" : Str)) = false from by decide +kernel]; rfl)
  obtain ⟨fa, _, e1, _⟩ := fl_new r1
  subst e1
  rw [inL_emb] at r2
  cases m with
  | zero => exact r2.elim
  | succ m =>
  obtain ⟨ia, es3, e3, r⟩ := id r2
  subst e3
  exact ⟨t, es2, fa, ia, _, _, hv, ht, h1, h2, r1, r2⟩
def lnV (lv : Nat) (p : Str × Fl × List (Str × Fl)) : List (Nat × List Str) := (lv, [("list" : Str), p.1]) :: (fLn (lv + 1) p.2.1 ++ p.2.2.flatMap (iLn (lv + 1)))
theorem canS_emb {i : List (Str × Fl)} (h : i.length ≤ 1) : canS (emb i) = emb (canI i) := by
  have ek : (emb i).map (·.1) = i.map (·.1) := by unfold emb; rw [List.map_map]; rfl
  unfold canS canI
  rw [ek]
  show _ = List.map _ (List.map _ _)
  rw [List.map_map]
  refine List.map_congr_left fun k hk => ?_
  obtain ⟨g, hm⟩ := key_mem (srt_mem.mp hk)
  have l1 := lk_of_mem (nd_one h) hm
  have l2 : (emb i).lookup k = some (g, []) := lk_of_mem (by rw [ek]; exact nd_one h) (List.mem_map.mpr ⟨_, hm, rfl⟩)
  rw [l2]
  show (k, canF g, canI []) = (k, canF ((i.lookup k).getD []), [])
  rw [l1]
  have e : canI [] = [] := by unfold canI; rw [show ([] : List (Str × Fl)).map (·.1) = [] from rfl, srt_nil]; rfl
  rw [e]; rfl
theorem lnV_emb (lv : Nat) (i : List (Str × Fl)) : (emb i).flatMap (lnV lv) = i.flatMap (iLn lv) := by
  unfold emb
  rw [List.flatMap_map]
  refine congrArg (fun f => List.flatMap f i) (funext fun q => ?_)
  unfold lnV iLn
  rw [List.flatMap_nil, List.append_nil]
def lnS (x : Nat × List Str) : V := .str (lineW x.1 x.2)
theorem tl_list : tl ("list " : Str) = tl ("list" : Str) ++ [32] := by decide +kernel
theorem line_list (lv : Nat) (k : Str) : (repS ("  " : Str) lv ++ ("list " : Str)) ++ k = lineW lv [("list" : Str), k] := ext_tl (by
  rw [tl_append, tl_append, tl_rep, tl_line, tl_ws, tl_list, List.append_assoc, List.append_assoc]; rfl)
theorem line_field (lv : Nat) (ws : List Str) : (repS ("  " : Str) lv ++ ("  " : Str)) ++ wsT ws = lineW (lv + 1) ws := ext_tl (by
  rw [tl_append, tl_append, tl_rep, tl_line]
  have e : tl ("  " : Str) = List.replicate 2 32 := by decide +kernel
  rw [e, List.replicate_append_replicate, Nat.mul_succ])
theorem flat_take {α : Type} {g : α → List (Nat × List Str)} {l : List α} {i : Nat} {a : α} (h : l[i]? = some a) : (l.take (i + 1)).flatMap g = (l.take i).flatMap g ++ g a := by
  rw [take_snoc h, List.flatMap_append, List.flatMap_cons, List.flatMap_nil, List.append_nil]
section
variable {P : Program} {w : World} {K : PySem.W.Frag} {mg : Str → Option Value} {base : Heap} {C_Shape C_SHAPES : Addr}
def spText (K : PySem.W.Frag) : Sp := fun vs H Q _ => ∃ (a : Addr) (ws : List Str), vs = [.ref a] ∧ SqL K H a (ws.map V.str) ∧ ws.length ≤ 40 ∧ (∀ x ∈ ws, x.length ≤ 82) ∧ ∀ H', Ex H H' → Q (.str (catT (ws.map (· ++ ("\n" : Str))))) H'
theorem ok__law_text (T : Txt K mg C_Shape C_SHAPES) (R : Prg K mg C_Shape C_SHAPES) : ∃ f fd, Fn P w K mg base "_law_text" 1 ["_law_lines"] (spText K) f fd := by
  obtain ⟨f, fd, at_, F, kp⟩ := R._law_text
  refine ⟨f, fd, F.ok sc__law_text (fun vs H Q E h => ?_) (fun cdv A outer s H vs Q E hr h => ?_), at_, kp, F.binds (fun _ _ _ _ _ _ us hl => match us, hl with | [_], _ => rfl)⟩
  · obtain ⟨a, ws, rfl, _⟩ := h; rfl
  · obtain ⟨a, ws, rfl, ha, l40, l82, k⟩ := h
    refine ⟨_, (pss_one (ps_ret (show PE _ _ (tBM K _ _ _ _) from pe_bm PySem.F.plainAttrs_str PySem.F.slot_str_join PySem.F.type_str_join mt_join pe_str (pa_cons (pe_lc (own := [("_law_line", 1)]) rfl sc__law_text.nd (show PI _ _ _ (iList K _) from pi_list (pv 0)) (blkOk_by (own := [("_law_line", 1)]) (N := ["_law_lines", "_law_line"]) (sc := defScope s__law_text) (by decide +kernel)) (fun _ _ _ _ _ => (pg_name (i := 1) sc__law_text.nd rfl (Or.inl rfl))) (fun _ _ _ _ _ => pts_nil) (fun _ _ _ _ _ => (pe_op op_add_str (pv 1) pe_str))) pa_nil)))), ?_⟩
    have e1 : ("\n" : Str).length = 1 := by decide +kernel
    have e0 : ("" : Str).length = 0 := by decide +kernel
    refine Evl.s_ret (v := .str (catT (ws.map (· ++ ("\n" : Str))))) (ev_join (sep := ("" : Str)) (ws := ws.map (· ++ ("\n" : Str))) ?_ ?_) fun H' e => k H' e
    · have := el_lcA (K := K) (σ := [some (.ref a), none]) (H := H) (tl := tVar 0) (te := tOp (fun x y H Q => ∃ i j, x = .str i ∧ y = .str j ∧ i.length + j.length ≤ sizeLine ∧ Q (.str (i ++ j)) H) (tVar 1) (tC (.str ("\n" : Str)))) (j := 1) (vs := [1]) (f := fun i => V.str (ws.getD i Str.empty ++ ("\n" : Str))) (Evl.ev_var rfl) ha (by rw [List.length_map]; omega) (fun _ => rfl) (fun i x hx H2 e2 => by
        rw [List.getElem?_map] at hx
        cases hi : ws[i]? with
        | none => rw [hi] at hx; cases hx
        | some y =>
          rw [hi] at hx
          cases hx
          have eg : ws.getD i Str.empty = y := by rw [List.getD_eq_getElem?_getD, hi]; rfl
          have := l82 y (List.mem_of_getElem? hi)
          show Ev _ _ H2 (V.str (ws.getD i Str.empty ++ ("\n" : Str)))
          rw [eg]
          exact Evl.ev_op (Evl.ev_var rfl) Evl.ev_c (rv_addS (by rw [e1]; omega)))
      rw [rmap (f := fun x => V.str (x ++ ("\n" : Str)))] at this
      rw [List.map_map]
      exact eb_L this
    · have h1 := sum_le (ws := ws.map (· ++ ("\n" : Str))) (b := 83) fun x hx => by
        obtain ⟨y, hy, rfl⟩ := List.mem_map.mp hx
        have := l82 y hy
        rw [len_tl, tl_append, List.length_append, ← len_tl, ← len_tl, e1]; omega
      rw [e0, Nat.mul_zero, Nat.add_zero]
      rw [List.length_map] at h1
      omega
end
end Pk

namespace Pk
open PySem PySem.Spec PyProof.Rows L2 Ssb
open Evl (Ex Ev EvT EvL EvA EvU)
open TL (tl ext_tl tl_append tl_join joinL join_eq split_join len_tl)
theorem len_words : ("list " : Str).length = 5 ∧ ("  " : Str).length = 2 ∧ (" " : Str).length = 1 := by decide +kernel
theorem rep_len (lv : Nat) : (repS ("  " : Str) lv).length = 2 * lv := by rw [len_tl, tl_rep, List.length_replicate]
/-- over a new list, that is made ahead of the loop -/
theorem q_forN {K : PySem.W.Frag} {te : TE} {g : TG} {tu tz : TS} {D_ : Ends} {σ : L2.St} {H : Hp} {xs : List V} (h : EvL te σ H xs) (Pv : Addr → Nat → L2.St → Hp → Prop) (h0 : ∀ a H1, H a = none → Ex H H1 → H1 a = some (.lst xs) → Pv a 0 σ H1) (hG : ∀ a i σ' H', Pv a i σ' H' → H' a = some (.lst xs))
    (hs : ∀ a i σ' H' x, xs[i]? = some x → Pv a i σ' H' → g x σ' H' fun σ2 H2 => tu { D_ with nx := Pv a (i + 1), ct := Pv a (i + 1), bk := tz D_ } σ2 H2) (hd : ∀ a σ' H', Pv a xs.length σ' H' → tz D_ σ' H') : tSeq (tFor (iList K te) g tu) tz D_ σ H :=
  h H (Ex.refl H) _ fun a H1 h0' e1 ha => ⟨a, rfl, ⟨xs, Evl.sq_of ha⟩, for_list (K := K) (a := a) (xs := xs) (Pv a) (h0 a H1 h0' e1 ha) (fun i σ' H' _ p => Evl.sq_of (hG a i σ' H' p)) (fun i x σ' H' hx p => hs a i σ' H' x hx p) fun σ' H' p => hd a σ' H' p⟩
theorem lnV_len {lv : Nat} {p : Str × Fl × List (Str × Fl)} (hf : okFl p.2.1) (h1 : p.2.2.length ≤ 1) (hi : ∀ q ∈ p.2.2, okFl q.2) : (lnV lv p).length ≤ 6 := by
  obtain ⟨k, f, i⟩ := p
  unfold lnV fLn
  rw [List.length_cons, List.length_append, List.length_map]
  have hf1 : f.length ≤ 2 := hf.1
  match i, h1 with
  | [], _ => show f.length + 0 + 1 ≤ 6; omega
  | [q], _ =>
    have hq : q.2.length ≤ 2 := (hi q List.mem_cons_self).1
    rw [List.flatMap_cons, List.flatMap_nil, List.append_nil]
    unfold iLn fLn
    rw [List.length_cons, List.length_map]
    show f.length + (q.2.length + 1) + 1 ≤ 6
    omega
theorem ev_dget2 {σ : L2.St} {H : Hp} {i j : Nat} {d t : Addr} {k k2 : Str} {v : V} {es es2 : List (Key × V)} (h1 : σ[i]? = some (some (.ref d))) (h2 : σ[j]? = some (some (.str k))) (hd : Rd H d (.dK es)) (hv : valV es (Sum.inr k : Key) = some (.ref t)) (ht : H t = some (.dK es2)) (hv2 : valV es2 (Sum.inr k2 : Key) = some v) : Ev (tDGet (tDGet (tVar i) (tVar j)) (tC (.str k2))) σ H v := fun H1 e Q q =>
  ⟨_, h1, _, h2, d, .ref t, rfl, .inl ⟨es, Sum.inr k, hd.imp (fun z => e _ _ z) (fun ⟨o, z⟩ => ⟨o, e _ _ z⟩), rfl, hv.symm⟩, t, v, rfl, .inl ⟨es2, Sum.inr k2, .inl (e _ _ ht), rfl, hv2.symm⟩, q H1 (Ex.refl _)⟩
section
variable {P : Program} {w : World} {K : PySem.W.Frag} {mg : Str → Option Value} {base : Heap} {C_Shape C_SHAPES : Addr}
def spSL : Nat → Sp
  | 0 => fun _ _ _ _ => False
  | n + 1 => fun vs H Q _ => ∃ (d : Addr) (lv m : Nat) (S : Addr → Prop) (s : Sh), vs = [.ref d, .int (lv : Int)] ∧ Rep H m S (lsD s) (.ref d) ∧ s.length ≤ 2 ∧ (s.map (·.1)).Nodup ∧ (∀ p ∈ s, isW p.1 ∧ okFl p.2.1 ∧ p.2.2.length ≤ 1 ∧ ∀ q ∈ p.2.2, isW q.1 ∧ okFl q.2) ∧ (n = 0 → s = []) ∧ (n = 1 → ∀ p ∈ s, p.2.2 = []) ∧ lv + n ≤ 3 ∧
    ∀ H' q, Ex H H' → H q = none → H' q = some (.lst (((canS s).flatMap (lnV lv)).map lnS)) → Q (.ref q) H'
theorem ok__law_shape_lines (T : Txt K mg C_Shape C_SHAPES) (R : Prg K mg C_Shape C_SHAPES) : ∀ n, ∃ f fd, Fn P w K mg base "_law_shape_lines" (n + 1) ["_law_lists", "_law_level"] (spSL n) f fd
  | 0 => by
    obtain ⟨f, fd, at_, F, kp⟩ := R._law_shape_lines
    exact ⟨f, fd, F.ok sc__law_shape_lines (fun vs H Q E h => h.elim) (fun cdv A outer s H vs Q E hr h => h.elim), at_, kp, F.binds (fun _ _ _ _ _ _ us hl => match us, hl with | [_, _], _ => rfl)⟩
  | n + 1 => by
    obtain ⟨_, _, G__law_shape_lines⟩ := ok__law_shape_lines T R n
    obtain ⟨f, fd, at_, F, kp⟩ := R._law_shape_lines
    refine ⟨f, fd, F.ok sc__law_shape_lines (fun vs H Q E h => ?_) (fun cdv A outer s H vs Q E hr h => ?_), at_, kp, F.binds (fun _ _ _ _ _ _ us hl => match us, hl with | [_, _], _ => rfl)⟩
    · obtain ⟨d, lv, m, S, s, rfl, _⟩ := h; rfl
    · obtain ⟨d, lv, m, S, z, rfl, hv, l2, nd, oks, h0, h1, llv, k⟩ := h
      refine ⟨_, (pss_cons (ps_set (i := 2) sc__law_shape_lines.nd rfl (Or.inl rfl) (pe_lst pa_nil))
  (pss_cons (ps_for PassesOwn.never rfl (show PI _ _ _ (iList K _) from pi_list (pe_callB (r := rSortDK) (call_sortedD rfl) (by rfl) T.sorted (by decide +kernel) (pa_cons (pv 0) pa_nil))) (pg_name (i := 3) sc__law_shape_lines.nd rfl (Or.inl rfl))
    (pss_cons (ps_expr (show PE _ _ (tBM K _ _ _ _) from pe_bm PySem.F.plainAttrs_list PySem.F.slot_list_append PySem.F.type_list_append mt_append (pv 2) (pa_cons (pe_op op_add_str (pe_op op_add_str (pe_op (r := rMulT) op_mulT pe_str (pv 1)) pe_str) (pv 3)) pa_nil)))
  (pss_cons (ps_set (i := 4) sc__law_shape_lines.nd rfl (Or.inl rfl) (pe_dget (hu_of hr) (pe_dget (hu_of hr) (pv 0) (pv 3) (fun _ _ => rfl)) pe_str (fun _ _ => rfl)))
  (pss_cons (ps_for PassesOwn.never rfl (show PI _ _ _ (iList K _) from pi_list (pe_callB (r := rSortDK) (call_sortedD rfl) (by rfl) T.sorted (by decide +kernel) (pa_cons (pv 4) pa_nil))) (pg_name (i := 5) sc__law_shape_lines.nd rfl (Or.inl rfl))
    (pss_cons (ps_set (i := 6) sc__law_shape_lines.nd rfl (Or.inl rfl) (show PE _ _ (tBM K _ _ _ _) from pe_bm PySem.F.plainAttrs_str PySem.F.slot_str_join PySem.F.type_str_join mt_join pe_str (pa_cons (pe_op op_cat (pe_lst (pa_cons pe_str (pa_cons (pv 5) pa_nil))) (pe_callTy (r := rListA K) call_list_of (by rfl) T.list (by decide +kernel) (pa_cons (pe_dget (hu_of hr) (pv 4) (pv 5) (fun _ _ => rfl)) pa_nil))) pa_nil)))
  (pss_one (ps_expr (show PE _ _ (tBM K _ _ _ _) from pe_bm PySem.F.plainAttrs_list PySem.F.slot_list_append PySem.F.type_list_append mt_append (pv 2) (pa_cons (pe_op op_add_str (pe_op op_add_str (pe_op (r := rMulT) op_mulT pe_str (pv 1)) pe_str) (pv 6)) pa_nil))))))
  (pss_one (ps_set (i := 2) sc__law_shape_lines.nd rfl (Or.inl rfl) (pe_op op_cat (pv 2) (pcl G__law_shape_lines hr (pa_cons (pe_dget (hu_of hr) (pe_dget (hu_of hr) (pv 0) (pv 3) (fun _ _ => rfl)) pe_str (fun _ _ => rfl)) (pa_cons (pe_op op_add (pv 1) pe_int) pa_nil))))))))))
  (pss_one (ps_ret (pv 2))))), ?_⟩
      obtain ⟨es, hes, ekeys, ent⟩ := ls_at hv nd
      have ecs : (canS z).map (·.1) = srt (z.map (·.1)) := by unfold canS; exact can_keys
      have lcs : (canS z).length ≤ 2 := by unfold canS; rw [List.length_map, srt_len, List.length_map]; exact l2
      refine Evl.q_asgL (xs := []) (Evl.el_lst Evl.ea_nil (Nat.zero_le _)) fun q0 H1 hq0 e1 hq1 => ?_
      refine q_forN (el_sortDK (Evl.ev_var rfl) (.inl (e1 _ _ hes)) ekeys (by rw [List.length_map]; exact l2)) (fun a i σ' Hx => ∃ (q : Addr) (o3 o4 o5 o6 : Option V), σ' = [some (.ref d), some (.int (lv : Int)), some (.ref q), o3, o4, o5, o6] ∧ Ex H Hx ∧ H q = none ∧ q ≠ a ∧ Hx a = some (.lst ((srt (z.map (·.1))).map V.str)) ∧ Hx q = some (.lst ((((canS z).take i).flatMap (lnV lv)).map lnS)) ∧ (((canS z).take i).flatMap (lnV lv)).length ≤ 6 * i)
        (fun a H2 a0 e2 ha => ⟨q0, _, _, _, _, rfl, e1.trans e2, hq0, (fun e => by rw [← e, hq1] at a0; cases a0), ha, e2 _ _ hq1, Nat.zero_le _⟩) (fun a i σ' H' p => ?_) (fun a i σ' Hx x hx pv => ?_) fun a σ' Hx pv => ?_
      · obtain ⟨q, _, _, _, _, _, _, _, _, h, _⟩ := p; exact h
      · obtain ⟨q, o3, o4, o5, o6, rfl, ex, hq0, nqa, hax, hqx, ln⟩ := pv
        rw [List.getElem?_map] at hx
        cases hk : (srt (z.map (·.1)))[i]? with
        | none => rw [hk] at hx; cases hx
        | some kk =>
        rw [hk] at hx
        cases hx
        obtain ⟨⟨f, inn⟩, hm⟩ := key_mem (srt_mem.mp (List.mem_of_getElem? hk))
        have hci : (canS z)[i]? = some (kk, canF f, canI inn) := by
          unfold canS
          rw [List.getElem?_map, hk]
          show some (kk, canF ((z.lookup kk).getD ([], [])).1, canI ((z.lookup kk).getD ([], [])).2) = _
          rw [lk_of_mem nd hm]; rfl
        have il : i < 2 := by have := (List.getElem?_eq_some_iff.mp hci).1; omega
        obtain ⟨wk, okf, li, oki⟩ := oks _ hm
        obtain ⟨t, es2, fa, ia, m', S', hv1, ht, hvf, hvi, rf, ri⟩ := ent kk f inn hm
        have lvb : lv ≤ 3 := by omega
        refine gname_go ?_
        refine Evl.q_app hqx (Evl.ev_var rfl) (v := lnS (lv, [("list" : Str), kk])) (Evl.ev_is (Evl.ev_op (Evl.ev_op (Evl.ev_op Evl.ev_c (Evl.ev_var rfl) (rv_mulT (by decide +kernel) (by decide +kernel) (by omega))) Evl.ev_c (rv_addS (by rw [rep_len, len_words.1]; omega))) (Evl.ev_var rfl) (rv_addS (by
          have : kk.length ≤ 8 := wk.2.1
          rw [len_tl, tl_append, List.length_append, ← len_tl, ← len_tl, rep_len, len_words.1]; omega))) (congrArg V.str (line_list lv kk))) (by rw [List.length_map]; omega) fun H2 e2 => ?_
        have hq2 := e2 _ _ hqx
        have exm := Ex.mut (o := .lst ((((canS z).take i).flatMap (lnV lv)).map lnS ++ [lnS (lv, [("list" : Str), kk])])) (ex.trans e2) hq0
        have ha2 : (upd H2 q (.lst ((((canS z).take i).flatMap (lnV lv)).map lnS ++ [lnS (lv, [("list" : Str), kk])]))) a = some (.lst ((srt (z.map (·.1))).map V.str)) := by rw [upd_ne (Ne.symm nqa)]; exact e2 _ _ hax
        have hq2' : (upd H2 q (.lst ((((canS z).take i).flatMap (lnV lv)).map lnS ++ [lnS (lv, [("list" : Str), kk])]))) q = some (.lst ((((canS z).take i).flatMap (lnV lv)).map lnS ++ [lnS (lv, [("list" : Str), kk])])) := upd_same
        generalize (upd H2 q (.lst ((((canS z).take i).flatMap (lnV lv)).map lnS ++ [lnS (lv, [("list" : Str), kk])]))) = Hb at exm ha2 hq2' ⊢
        refine Evl.q_asg (v := .ref fa) (ev_dget2 rfl rfl (.inl (exm _ _ hes)) hv1 (exm _ _ ht) hvf) fun H3 e3 => ?_
        obtain ⟨fes, hfes, fkeys, fent⟩ := fl_at (rep_ex (exm.trans e3) rf)
        refine q_forN (el_sortDK (Evl.ev_var rfl) (.inl hfes) fkeys (by rw [List.length_map]; exact okf.1)) (fun b j σ' Hy => ∃ o5 o6 : Option V, σ' = [some (.ref d), some (.int (lv : Int)), some (.ref q), some (.str kk), some (.ref fa), o5, o6] ∧ Ex H Hy ∧ q ≠ b ∧ Hy b = some (.lst ((srt (f.map (·.1))).map V.str)) ∧ Hy a = some (.lst ((srt (z.map (·.1))).map V.str)) ∧ (∀ t2 ws, H3 t2 = some (.tup ws) → Hy t2 = some (.tup ws)) ∧ Hy fa = some (.dK fes) ∧
            Hy q = some (.lst ((((canS z).take i).flatMap (lnV lv)).map lnS ++ [lnS (lv, [("list" : Str), kk])] ++ ((fLn (lv + 1) (canF f)).take j).map lnS)))
          (fun b H4 b0 e4 hb => ⟨_, _, rfl, exm.trans (e3.trans e4), (fun e => by rw [← e, e3 _ _ hq2'] at b0; cases b0), hb, (e3.trans e4) _ _ ha2, fun t2 ws h => e4 _ _ h, e4 _ _ hfes, by rw [List.take_zero]; show _ = some (HO.lst (_ ++ [])); rw [List.append_nil]; exact (e3.trans e4) _ _ hq2'⟩) (fun b j σ' H' p => ?_) (fun b j σ' Hy x hx pv => ?_) fun b σ' Hy pv => ?_
        · obtain ⟨_, _, _, _, _, h, _⟩ := p; exact h
        · obtain ⟨o5, o6, rfl, ey, nqb, hby, hay, tky, hfy, hqy⟩ := pv
          rw [List.getElem?_map] at hx
          cases hk2 : (srt (f.map (·.1)))[j]? with
          | none => rw [hk2] at hx; cases hx
          | some k2 =>
          rw [hk2] at hx
          cases hx
          obtain ⟨ws, hm2⟩ := key_mem (srt_mem.mp (List.mem_of_getElem? hk2))
          have lw := lk_of_mem okf.2.1 hm2
          obtain ⟨w1, w2, w3, ww, _⟩ := okf.2.2 _ hm2
          obtain ⟨t2, hv2, ht2⟩ := fent k2 ws hm2 okf.2.1
          have hfj : (fLn (lv + 1) (canF f))[j]? = some (lv + 1, ("field" : Str) :: k2 :: ws) := by
            unfold fLn canF
            rw [List.getElem?_map, List.getElem?_map, hk2]
            show some (lv + 1, ("field" : Str) :: k2 :: (f.lookup k2).getD []) = _
            rw [lw]; rfl
          have okw : okRow (lv + 1, ("field" : Str) :: k2 :: ws) := okRow_field (p := (k2, ws)) (by omega) w1 w3 ww
          have lws := ws_len okw
          have lF : (fLn (lv + 1) (canF f)).length ≤ 2 := by unfold fLn; rw [List.length_map]; exact (canF_ok okf).1
          have s3 := sum_le okw.2.2
          have s4 : (("field" : Str) :: k2 :: ws).length ≤ 8 := okw.2.1
          refine gname_go ?_
          refine Evl.q_asg (v := .str (wsT (("field" : Str) :: k2 :: ws))) (ev_join (sep := (" " : Str)) (ws := ("field" : Str) :: k2 :: ws) (eb_L (el_cat (xs := [.str "field", .str k2]) (ys := ws.map V.str) (eb_L (Evl.el_lst (Evl.ea_cons Evl.ev_c (Evl.ea_cons (Evl.ev_var rfl) Evl.ea_nil)) (by show 2 ≤ 100000; decide))) (eb_L (el_tupL (ev_dgetS rfl rfl hfy hv2) (tky _ _ ht2))) (by rw [List.length_map]; show 2 + _ ≤ _; have : ws.length ≤ 3 := w3; omega))) (by
              rw [len_words.2.2]
              have s3 : ((("field" : Str) :: k2 :: ws).map (·.length)).sum ≤ (("field" : Str) :: k2 :: ws).length * 8 := s3
              omega)) fun H4 e4 => ?_
          have hq4 := e4 _ _ hqy
          refine Evl.s_app hq4 (Evl.ev_var rfl) (v := lnS (lv + 1, ("field" : Str) :: k2 :: ws)) (Evl.ev_is (Evl.ev_op (Evl.ev_op (Evl.ev_op Evl.ev_c (Evl.ev_var rfl) (rv_mulT (by decide +kernel) (by decide +kernel) (by omega))) Evl.ev_c (rv_addS (by rw [rep_len, len_words.2.1]; omega))) (Evl.ev_var rfl) (rv_addS (by
            have lws : (wsT (("field" : Str) :: k2 :: ws)).length ≤ 72 := lws
            rw [len_tl, tl_append, List.length_append, ← len_tl, ← len_tl, rep_len, len_words.2.1]; omega))) (congrArg V.str (line_field lv _))) (by
              rw [List.length_append, List.length_append, List.length_map, List.length_map, List.length_take]
              show _ + 1 + _ < _
              omega) fun H5 e5 => ?_
          refine ⟨_, _, rfl, Ex.mut (ey.trans (e4.trans e5)) hq0, nqb, by rw [upd_ne (Ne.symm nqb)]; exact (e4.trans e5) _ _ hby, by rw [upd_ne (Ne.symm nqa)]; exact (e4.trans e5) _ _ hay, fun t3 ws3 h3 => ?_, ?_, ?_⟩
          · have := (e4.trans e5) _ _ (tky _ _ h3)
            have ne : t3 ≠ q := fun e => by rw [e, e5 _ _ hq4] at this; cases this
            rw [upd_ne ne]; exact this
          · have := (e4.trans e5) _ _ hfy
            have ne : fa ≠ q := fun e => by rw [e, e5 _ _ hq4] at this; cases this
            rw [upd_ne ne]; exact this
          · rw [upd_same, take_snoc hfj, List.map_append, ← List.append_assoc]; rfl
        · obtain ⟨o5, o6, rfl, ey, nqb, hby, hay, tky, hfy, hqy⟩ := pv
          have lFF : ((srt (f.map (·.1))).map V.str).length = (fLn (lv + 1) (canF f)).length := by
            unfold fLn canF
            rw [List.length_map, List.length_map, List.length_map]
          rw [lFF, List.take_length] at hqy
          have lF : (fLn (lv + 1) (canF f)).length ≤ 2 := by unfold fLn; rw [List.length_map]; exact (canF_ok okf).1
          cases n with
          | zero => rw [h0 rfl] at hm; cases hm
          | succ n =>
          have inn0 : n = 0 → inn = [] := fun e => h1 (by rw [e]) _ hm
          have ek : (emb inn).map (·.1) = inn.map (·.1) := by unfold emb; rw [List.map_map]; rfl
          have call : EvB (tCall (spSL (n + 1)) [] E0 (tCons (tDGet (tDGet (tVar 0) (tVar 3)) (tC (.str "inner"))) (tCons (tOp (rI0 fun i j => .int (i + j)) (tVar 1) (tC (.int 1))) tNil))) [some (.ref d), some (.int (lv : Int)), some (.ref q), some (.str kk), some (.ref fa), o5, o6] Hy (((canI inn).flatMap (iLn (lv + 1))).map lnS) := fun H4 e4 Q' q' => by
            have e04 := ey.trans e4
            refine ev_dget2 rfl rfl (.inl (ey _ _ hes)) hv1 (ey _ _ ht) hvi H4 e4 _ fun H5 e5 => ⟨_, rfl, _, _, rfl, rfl, ?_⟩
            refine ⟨ia, lv + 1, m', S', emb inn, rfl, rep_ex (e04.trans e5) ri, by unfold emb; rw [List.length_map]; have : inn.length ≤ 1 := li; omega, by rw [ek]; exact nd_one li, fun p hp => ?_, fun e => by rw [inn0 e]; rfl, fun _ p hp => ?_, by omega, fun H6 q6 e6 _ h6 => ?_⟩
            · obtain ⟨g, hg, rfl⟩ := List.mem_map.mp hp
              exact ⟨(oki g hg).1, (oki g hg).2, Nat.zero_le _, fun q hq => nomatch hq⟩
            · obtain ⟨g, hg, rfl⟩ := List.mem_map.mp hp
              rfl
            · rw [canS_emb li, lnV_emb] at h6
              exact q' q6 H6 (e5.trans e6) h6
          obtain ⟨ci1, ci2⟩ := canI_ok li oki
          have lnp := lnV_len (lv := lv) (p := (kk, canF f, canI inn)) (canF_ok okf) ci1 fun q hq => (ci2 q hq).2
          have lnI : ((canI inn).flatMap (iLn (lv + 1))).length ≤ 6 := by
            have e : (lnV lv (kk, canF f, canI inn)).length = (fLn (lv + 1) (canF f)).length + ((canI inn).flatMap (iLn (lv + 1))).length + 1 := by
              unfold lnV
              rw [List.length_cons, List.length_append]
            omega
          refine Evl.s_asgL (el_cat (eb_var rfl hqy) call (by
            rw [List.length_append, List.length_append, List.length_map, List.length_map, List.length_map]
            show _ + 1 + _ + _ ≤ _
            omega)) fun p6 H6 hp6 e6 h6 => ?_
          refine ⟨p6, _, _, _, _, rfl, ey.trans e6, Evl.fresh_back ey hp6, (fun e => by rw [e, hay] at hp6; cases hp6), e6 _ _ hay, ?_, ?_⟩
          · rw [h6, flat_take hci, List.map_append]
            refine congrArg (fun l => some (HO.lst l)) ?_
            unfold lnV
            rw [List.map_cons, List.map_append, List.append_assoc, List.append_assoc]; rfl
          · rw [flat_take hci, List.length_append]
            omega
      · obtain ⟨q, o3, o4, o5, o6, rfl, ex, hq0, nqa, hax, hqx, ln⟩ := pv
        have e : ((srt (z.map (·.1))).map V.str).length = (canS z).length := by unfold canS; rw [List.length_map, List.length_map]
        rw [e, List.take_length] at hqx
        exact Evl.s_ret (Evl.ev_var rfl) fun H9 e9 => k H9 q (ex.trans e9) hq0 (e9 _ _ hqx)
end
end Pk

namespace Pk
open PySem PySem.Spec PyProof.Rows L2 Ssb
open Evl (Ex Ev EvT EvL EvA EvU)
open TL (tl ext_tl tl_append tl_join joinL join_eq split_join len_tl tl_strSub_end)
/-! ### rows are read -/
/-- a row that may be read: a level, words of a form -/
def rdRow (q : Nat × List Str) : Prop := q.1 ≤ 5 ∧ (∀ w ∈ q.2, isW w) ∧ q.2.length ≤ 8 ∧ hasF (.tup (q.2.map .str)) = true
theorem rd_ne {q : Nat × List Str} (h : rdRow q) : q.2 ≠ [] := fun e => by
  have := h.2.2.2
  rw [e] at this
  cases this
theorem isW_no {w : Str} (h : isW w) : 32 ∉ tl w ∧ 10 ∉ tl w := ⟨fun hm => by have := h.2.2 _ hm; omega, fun hm => by have := h.2.2 _ hm; omega⟩
theorem joinL_mem {S : List Nat} {c : Nat} : ∀ {ps : List (List Nat)}, c ∈ joinL S ps → c ∈ S ∨ ∃ p ∈ ps, c ∈ p
  | [], h => by cases h
  | [p], h => .inr ⟨p, List.mem_singleton.mpr rfl, h⟩
  | p :: q :: r, h => by
    have h : c ∈ p ++ (S ++ joinL S (q :: r)) := h
    rcases List.mem_append.mp h with h | h
    · exact .inr ⟨p, List.mem_cons_self, h⟩
    · rcases List.mem_append.mp h with h | h
      · exact .inl h
      · rcases joinL_mem h with h | ⟨x, hx, h⟩
        · exact .inl h
        · exact .inr ⟨x, List.mem_cons_of_mem _ hx, h⟩
theorem line_no {q : Nat × List Str} (h : rdRow q) : 10 ∉ tl (lineW q.1 q.2) := fun hm => by
  rw [tl_line] at hm
  rcases List.mem_append.mp hm with hm | hm
  · have := (List.mem_replicate.mp hm).2
    omega
  · rw [tl_ws] at hm
    rcases joinL_mem hm with hm | ⟨p, hp, hm⟩
    · rw [List.mem_singleton] at hm; omega
    · obtain ⟨w, hw, rfl⟩ := List.mem_map.mp hp
      exact (isW_no (h.2.1 w hw)).2 hm
theorem joinL_end (ls : List (List Nat)) : joinL [10] (ls ++ [[]]) = (ls.map (· ++ [10])).flatten := by
  induction ls with
  | nil => rfl
  | cons l ls ih =>
    rw [List.map_cons, List.flatten_cons, ← ih]
    cases ls with
    | nil =>
      show l ++ ([10] ++ ([] : List Nat)) = l ++ [10] ++ ([] : List Nat)
      rw [List.append_nil, List.append_nil]
    | cons m ls =>
      show l ++ ([10] ++ joinL [10] (m :: (ls ++ [[]]))) = _
      rw [List.append_assoc]; rfl
theorem cat_join (rs : List (Nat × List Str)) : catT (rs.map rowT) = Txt.join ("\n" : Str) ((rs.map fun q => lineW q.1 q.2) ++ [Str.empty]) := ext_tl (by
  rw [tl_cat, join_eq, tl_join, tl_ofS, List.map_append]
  show _ = joinL [10] (_ ++ [[]])
  rw [joinL_end, List.map_map, List.map_map, List.map_map]
  refine congrArg List.flatten (List.map_congr_left fun q _ => ?_)
  exact tl_row q)
theorem kind1 : ("\n" : Str).cps.all (· < 256) = true ∧ (" " : Str).cps.all (· < 256) = true := by decide +kernel
theorem split_rows {rs : List (Nat × List Str)} (h : ∀ q ∈ rs, rdRow q) : Txt.split (catT (rs.map rowT)) ("\n" : Str) = (rs.map fun q => lineW q.1 q.2) ++ [Str.empty] := by
  rw [cat_join]
  refine split_join tl_ofS kind1.1 (by simp) fun p hp => ?_
  rcases List.mem_append.mp hp with hp | hp
  · obtain ⟨q, hq, rfl⟩ := List.mem_map.mp hp
    exact line_no (h q hq)
  · rw [List.mem_singleton.mp hp]
    intro hm; cases hm
theorem split_words {ws : List Str} (hne : ws ≠ []) (h : ∀ w ∈ ws, isW w) : Txt.split (wsT ws) (" " : Str) = ws := split_join tl_sp kind1.2 hne fun p hp => (isW_no (h p hp)).1
theorem lstrip_line {lv : Nat} {ws : List Str} (hne : ws ≠ []) (h : ∀ w ∈ ws, isW w) : Txt.lstripChars (lineW lv ws) (" " : Str) = wsT ws := by
  have lo : stripLo ((" " : Str).cps.contains) true (lineW lv ws) = 2 * lv := by
    unfold stripLo
    rw [if_pos rfl]
    show ((tl (lineW lv ws)).takeWhile _).length = _
    rw [tl_line]
    have hd : ∃ c r, tl (wsT ws) = c :: r ∧ 97 ≤ c := by
      cases ws with
      | nil => exact absurd rfl hne
      | cons w ws =>
        obtain ⟨w1, _, wc⟩ := h w List.mem_cons_self
        rw [tl_ws]
        have e : ∃ r, joinL [32] ((w :: ws).map tl) = tl w ++ r := by
          cases ws with
          | nil => exact ⟨[], by rw [List.append_nil]; rfl⟩
          | cons v ws => exact ⟨_, rfl⟩
        obtain ⟨r, e⟩ := e
        rw [e]
        cases hw : tl w with
        | nil => rw [len_tl, hw] at w1; cases w1
        | cons c t => exact ⟨c, t ++ r, rfl, (wc c (by show c ∈ tl w; rw [hw]; exact List.mem_cons_self)).1⟩
    obtain ⟨c, r, e, hc⟩ := hd
    have has : ∀ c : Nat, (" " : Str).cps.contains c = decide (c = 32) := fun c => by
      have : (" " : Str).cps = #[32] := by decide +kernel
      rw [this]
      by_cases z : c = 32
      · subst z; simp
      · rw [decide_eq_false z]
        simp [z]
    rw [List.takeWhile_append_of_pos (fun a ha => by rw [(List.mem_replicate.mp ha).2, has]; rfl), e, List.takeWhile_cons, has, decide_eq_false (by omega), if_neg (by decide), List.append_nil, List.length_replicate]
  show Txt.stripBy _ true false _ = _
  rw [stripBy_eq, lo]
  refine ext_tl ?_
  show tl (Builtin.Str.strSub (lineW lv ws) (2 * lv) (lineW lv ws).length) = _
  rw [tl_strSub_end, tl_line]
  have := List.drop_left (l₁ := List.replicate (2 * lv) 32) (l₂ := tl (wsT ws))
  rw [List.length_replicate] at this
  exact this
section
variable {P : Program} {w : World} {K : PySem.W.Frag} {mg : Str → Option Value} {base : Heap} {C_Shape C_SHAPES : Addr}
def preAll (K : PySem.W.Frag) : List V → Hp → Prop := fun vs H => ∃ (a : Addr) (ws : List Str), vs = [.ref a] ∧ SqL K H a (ws.map V.str) ∧ ws.length ≤ 8 ∧ ∀ x ∈ ws, isW x
theorem ok_all_words (T : Txt K mg C_Shape C_SHAPES) (R : Prg K mg C_Shape C_SHAPES) : ∃ f fd, Fn P w K mg base "all_words" 2 ["several"] (spV (.bl true) (preAll K)) f fd := by
  obtain ⟨_, _, G_is_word⟩ := ok_is_word (P := P) (w := w) (base := base) T R
  obtain ⟨f, fd, at_, F, kp⟩ := R.all_words
  refine ⟨f, fd, F.ok sc_all_words (fun vs H Q E h => ?_) (fun cdv A outer s H vs Q E hr h => ?_), at_, kp, F.binds (fun _ _ _ _ _ _ us hl => match us, hl with | [_], _ => rfl)⟩
  · obtain ⟨⟨a, ws, rfl, _⟩, _⟩ := h; rfl
  · obtain ⟨⟨a, ws, rfl, hs, few, hw⟩, k⟩ := h
    refine ⟨_, (pss_one (ps_ret (pe_callB (r := rAll K) (cr_all rfl) (by rfl) T.all (by decide +kernel) (pa_cons (pe_lc (own := [("one", 1)]) rfl sc_all_words.nd (show PI _ _ _ (iList K _) from pi_list (pv 0)) (blkOk_by (own := [("one", 1)]) (N := ["several", "one"]) (sc := defScope s_all_words) (by decide +kernel)) (fun _ _ _ _ _ => (pg_name (i := 1) sc_all_words.nd rfl (Or.inl rfl))) (fun _ _ _ _ _ => pts_nil) (fun _ _ _ _ _ => (pcl G_is_word hr (pa_cons (pv 1) pa_nil)))) pa_nil)))), ?_⟩
    refine Evl.s_ret (v := .bl true) (ev_allT (el_lcA (Evl.ev_var rfl) hs (by rw [List.length_map]; omega) (fun _ => rfl) fun i x hx H2 e2 => ?_)) fun H1 e1 => k H1 e1
    obtain ⟨z, hz, rfl⟩ : ∃ z, ws[i]? = some z ∧ x = .str z := by
      rw [List.getElem?_map] at hx
      cases e : ws[i]? with
      | none => rw [e] at hx; cases hx
      | some z => rw [e] at hx; exact ⟨z, rfl, (Option.some.inj hx).symm⟩
    exact spV_ev (Evl.ea_cons (Evl.ev_var rfl) Evl.ea_nil) fun H3 _ => ⟨z, rfl, hw z (List.mem_of_getElem? hz)⟩
def spForm (K : PySem.W.Frag) : Sp := fun vs H Q _ => ∃ (a : Addr) (ws : List Str), vs = [.ref a] ∧ H a = some (.lst (ws.map V.str)) ∧ rdRow (0, ws) ∧ ∀ H', Ex H H' → Q (.ref a) H'
theorem ok_shape_form (T : Txt K mg C_Shape C_SHAPES) (R : Prg K mg C_Shape C_SHAPES) : ∃ f fd, Fn P w K mg base "shape_form" 3 ["words"] (spForm K) f fd := by
  obtain ⟨_, _, G_has_form⟩ := ok_has_form (P := P) (w := w) (base := base) T R
  obtain ⟨_, _, G_all_words⟩ := ok_all_words (P := P) (w := w) (base := base) T R
  obtain ⟨f, fd, at_, F, kp⟩ := R.shape_form
  refine ⟨f, fd, F.ok sc_shape_form (fun vs H Q E h => ?_) (fun cdv A outer s H vs Q E hr h => ?_), at_, kp, F.binds (fun _ _ _ _ _ _ us hl => match us, hl with | [_], _ => rfl)⟩
  · obtain ⟨a, ws, rfl, _⟩ := h; rfl
  · obtain ⟨a, ws, rfl, ha, ⟨_, hw, l8, hf⟩, k⟩ := h
    have l8 : ws.length ≤ 8 := l8
    refine ⟨_, (pss_one (ps_ret (pe_ifExp (PW.pt (pw_and (pt_val (pcl G_has_form hr (pa_cons (pe_callTy (r := rTupA K) call_tuple_of (by rfl) T.tuple (by decide +kernel) (pa_cons (pv 0) pa_nil)) (pa_cons (pe_glob (v := .ref _) rfl T.at_SHAPES rfl) pa_nil)))) (pw_and1 (pt_val (pcl G_all_words hr (pa_cons (pv 0) pa_nil)))))) (pv 0) pe_non))), ?_⟩
    refine Evl.s_ret (v := .ref a) (Evl.ev_if (b := true) (Evl.et_is (Evl.et_and (a := true) (b := true) (Evl.et_B fun H1 e1 Q' q' => ?_) fun _ => Evl.et_B (spV_ev (Evl.ea_cons (Evl.ev_var rfl) Evl.ea_nil) fun H3 e3 => ⟨a, ws, rfl, Evl.sq_of (e3 _ _ ha), l8, hw⟩)) rfl) (fun _ => Evl.ev_var rfl) fun h => nomatch h) fun H1 e1 => k H1 e1
    refine ⟨_, rfl, a, ws.map V.str, rfl, .inl ⟨Evl.sq_of (e1 _ _ ha), fun t ht => ?_⟩⟩
    refine ⟨.ref t, 0, fun _ => False, .tup (ws.map .str), rfl, ⟨t, ws.map V.str, rfl, upd_same, by rw [List.length_map]; omega, pair_strs⟩, fun H2 e2 => ?_⟩
    have hf : hasF (.tup (ws.map .str)) = true := hf
    rw [hf]
    exact q' H2 ((Ex.new ht).trans e2)
end
end Pk

namespace Pk
open PySem PySem.Spec PyProof.Rows L2 Ssb
open Evl (Ex Ev EvT EvL EvA EvU)
open TL (tl ext_tl tl_append tl_join joinL join_eq split_join len_tl tl_strSub_end)
/-! ### read_lines -/
section
variable {K : PySem.W.Frag} {σ : L2.St} {H : Hp} {ta tb te tl_ : TE} {tt : TT} {D : Ends} {tz tu : TS}
/-- for i, x in enumerate(xs) -/
theorem q_enumL {j1 j2 : Nat} {a : Addr} {xs : List V} (h : Ev te σ H (.ref a)) (ha : H a = some (.lst xs)) (Pv : Nat → L2.St → Hp → Prop) (h0 : ∀ H1, Ex H H1 → Pv 0 σ H1) (hG : ∀ i σ' H', Pv i σ' H' → H' a = some (.lst xs))
    (hs : ∀ (i : Nat) σ' H' (x : V), xs[i]? = some x → Pv i σ' H' → ∀ H2, Ex H' H2 → tu { D with nx := Pv (i + 1), ct := Pv (i + 1), bk := tz D } ((σ'.set j1 (some (.int (i : Int)))).set j2 (some x)) H2)
    (hd : ∀ σ' H', Pv xs.length σ' H' → tz D σ' H') :
    tSeq (tFor (iEnum K (tCons te tNil)) (gTup K 2 (gCons (gName j1) (gCons (gName j2) gNil))) tu) tz D σ H :=
  h H (Ex.refl _) _ fun H1 e1 => ⟨a, xs, rfl, Evl.sq_of (e1 _ _ ha), for_it walk_enum Pv (h0 _ e1) (fun i σ' H' _ p => Evl.sq_of (hG i σ' H' p)) (fun i x σ' H0 H' hi pv y => by
    obtain ⟨Tq, x1, y1, rfl, nT, rfl, hx1, hy1⟩ := y
    have hx1 : V.int (i : Int) = x1 := Option.some.inj hx1
    subst hx1
    exact ⟨Tq, _, rfl, Evl.st_of upd_same, rfl, _, _, rfl, _, _, rfl, rfl, hs i σ' H0 y1 hy1 pv _ (Ex.new nT)⟩) hd⟩
theorem if_true {Q : VK} (h : EvT tt σ H true) (k : ∀ H1, Ex H H1 → ta σ H1 Q) : tIf tt ta tb σ H Q := h H (Ex.refl _) _ fun H1 e1 => by
  show if true = true then ta σ H1 Q else tb σ H1 Q
  rw [if_pos rfl]
  exact k H1 e1
theorem el_split {a b : Str} (h : Ev te σ H (.str a)) (hb : (b.length == 0) = false) (hz : a.length + 2 ≤ 100000) : EvL (tBM K "str" (fun x xs H Q => ∃ a b, x = .str a ∧ xs = [.str b] ∧ (b.length == 0) = false ∧ a.length + 2 ≤ sizeLine ∧ rNewStrs (Txt.split a b) H Q) te (tCons (tC (.str b)) tNil)) σ H ((Txt.split a b).map V.str) := fun H1 e Q q =>
  h H1 e _ fun H2 e2 => ⟨rfl, a, b, rfl, rfl, hb, Evl.sz_of hz, fun p hp => q p _ (Evl.fresh_back e2 hp) (e2.trans (Ex.new hp)) upd_same⟩
theorem ev_lstrip {a b : Str} (h : Ev te σ H (.str a)) (hz : a.length ≤ 100000) : Ev (tBM K "str" (fun x xs H Q => ∃ a b, x = .str a ∧ xs = [.str b] ∧ a.length ≤ sizeLine ∧ Q (.str (Txt.lstripChars a b)) H) te (tCons (tC (.str b)) tNil)) σ H (.str (Txt.lstripChars a b)) := fun H1 e Q q =>
  h H1 e _ fun H2 e2 => ⟨rfl, a, b, rfl, rfl, Evl.sz_of hz, q H2 e2⟩
theorem ev_neg {i : Int} : Ev (tUn (rU fun i => .int (-i)) (tC (.int i))) σ H (.int (-i)) := fun H1 e Q q => ⟨i, rfl, q H1 (Ex.refl _)⟩
end
theorem cut_last {xs : List V} {y : V} : cutV (xs ++ [y]) none (some (-1)) = xs := by
  unfold cutV
  rw [HT.sIx_none]
  have e : HT.sIx (xs ++ [y]).length (xs ++ [y]).length (some (-1)) = xs.length := by
    show (if (-1 : Int) < 0 then ((-1 : Int) + ((xs ++ [y]).length : Int)).toNat else min (-1 : Int).toNat (xs ++ [y]).length) = _
    rw [if_pos (by decide), List.length_append, List.length_singleton]
    omega
  rw [e, List.drop_zero, Nat.sub_zero, List.take_left]
theorem at_last {xs : List V} {y : V} : atI (xs ++ [y]) (-1) = some y := by
  have l : (xs ++ [y]).length = xs.length + 1 := by rw [List.length_append, List.length_singleton]
  unfold atI ixN
  rw [if_neg (by decide), l]
  have : ((-1 : Int) + ((xs.length + 1 : Nat) : Int)) = (xs.length : Int) := by omega
  simp only [this]
  rw [if_pos (by omega)]
  simp
theorem rd_ok {q : Nat × List Str} (h : rdRow q) : okRow q := ⟨h.1, h.2.2.1, fun w hw => (h.2.1 w hw).2.1⟩
/-- what a row is read as -/
def LnR (H : Hp) (q : Nat × List Str) (z : V) : Prop := ∃ t a, z = .ref t ∧ H t = some (.tup [.int (q.1 : Int), .ref a]) ∧ H a = some (.lst (q.2.map V.str))
theorem LnR.ex {H H' : Hp} {q : Nat × List Str} {z : V} (e : Ex H H') (h : LnR H q z) : LnR H' q z := by
  obtain ⟨t, a, h1, h2, h3⟩ := h
  exact ⟨t, a, h1, e _ _ h2, e _ _ h3⟩
def LnRq (q0 : Addr) (H : Hp) (q : Nat × List Str) (z : V) : Prop := ∃ t a, z = .ref t ∧ H t = some (.tup [.int (q.1 : Int), .ref a]) ∧ a ≠ q0 ∧ H a = some (.lst (q.2.map V.str))
section
variable {P : Program} {w : World} {K : PySem.W.Frag} {mg : Str → Option Value} {base : Heap} {C_Shape C_SHAPES : Addr}
def spReadL (fs : Addr) : Sp := fun vs H Q _ => ∃ (rs : List (Nat × List Str)), vs = [.str (catT (rs.map rowT)), .ref fs] ∧ (∀ q ∈ rs, rdRow q) ∧ rs.length ≤ 40 ∧ ∀ H' q zs, Ex H H' → H q = none → H' q = some (.lst zs) → Paired (LnR H') rs zs → Q (.ref q) H'
theorem ok_read_lines (T : Txt K mg C_Shape C_SHAPES) (R : Prg K mg C_Shape C_SHAPES) {fs : Addr} (hfs : mg "shape_form" = some (.ref fs)) : ∃ f fd, Fn P w K mg base "read_lines" 4 ["text", "form_of"] (spReadL fs) f fd := by
  obtain ⟨fs', fsd, G_shape_form⟩ := ok_shape_form (P := P) (w := w) (base := base) T R
  have e := hfs.symm.trans G_shape_form.at_
  cases e
  obtain ⟨f, fd, at_, F, kp⟩ := R.read_lines
  refine ⟨f, fd, F.ok sc_read_lines (fun vs H Q E h => ?_) (fun cdv A outer s H vs Q E hr h => ?_), at_, kp, F.binds (fun _ _ _ _ _ _ us hl => match us, hl with | [_, _], _ => rfl)⟩
  · obtain ⟨rs, rfl, _⟩ := h; rfl
  · obtain ⟨rs, rfl, hrs, l40, k⟩ := h
    refine ⟨_, (pss_cons (ps_set (i := 2) sc_read_lines.nd rfl (Or.inl rfl) (pe_lst pa_nil))
  (pss_cons (ps_set (i := 3) sc_read_lines.nd rfl (Or.inl rfl) (show PE _ _ (tBM K _ _ _ _) from pe_bm PySem.F.plainAttrs_str PySem.F.slot_str_split PySem.F.type_str_split mt_split (pv 0) (pa_cons pe_str pa_nil)))
  (pss_cons (ps_if (pt_cmpR op_eq (pe_ix (r := rIxL K) ix_list (pv 3) (pe_un un_neg pe_int) (fun _ _ => rfl)) pe_str (nomark _)) (pss_one (ps_set (i := 3) sc_read_lines.nd rfl (Or.inl rfl) (pe_slice (r := rSlL K) sl_list (pv 3) po_none (po_some (pe_un un_neg pe_int))))) pss_nil)
  (pss_cons (ps_for PassesOwn.never rfl (pi_enum (by rfl) T.enumerate (pa_cons (pv 3) pa_nil)) (show PG _ _ (gTup K 2 _) from pg_tup (n := 2) rfl (pgs_cons (pg_name (i := 4) sc_read_lines.nd rfl (Or.inl rfl)) (pgs_cons (pg_name (i := 5) sc_read_lines.nd rfl (Or.inl rfl)) pgs_nil)))
    (pss_cons (ps_set (i := 6) sc_read_lines.nd rfl (Or.inl rfl) (show PE _ _ (tBM K _ _ _ _) from pe_bm PySem.F.plainAttrs_str PySem.F.slot_str_lstrip PySem.F.type_str_lstrip mt_lstripChars (pv 5) (pa_cons pe_str pa_nil)))
  (pss_cons (ps_set (i := 7) sc_read_lines.nd rfl (Or.inl rfl) (pe_op op_sub (pe_callB (r := rLenA K) call_len (by rfl) T.len (by decide +kernel) (pa_cons (pv 5) pa_nil)) (pe_callB (r := rLenA K) call_len (by rfl) T.len (by decide +kernel) (pa_cons (pv 6) pa_nil))))
  (pss_cons (ps_set (i := 8) sc_read_lines.nd rfl (Or.inl rfl) (pe_ifExp (pt_cmpR op_eq (pe_op op_odd (pv 7) pe_int) pe_int (nomark _)) (pe_callL (i := 1) G_shape_form.ok (hr.mono (by omega)) rfl (by first | exact Or.inl rfl | exact Or.inr (Or.inl rfl) | exact Or.inr (Or.inr rfl)) G_shape_form.kp G_shape_form.bd .nil pass0 (pa_cons (show PE _ _ (tBM K _ _ _ _) from pe_bm PySem.F.plainAttrs_str PySem.F.slot_str_split PySem.F.type_str_split mt_split (pv 6) (pa_cons pe_str pa_nil)) pa_nil)) pe_non))
  (pss_cons (ps_if (pt_cmpR op_isN (pv 8) pe_non (nomark _)) pss_never pss_nil)
  (pss_one (ps_expr (show PE _ _ (tBM K _ _ _ _) from pe_bm PySem.F.plainAttrs_list PySem.F.slot_list_append PySem.F.type_list_append mt_append (pv 2) (pa_cons (pe_tup (pa_cons (pe_op op_fdiv (pv 7) pe_int) (pa_cons (pv 8) pa_nil))) pa_nil)))))))))
  (pss_one (ps_ret (pv 2))))))), ?_⟩
    have ltx : (catT (rs.map rowT)).length ≤ 3320 := by
      have := rowTs_len fun q hq => rd_ok (hrs q hq)
      omega
    refine Evl.q_asgL (xs := []) (Evl.el_lst Evl.ea_nil (Nat.zero_le _)) fun q H1 hq0 e1 hq1 => ?_
    refine Evl.q_asgL (el_split (Evl.ev_var rfl) (by decide +kernel) (by omega)) fun r0 H2 hr0 e2 hr2 => ?_
    rw [split_rows hrs, List.map_append] at hr2
    refine Evl.q_when (b := true) (Evl.et_is (Evl.et_test (Evl.ev_op (Evl.ev_op (Evl.ev_var rfl) ev_neg (Evl.rv_ixL (Evl.sq_of hr2) at_last)) Evl.ev_c (Evl.rv_eq rfl))) (by rfl)) (fun _ H3 e3 => ?_) fun h => nomatch h
    refine Evl.s_asgL (Evl.el_sl (Evl.ev_var rfl) Evl.eo_none (Evl.eo_some ev_neg) (Evl.sq_of (e3 _ _ hr2))) fun r1 H4 hr1 e4 hr4 => ?_
    have cl : cutV ((rs.map fun q => lineW q.1 q.2).map V.str ++ [Str.empty].map V.str) none (some (-1)) = (rs.map fun q => lineW q.1 q.2).map V.str := cut_last
    rw [cl] at hr4
    have e04 := ((e1.trans e2).trans e3).trans e4
    have hq4 := ((e2.trans e3).trans e4) _ _ hq1
    have qr : q ≠ r1 := fun e => by rw [← e, (e2.trans e3) _ _ hq1] at hr1; cases hr1
    refine q_enumL (a := r1) (xs := (rs.map fun q => lineW q.1 q.2).map V.str) (Evl.ev_var rfl) hr4 (fun i σ' Hx => ∃ (zs : List V) (o4 o5 o6 o7 o8 : Option V), σ' = [some (.str (catT (rs.map rowT))), some (.ref fs), some (.ref q), some (.ref r1), o4, o5, o6, o7, o8] ∧ Ex H Hx ∧ Hx r1 = some (.lst ((rs.map fun q => lineW q.1 q.2).map V.str)) ∧ Hx q = some (.lst zs) ∧ Paired (LnRq q Hx) (rs.take i) zs)
      (fun H5 e5 => ⟨[], _, _, _, _, _, rfl, e04.trans e5, e5 _ _ hr4, e5 _ _ hq4, .nil⟩) (fun i σ' Hx p => ?_) (fun i σ' Hx x hx pv H5 e5 => ?_) fun σ' Hx pv => ?_
    · obtain ⟨_, _, _, _, _, _, _, _, h, _⟩ := p; exact h
    · obtain ⟨zs, o4, o5, o6, o7, o8, rfl, ex, hrx, hqx, pz⟩ := pv
      rw [List.getElem?_map, List.getElem?_map] at hx
      cases hi : rs[i]? with
      | none => rw [hi] at hx; cases hx
      | some row =>
      rw [hi] at hx
      obtain rfl : x = V.str (lineW row.1 row.2) := (Option.some.inj hx).symm
      have rd := hrs row (List.mem_of_getElem? hi)
      have il : i < 40 := by have := (List.getElem?_eq_some_iff.mp hi).1; omega
      have lz : zs.length ≤ 40 := by
        have := pair_len pz
        rw [List.length_take] at this
        omega
      have lw := (line_len (rd_ok rd)).1
      have lws := ws_len (rd_ok rd)
      have ne := rd_ne rd
      have els : (lineW row.1 row.2).length = 2 * row.1 + (wsT row.2).length := by rw [len_tl, tl_line, List.length_append, List.length_replicate, ← len_tl]
      refine Evl.q_asg (v := .str (wsT row.2)) (Evl.ev_is (ev_lstrip (b := (" " : Str)) (Evl.ev_var rfl) (by omega)) (congrArg V.str (lstrip_line ne rd.2.1))) fun H6 e6 => ?_
      refine Evl.q_asg (v := .int ((2 * row.1 : Nat) : Int)) (Evl.ev_is (Evl.ev_op (ev_lenS (Evl.ev_var rfl) (by omega)) (ev_lenS (Evl.ev_var rfl) (by omega)) Evl.rv_I0) (by
        show V.int (((lineW row.1 row.2).length : Int) - ((wsT row.2).length : Int)) = _
        refine congrArg V.int ?_
        omega)) fun H7 e7 => ?_
      have e57 := e5.trans (e6.trans e7)
      refine q_go (if_true (Evl.et_is (Evl.et_test (Evl.ev_op (Evl.ev_op (z := .int 0) (Evl.ev_var rfl) Evl.ev_c (fun Hz ez Q' q' => ⟨2 * row.1, rfl, rfl, by rw [Nat.mul_mod_right]; exact q' Hz (Ex.refl _)⟩)) Evl.ev_c (Evl.rv_eq rfl))) (by rfl)) fun H8 e8 => ⟨rfl, ?_⟩)
      refine el_split (K := K) (b := (" " : Str)) (Evl.ev_var rfl) (by decide +kernel) (by omega) H8 (Ex.refl _) _ fun aw H9 haw e9 hw9 => ?_
      rw [split_words ne rd.2.1] at hw9
      refine ⟨aw, row.2, rfl, hw9, ⟨Nat.zero_le _, rd.2⟩, fun H10 e10 => ?_⟩
      have e5x := e57.trans ((e8.trans e9).trans e10)
      have hqx' := e5x _ _ hqx
      refine Evl.q_when (b := false) (Evl.et_is (Evl.et_test (Evl.ev_op (Evl.ev_var rfl) Evl.ev_c rv_isN)) (by simp)) (fun h => nomatch h) fun _ H11 e11 => ?_
      refine Evl.s_appU (ys := [.int (row.1 : Int), .ref aw]) (e11 _ _ hqx') (Evl.ev_var rfl) (Evl.eu_tup (Evl.ea_cons (Evl.ev_is (Evl.ev_op (Evl.ev_var rfl) Evl.ev_c (Evl.rv_I ⟨by decide, by decide⟩)) (by
        show V.int (((2 * row.1 : Nat) : Int) / 2) = _
        refine congrArg V.int ?_
        omega)) (Evl.ea_cons (Evl.ev_var rfl) Evl.ea_nil)) (by show 2 ≤ 100000; decide)) (by omega) fun tp H12 htp e12 h12 => ?_
      have eA := e5x.trans (e11.trans e12)
      have hqF := (e11.trans e12) _ _ hqx'
      have nq : ∀ {b : Addr} {o : HO}, H12 b = some o → b ≠ q → (upd H12 q (.lst (zs ++ [.ref tp]))) b = some o := fun hb n => by rw [upd_ne n]; exact hb
      have hawF := ((e10.trans e11).trans e12) _ _ hw9
      have naw : aw ≠ q := fun e => by rw [e, (e57.trans e8) _ _ hqx] at haw; cases haw
      have ntp : tp ≠ q := fun e => by rw [e, e11 _ _ hqx'] at htp; cases htp
      refine ⟨zs ++ [.ref tp], _, _, _, _, _, rfl, Ex.mut (ex.trans eA) hq0, nq (eA _ _ hrx) (Ne.symm qr), upd_same, ?_⟩
      rw [take_snoc hi]
      refine pair_snoc (pair_imp pz fun r z h => ?_) ⟨tp, aw, rfl, nq h12 ntp, naw, nq hawF naw⟩
      obtain ⟨t, a, h1, h2, h3, h4⟩ := h
      have ht := eA _ _ h2
      exact ⟨t, a, h1, nq ht (fun e => by rw [e, hqF] at ht; cases ht), h3, nq (eA _ _ h4) h3⟩
    · obtain ⟨zs, o4, o5, o6, o7, o8, rfl, ex, hrx, hqx, pz⟩ := pv
      have e : ((rs.map fun q => lineW q.1 q.2).map V.str).length = rs.length := by rw [List.length_map, List.length_map]
      rw [e, List.take_length] at pz
      exact Evl.s_ret (Evl.ev_var rfl) fun H9 e9 => k H9 q zs (ex.trans e9) hq0 (e9 _ _ hqx) (pair_imp pz fun r z h => by
        obtain ⟨t, a, h1, h2, _, h4⟩ := h
        exact ⟨t, a, h1, e9 _ _ h2, e9 _ _ h4⟩)
end
end Pk

namespace Pk
open PySem PySem.Spec PyProof.Rows L2 Ssb
open Evl (Ex Ev EvT EvL EvA EvU)
/-! ### a shape while it is read -/
theorem disp_go {t1 t2 : TE} {σ : L2.St} {H : Hp} {Q : VK} (h1 : ∀ σ H (Q : VK), (∀ p, H p = none → Q (.ref p) (upd H p (.dK []))) → t1 σ H Q) (h2 : ∀ σ H (Q : VK), (∀ p, H p = none → Q (.ref p) (upd H p (.dK []))) → t2 σ H Q)
    (k : ∀ p F I H', Ex H H' → H p = none → H F = none → H I = none → p ≠ F → p ≠ I → F ≠ I → H' p = some (.dK [(Sum.inr "fields", .ref F), (Sum.inr "inner", .ref I)]) → H' F = some (.dK []) → H' I = some (.dK []) → Q (.ref p) H') :
    tDisp [(tC (.str "fields"), t1), (tC (.str "inner"), t2)] σ H Q := by
  intro p hp
  have ep := Ex.new (o := .dK []) hp
  refine h1 _ _ _ fun F hF => ?_
  have eF := Ex.new (o := .dK []) hF
  refine h2 _ _ _ fun I hI => ?_
  have eI := Ex.new (o := .dK []) hI
  have hp1 : (upd H p (.dK [])) p = some (.dK []) := upd_same
  have hF1 := eI _ _ (upd_same (H := upd H p (.dK [])) (a := F) (o := .dK []))
  have hI1 : (upd (upd (upd H p (.dK [])) F (.dK [])) I (.dK [])) I = some (.dK []) := upd_same
  have pF : p ≠ F := fun e => by rw [← e, hp1] at hF; cases hF
  have pI : p ≠ I := fun e => by rw [← e, eF _ _ hp1] at hI; cases hI
  have FI : F ≠ I := fun e => by
    rw [← e] at hI
    have : (upd (upd H p (.dK [])) F (.dK [])) F = some (.dK []) := upd_same
    rw [this] at hI; cases hI
  have hp3 := (eF.trans eI) _ _ hp1
  refine ⟨hp3, [(Sum.inr "fields", .ref F), (Sum.inr "inner", .ref I)], rfl, by show 2 ≤ 15; decide, ?_⟩
  rw [merge_2 ne_fi]
  exact k p F I _ (((ep.trans eF).trans eI).mut hp) hp (Evl.fresh_back ep hF) (Evl.fresh_back (ep.trans eF) hI) pF pI FI upd_same (by rw [upd_ne (Ne.symm pF)]; exact hF1) (by rw [upd_ne (Ne.symm pI)]; exact hI1)
def NodeAt (H : Hp) (n fa ia : Addr) : Prop := H n = some (.dK [(Sum.inr "fields", .ref fa), (Sum.inr "inner", .ref ia)])
def FinE (H : Hp) (S : Addr → Prop) (p : Str × Fl × List (Str × Fl)) (e : Key × V) : Prop := e.1 = Sum.inr p.1 ∧ Rep H 6 S (elD p.2.1 p.2.2) e.2
def FldE (H : Hp) (p : Str × List Str) (e : Key × V) : Prop := e.1 = Sum.inr p.1 ∧ ∃ t, e.2 = .ref t ∧ H t = some (.tup (p.2.map V.str))
theorem FldE.ex {H H' : Hp} {p : Str × List Str} {e : Key × V} (x : Ex H H') (h : FldE H p e) : FldE H' p e := ⟨h.1, let ⟨t, h1, h2⟩ := h.2; ⟨t, h1, x _ _ h2⟩⟩
theorem FldE.upd {H : Hp} {a : Addr} {es : List (Key × V)} {u : HO} {p : Str × List Str} {e : Key × V} (ha : H a = some (.dK es)) (h : FldE H p e) : FldE (L2.upd H a u) p e := ⟨h.1, let ⟨t, h1, h2⟩ := h.2; ⟨t, h1, by rw [upd_ne (fun z => by rw [z, ha] at h2; cases h2)]; exact h2⟩⟩
theorem FldE.updL {H : Hp} {a : Addr} {es : List V} {u : HO} {p : Str × List Str} {e : Key × V} (ha : H a = some (.lst es)) (h : FldE H p e) : FldE (L2.upd H a u) p e := ⟨h.1, let ⟨t, h1, h2⟩ := h.2; ⟨t, h1, by rw [upd_ne (fun z => by rw [z, ha] at h2; cases h2)]; exact h2⟩⟩
theorem fld_rep {H : Hp} {n : Nat} {S : Addr → Prop} {f : Fl} {fes : List (Key × V)} {a : Addr} (ha : H a = some (.dK fes)) (pf : Paired (FldE H) f fes) (sa : S a) (l : f.length ≤ 10) (lw : ∀ p ∈ f, p.2.length ≤ 3) : Rep H (n + 3) S (flD f) (.ref a) := by
  refine ⟨a, fes, rfl, sa, ha, by rw [List.length_map]; omega, ?_⟩
  clear ha sa l
  induction pf with
  | nil => exact .nil
  | @cons p e f fes h t ih =>
    obtain ⟨h1, t1, h2, h3⟩ := h
    refine .cons ⟨h1, ?_⟩ (ih fun q hq => lw q (List.mem_cons_of_mem _ hq))
    rw [h2]
    have := lw p List.mem_cons_self
    exact ⟨t1, _, rfl, h3, by rw [List.length_map]; omega, pair_strs⟩
def S0d (H0 H : Hp) (q L : Addr) (cs : Sh) (fl fl1 : List Str) (rest : List (Nat × List Str)) : Prop := ∃ (dn todo : Sh) (es : List (Key × V)) (S : Addr → Prop) (fl2 : List Str), rest = fl2.map (fun x => (0, [("flag" : Str), x])) ++ todo.flatMap oLn ∧ fl1 ++ fl2 = fl ∧ dn ++ todo = cs ∧ H L = some (.dK es) ∧ Paired (FinE H S) dn es ∧ ∀ b, S b → H0 b = none ∧ b ∉ [q, L]
/-- what has been read, at the places where it stands -/
inductive Bld (H0 H : Hp) (q R L : Addr) (cs : Sh) (fl : List Str) : List Str → List Addr → List (Nat × List Str) → Prop
  | s0 (more : List Addr) (fl1 : List Str) (rest : List (Nat × List Str)) (h : S0d H0 H q L cs fl fl1 rest) : Bld H0 H q R L cs fl fl1 (R :: more) rest
  | s1 (dn todo : Sh) (k : Str) (f1 f2 : Fl) (inn : List (Str × Fl)) (es fes : List (Key × V)) (S : Addr → Prop) (n1 fa ia : Addr) (more : List Addr) (h2 : dn ++ (k, f1 ++ f2, inn) :: todo = cs) (h3 : H L = some (.dK (es ++ [(Sum.inr k, .ref n1)]))) (h4 : Paired (FinE H S) dn es) (h5 : ∀ b, S b → H0 b = none ∧ b ∉ [q, L, n1, fa, ia])
      (h6 : NodeAt H n1 fa ia) (h7 : H fa = some (.dK fes)) (h8 : Paired (FldE H) f1 fes) (h9 : H ia = some (.dK [])) (hn : [R, L, n1, fa, ia].Nodup) (g1 : H0 n1 = none) (g2 : H0 fa = none) (g3 : H0 ia = none) : Bld H0 H q R L cs fl fl (R :: n1 :: more) (fLn 1 f2 ++ (inn.flatMap (iLn 1) ++ todo.flatMap oLn))
  | s2 (dn todo : Sh) (k k2 : Str) (f ga gb : Fl) (es fes ges : List (Key × V)) (S : Addr → Prop) (n1 fa ia n2 fb ib : Addr) (more : List Addr) (h2 : dn ++ (k, f, [(k2, ga ++ gb)]) :: todo = cs) (h3 : H L = some (.dK (es ++ [(Sum.inr k, .ref n1)]))) (h4 : Paired (FinE H S) dn es) (h5 : ∀ b, S b → H0 b = none ∧ b ∉ [q, L, n1, fa, ia, n2, fb, ib])
      (h6 : NodeAt H n1 fa ia) (h7 : H fa = some (.dK fes)) (h8 : Paired (FldE H) f fes) (h9 : H ia = some (.dK [(Sum.inr k2, .ref n2)])) (h10 : NodeAt H n2 fb ib) (h11 : H fb = some (.dK ges)) (h12 : Paired (FldE H) ga ges) (h13 : H ib = some (.dK [])) (hn : [R, L, n1, fa, ia, n2, fb, ib].Nodup) (g1 : H0 n1 = none) (g2 : H0 fa = none) (g3 : H0 ia = none) (g4 : H0 n2 = none) (g5 : H0 fb = none) (g6 : H0 ib = none) :
      Bld H0 H q R L cs fl fl (R :: n1 :: n2 :: more) (fLn 2 gb ++ todo.flatMap oLn)
theorem FinE.ex {H H' : Hp} {S : Addr → Prop} {p : Str × Fl × List (Str × Fl)} {e : Key × V} (x : Ex H H') (h : FinE H S p e) : FinE H' S p e := ⟨h.1, rep_ex x h.2⟩
theorem S0d.ex {H0 H H' : Hp} {q L : Addr} {cs : Sh} {fl fl1 : List Str} {rest : List (Nat × List Str)} (x : Ex H H') (b : S0d H0 H q L cs fl fl1 rest) : S0d H0 H' q L cs fl fl1 rest := by
  obtain ⟨dn, todo, es, S, fl2, h0, h1, h2, h3, h4, h5⟩ := b
  exact ⟨dn, todo, es, S, fl2, h0, h1, h2, x _ _ h3, pair_imp h4 fun a b h => h.ex x, h5⟩
theorem Bld.ex {H0 H H' : Hp} {q R L : Addr} {cs : Sh} {fl fl1 : List Str} {ns : List Addr} {rest : List (Nat × List Str)} (x : Ex H H') (b : Bld H0 H q R L cs fl fl1 ns rest) : Bld H0 H' q R L cs fl fl1 ns rest := by
  cases b with
  | s0 more _ _ h => exact .s0 more _ _ (h.ex x)
  | s1 dn todo k f1 f2 inn es fes S n1 fa ia more h2 h3 h4 h5 h6 h7 h8 h9 hn g1 g2 g3 => exact .s1 dn todo k f1 f2 inn es fes S n1 fa ia more h2 (x _ _ h3) (pair_imp h4 fun a b h => h.ex x) h5 (x _ _ h6) (x _ _ h7) (pair_imp h8 fun a b h => h.ex x) (x _ _ h9) hn g1 g2 g3
  | s2 dn todo k k2 f ga gb es fes ges S n1 fa ia n2 fb ib more h2 h3 h4 h5 h6 h7 h8 h9 h10 h11 h12 h13 hn g1 g2 g3 g4 g5 g6 => exact .s2 dn todo k k2 f ga gb es fes ges S n1 fa ia n2 fb ib more h2 (x _ _ h3) (pair_imp h4 fun a b h => h.ex x) h5 (x _ _ h6) (x _ _ h7) (pair_imp h8 fun a b h => h.ex x) (x _ _ h9) (x _ _ h10) (x _ _ h11) (pair_imp h12 fun a b h => h.ex x) (x _ _ h13) hn g1 g2 g3 g4 g5 g6
theorem sub2 {x q L : Addr} {l : List Addr} (h : x ∈ [q, L]) : x ∈ q :: L :: l := by
  rcases List.mem_cons.mp h with e | h
  · rw [e]; exact List.mem_cons_self
  · rw [List.mem_singleton.mp h]; exact List.mem_cons_of_mem _ List.mem_cons_self
theorem two_no {x q L : Addr} (h1 : x ≠ q) (h2 : x ≠ L) : x ∉ [q, L] := fun h => by
  rcases List.mem_cons.mp h with e | h
  · exact h1 e
  · exact h2 (List.mem_singleton.mp h)
/-- a list of the shape that is whole -/
theorem close1 {H0 H : Hp} {q R L : Addr} {lq : List V} {cs : Sh} {fl : List Str} {dn todo : Sh} {k : Str} {f1 : Fl} {es fes : List (Key × V)} {S : Addr → Prop} {n1 fa ia : Addr} (okc : ∀ p ∈ cs, okFl p.2.1) (hq : H q = some (.lst lq)) (h2 : dn ++ (k, f1, []) :: todo = cs) (h3 : H L = some (.dK (es ++ [(Sum.inr k, .ref n1)]))) (h4 : Paired (FinE H S) dn es) (h5 : ∀ b, S b → H0 b = none ∧ b ∉ [q, L, n1, fa, ia])
      (h6 : NodeAt H n1 fa ia) (h7 : H fa = some (.dK fes)) (h8 : Paired (FldE H) f1 fes) (h9 : H ia = some (.dK [])) (hn : [R, L, n1, fa, ia].Nodup) (g1 : H0 n1 = none) (g2 : H0 fa = none) (g3 : H0 ia = none) : S0d H0 H q L cs fl fl (todo.flatMap oLn) := by
  have okf := okc (k, f1, []) (by rw [← h2]; exact List.mem_append_right _ List.mem_cons_self)
  simp only [List.nodup_cons, List.mem_cons, List.not_mem_nil, or_false, not_or] at hn
  obtain ⟨⟨r1, r2, r3, r4⟩, ⟨l1, l2, l3⟩, ⟨n2, n3⟩, f2, _⟩ := hn
  have nq : ∀ {x : Addr} {d : List (Key × V)}, H x = some (.dK d) → x ≠ q := fun hx e => by rw [e, hq] at hx; cases hx
  refine ⟨dn ++ [(k, f1, [])], todo, es ++ [(Sum.inr k, .ref n1)], (fun b => S b ∨ b = n1 ∨ b = fa ∨ b = ia), [], rfl, List.append_nil _, (by rw [List.append_assoc]; exact h2), h3, (pair_snoc (pair_imp h4 fun a b h => ⟨h.1, rep_S (fun b hb => .inl hb) h.2⟩) ⟨rfl, ?_⟩), fun b hb => ?_⟩
  · refine ⟨n1, _, rfl, .inr (.inl rfl), h6, by show 2 ≤ 100000; decide, .cons ⟨rfl, fld_rep (n := 2) h7 h8 ⟨.inr (.inr (.inl rfl)), Ne.symm n2⟩ (Nat.le_trans okf.1 (by decide)) fun p hp => (okf.2.2 p hp).2.2.1⟩ (.cons ⟨rfl, ia, [], rfl, ⟨.inr (.inr (.inr rfl)), Ne.symm n3⟩, h9, by show 0 ≤ 100000; decide, .nil⟩ .nil)⟩
  · rcases hb with hb | rfl | rfl | rfl
    · exact ⟨(h5 b hb).1, fun e => (h5 b hb).2 (sub2 e)⟩
    · exact ⟨g1, two_no (nq h6) (Ne.symm l1)⟩
    · exact ⟨g2, two_no (nq h7) (Ne.symm l2)⟩
    · exact ⟨g3, two_no (nq h9) (Ne.symm l3)⟩
theorem close2 {H0 H : Hp} {q R L : Addr} {lq : List V} {cs : Sh} {fl : List Str} {dn todo : Sh} {k k2 : Str} {f ga : Fl} {es fes ges : List (Key × V)} {S : Addr → Prop} {n1 fa ia n2 fb ib : Addr} (okc : ∀ p ∈ cs, okFl p.2.1 ∧ ∀ q ∈ p.2.2, okFl q.2) (hq : H q = some (.lst lq)) (h2 : dn ++ (k, f, [(k2, ga)]) :: todo = cs) (h3 : H L = some (.dK (es ++ [(Sum.inr k, .ref n1)]))) (h4 : Paired (FinE H S) dn es) (h5 : ∀ b, S b → H0 b = none ∧ b ∉ [q, L, n1, fa, ia, n2, fb, ib])
      (h6 : NodeAt H n1 fa ia) (h7 : H fa = some (.dK fes)) (h8 : Paired (FldE H) f fes) (h9 : H ia = some (.dK [(Sum.inr k2, .ref n2)])) (h10 : NodeAt H n2 fb ib) (h11 : H fb = some (.dK ges)) (h12 : Paired (FldE H) ga ges) (h13 : H ib = some (.dK [])) (hn : [R, L, n1, fa, ia, n2, fb, ib].Nodup) (g1 : H0 n1 = none) (g2 : H0 fa = none) (g3 : H0 ia = none) (g4 : H0 n2 = none) (g5 : H0 fb = none) (g6 : H0 ib = none) : S0d H0 H q L cs fl fl (todo.flatMap oLn) := by
  obtain ⟨okf, oki⟩ := okc (k, f, [(k2, ga)]) (by rw [← h2]; exact List.mem_append_right _ List.mem_cons_self)
  have okg : okFl ga := oki _ List.mem_cons_self
  simp only [List.nodup_cons, List.mem_cons, List.not_mem_nil, or_false, not_or] at hn
  obtain ⟨⟨r1, r2, r3, r4, r5, r6, r7⟩, ⟨l1, l2, l3, l4, l5, l6⟩, ⟨n3, n4, n5, n6, n7⟩, ⟨f2, f3, f4, f5⟩, ⟨i1, i2, i3⟩, ⟨m1, m2⟩, q1, _⟩ := hn
  have nq : ∀ {x : Addr} {d : List (Key × V)}, H x = some (.dK d) → x ≠ q := fun hx e => by rw [e, hq] at hx; cases hx
  refine ⟨dn ++ [(k, f, [(k2, ga)])], todo, es ++ [(Sum.inr k, .ref n1)], (fun b => S b ∨ b = n1 ∨ b = fa ∨ b = ia ∨ b = n2 ∨ b = fb ∨ b = ib), [], rfl, List.append_nil _, (by rw [List.append_assoc]; exact h2), h3, (pair_snoc (pair_imp h4 fun a b h => ⟨h.1, rep_S (fun b hb => .inl hb) h.2⟩) ⟨rfl, ?_⟩), fun b hb => ?_⟩
  · refine ⟨n1, _, rfl, .inr (.inl rfl), h6, by show 2 ≤ 100000; decide, .cons ⟨rfl, fld_rep (n := 2) h7 h8 ⟨.inr (.inr (.inl rfl)), Ne.symm n3⟩ (Nat.le_trans okf.1 (by decide)) fun p hp => (okf.2.2 p hp).2.2.1⟩ (.cons ⟨rfl, ia, _, rfl, ⟨.inr (.inr (.inr (.inl rfl))), Ne.symm n4⟩, h9, by show 1 ≤ 100000; decide, .cons ⟨rfl, ?_⟩ .nil⟩ .nil)⟩
    refine ⟨n2, _, rfl, ⟨⟨.inr (.inr (.inr (.inr (.inl rfl)))), Ne.symm n5⟩, Ne.symm i1⟩, h10, by show 2 ≤ 100000; decide, .cons ⟨rfl, fld_rep (n := 0) h11 h12 ⟨⟨⟨.inr (.inr (.inr (.inr (.inr (.inl rfl))))), Ne.symm n6⟩, Ne.symm i2⟩, Ne.symm m1⟩ (Nat.le_trans okg.1 (by decide)) fun p hp => (okg.2.2 p hp).2.2.1⟩ (.cons ⟨rfl, ib, [], rfl, ⟨⟨⟨.inr (.inr (.inr (.inr (.inr (.inr rfl))))), Ne.symm n7⟩, Ne.symm i3⟩, Ne.symm m2⟩, h13, by show 0 ≤ 100000; decide, .nil⟩ .nil)⟩
  · rcases hb with hb | rfl | rfl | rfl | rfl | rfl | rfl
    · exact ⟨(h5 b hb).1, fun e => (h5 b hb).2 (sub2 e)⟩
    · exact ⟨g1, two_no (nq h6) (Ne.symm l1)⟩
    · exact ⟨g2, two_no (nq h7) (Ne.symm l2)⟩
    · exact ⟨g3, two_no (nq h9) (Ne.symm l3)⟩
    · exact ⟨g4, two_no (nq h10) (Ne.symm l4)⟩
    · exact ⟨g5, two_no (nq h11) (Ne.symm l5)⟩
    · exact ⟨g6, two_no (nq h13) (Ne.symm l6)⟩
end Pk

namespace Pk
open PySem PySem.Spec PyProof.Rows L2 Ssb
open Evl (Ex Ev EvT EvL EvA EvU)
/-! ### one row more -/
theorem w_ne : ("flag" : Str) ≠ "list" ∧ ("flag" : Str) ≠ "field" ∧ ("list" : Str) ≠ "field" := by decide +kernel
def okC (cs : Sh) : Prop := (cs.map (·.1)).Nodup ∧ cs.length ≤ 2 ∧ ∀ p ∈ cs, okFl p.2.1 ∧ p.2.2.length ≤ 1 ∧ ∀ q ∈ p.2.2, okFl q.2
theorem fin_keys {H : Hp} {S : Addr → Prop} {dn : Sh} {es : List (Key × V)} (h : Paired (FinE H S) dn es) : es.map (·.1) = (dn.map (·.1)).map Sum.inr := by
  induction h with
  | nil => rfl
  | cons h t ih => rw [List.map_cons, List.map_cons, List.map_cons, ih, h.1]
theorem fld_keys {H : Hp} {f : Fl} {es : List (Key × V)} (h : Paired (FldE H) f es) : es.map (·.1) = (f.map (·.1)).map Sum.inr := by
  induction h with
  | nil => rfl
  | cons h t ih => rw [List.map_cons, List.map_cons, List.map_cons, ih, h.1]
/-- what is whole stays, where another dict is changed -/
theorem fin_move {H H' : Hp} {S : Addr → Prop} {dn : Sh} {es : List (Key × V)} {x : Addr} {d : List (Key × V)} (h : Paired (FinE H S) dn es) (hx : H x = some (.dK d)) (hS : ∀ b, S b → b ≠ x) (st : ∀ b o, b ≠ x → H b = some o → H' b = some o) : Paired (FinE H' fun b => S b ∧ H b ≠ none) dn es :=
  pair_imp h fun p e h => ⟨h.1, rep_to (fun b o hb z => st b o (by
    rcases z with z | ⟨xs, rfl⟩
    · exact hS b z.1
    · intro e; rw [e, hx] at hb; cases hb) hb) (rep_dom h.2)⟩
theorem fld_move {H H' : Hp} {f : Fl} {es : List (Key × V)} {x : Addr} {d : List (Key × V)} (h : Paired (FldE H) f es) (hx : H x = some (.dK d)) (st : ∀ b o, b ≠ x → H b = some o → H' b = some o) : Paired (FldE H') f es :=
  pair_imp h fun p e h => ⟨h.1, let ⟨t, h1, h2⟩ := h.2; ⟨t, h1, st t _ (fun e => by rw [e, hx] at h2; cases h2) h2⟩⟩
def ListStep (H0 H : Hp) (q R L : Addr) (cs : Sh) (fl fl1 : List Str) (ns : List Addr) (lv : Nat) (k : Str) (rest' : List (Nat × List Str)) : Prop :=
  ∃ n fa ia ies, ns[lv]? = some n ∧ NodeAt H n fa ia ∧ H ia = some (.dK ies) ∧ valV ies (Sum.inr k : Key) = none ∧ ies.length ≤ 10 ∧ H0 ia = none ∧ lv ≤ 2 ∧ ia ≠ R ∧
  ∀ H' N F I, (∀ b o, b ≠ ia → H b = some o → H' b = some o) → H' ia = some (.dK (ies ++ [(Sum.inr k, .ref N)])) → H N = none → H F = none → H I = none → H0 N = none → H0 F = none → H0 I = none → N ≠ F → N ≠ I → F ≠ I → NodeAt H' N F I → H' F = some (.dK []) → H' I = some (.dK []) → Bld H0 H' q R L cs fl fl1 (ns.take (lv + 1) ++ [N]) rest'
theorem list0 {H0 H : Hp} {q R L F0 : Addr} {lq : List V} {cs : Sh} {fl fl1 : List Str} {more : List Addr} {lv : Nat} {k : Str} {rest rest' : List (Nat × List Str)} (okc : okC cs) (hq : H q = some (.lst lq)) (hR : NodeAt H R F0 L) (RL : R ≠ L) (L0 : H0 L = none) (b : S0d H0 H q L cs fl fl1 rest) (hr : rest = (lv, [("list" : Str), k]) :: rest') :
    ListStep H0 H q R L cs fl fl1 (R :: more) lv k rest' := by
  obtain ⟨dn, todo, es, S, fl2, h0, h1, h2, h3, h4, h5⟩ := b
  rw [hr] at h0
  cases fl2 with
  | cons x fl2 =>
    rw [List.map_cons, List.cons_append] at h0
    injection h0 with e _
    injection e with _ e
    injection e with e _
    exact absurd e.symm w_ne.1
  | nil =>
  rw [List.append_nil] at h1
  subst h1
  cases todo with
  | nil => cases h0
  | cons p todo =>
  rw [List.map_nil, List.nil_append, List.flatMap_cons] at h0
  rw [show oLn p = (0, [("list" : Str), p.1]) :: (fLn 1 p.2.1 ++ p.2.2.flatMap (iLn 1)) from rfl, List.cons_append] at h0
  injection h0 with e er
  injection e with e1 e2
  injection e2 with _ e2
  injection e2 with e2 _
  subst e1 e2
  have nd := okc.1
  rw [← h2, List.map_append, List.map_cons, List.nodup_append] at nd
  have kn : p.1 ∉ dn.map (·.1) := fun hm => nd.2.2 _ hm _ List.mem_cons_self rfl
  have le : es.length ≤ 2 := by
    have e := pair_len h4
    have := congrArg List.length h2
    rw [List.length_append] at this
    have := okc.2.1
    omega
  have no : ∀ {x y : Addr} {o : HO}, H x = some o → H y = none → x ≠ y := fun h1 h2 e => by rw [e, h2] at h1; cases h1
  refine ⟨R, F0, L, es, rfl, hR, h3, vV_no (by rw [fin_keys h4]; exact inr_not kn), by omega, L0, by decide, Ne.symm RL, fun H' N F I st hL' hN hF hI n0 f0 i0 NF NI FI node hF' hI' => ?_⟩
  have x := Bld.s1 (H0 := H0) (H := H') (q := q) (R := R) (L := L) (cs := cs) (fl := fl1) dn todo p.1 [] p.2.1 p.2.2 es [] (fun b => S b ∧ H b ≠ none) N F I [] (by rw [List.nil_append]; exact h2) hL' (fin_move h4 h3 (fun b hb e => (h5 b hb).2 (by rw [e]; exact List.mem_cons_of_mem _ List.mem_cons_self)) st) (fun b hb => ⟨(h5 b hb.1).1, fun hm => ?_⟩) node hF' .nil hI' ?_ n0 f0 i0
  · rw [er, List.append_assoc]; exact x
  · rcases List.mem_cons.mp hm with e | hm
    · exact (h5 b hb.1).2 (by rw [e]; exact List.mem_cons_self)
    rcases List.mem_cons.mp hm with e | hm
    · exact (h5 b hb.1).2 (by rw [e]; exact List.mem_cons_of_mem _ List.mem_cons_self)
    rcases List.mem_cons.mp hm with e | hm
    · exact hb.2 (by rw [e]; exact hN)
    rcases List.mem_cons.mp hm with e | hm
    · exact hb.2 (by rw [e]; exact hF)
    · exact hb.2 (by rw [List.mem_singleton.mp hm]; exact hI)
  · simp only [List.nodup_cons, List.mem_cons, List.not_mem_nil, or_false, not_or]
    exact ⟨⟨RL, no hR hN, no hR hF, no hR hI⟩, ⟨no h3 hN, no h3 hF, no h3 hI⟩, ⟨NF, NI⟩, FI, (fun h => h), List.nodup_nil⟩
theorem step_list {H0 H : Hp} {q R L F0 : Addr} {lq : List V} {cs : Sh} {fl fl1 : List Str} {ns : List Addr} {lv : Nat} {k : Str} {rest rest' : List (Nat × List Str)} (okc : okC cs) (hq : H q = some (.lst lq)) (hR : NodeAt H R F0 L) (RL : R ≠ L) (L0 : H0 L = none) (b : Bld H0 H q R L cs fl fl1 ns rest) (hr : rest = (lv, [("list" : Str), k]) :: rest') :
    ListStep H0 H q R L cs fl fl1 ns lv k rest' := by
  have no : ∀ {x y : Addr} {o : HO}, H x = some o → H y = none → x ≠ y := fun h1 h2 e => by rw [e, h2] at h1; cases h1
  cases b with
  | s0 more _ _ h => exact list0 okc hq hR RL L0 h hr
  | s1 dn todo k1 f1 f2 inn es fes S n1 fa ia more h2 h3 h4 h5 h6 h7 h8 h9 hn g1 g2 g3 =>
    cases f2 with
    | cons p f2 =>
      rw [show fLn 1 (p :: f2) = (1, ("field" : Str) :: p.1 :: p.2) :: fLn 1 f2 from rfl, List.cons_append] at hr
      injection hr with e _
      injection e with _ e
      injection e with e _
      exact absurd e.symm w_ne.2.2
    | nil =>
    rw [List.append_nil] at h2
    have hm : (k1, f1, inn) ∈ cs := by rw [← h2]; exact List.mem_append_right _ List.mem_cons_self
    cases inn with
    | nil => exact list0 okc hq hR RL L0 (close1 (fun p hp => (okc.2.2 p hp).1) hq h2 h3 h4 h5 h6 h7 h8 h9 hn g1 g2 g3) hr
    | cons q' inn =>
    have li : (q' :: inn).length ≤ 1 := (okc.2.2 _ hm).2.1
    have : inn = [] := by
      rw [List.length_cons] at li
      exact List.length_eq_zero_iff.mp (by omega)
    subst this
    rw [show fLn 1 [] = [] from rfl, List.nil_append, List.flatMap_cons, List.flatMap_nil, List.append_nil, show iLn 1 q' = (1, [("list" : Str), q'.1]) :: fLn 2 q'.2 from rfl, List.cons_append] at hr
    injection hr with e er
    injection e with e1 e2
    injection e2 with _ e2
    injection e2 with e2 _
    subst e1 e2
    simp only [List.nodup_cons, List.mem_cons, List.not_mem_nil, or_false, not_or] at hn
    obtain ⟨⟨r1, r2, r3, r4⟩, ⟨l1, l2, l3⟩, ⟨n2, n3⟩, f2, _⟩ := hn
    refine ⟨n1, fa, ia, [], rfl, h6, h9, rfl, by decide, g3, by decide, Ne.symm r4, fun H' N F I st hL' hN hF hI n0 f0 i0 NF NI FI node hF' hI' => ?_⟩
    have x := Bld.s2 (H0 := H0) (H := H') (q := q) (R := R) (L := L) (cs := cs) (fl := fl) dn todo k1 q'.1 f1 [] q'.2 es fes [] (fun b => S b ∧ H b ≠ none) n1 fa ia N F I [] (by rw [List.nil_append]; exact h2) (st _ _ l3 h3) (fin_move h4 h9 (fun b hb e => (h5 b hb).2 (by rw [e]; simp)) st) (fun b hb => ⟨(h5 b hb.1).1, fun hm => ?_⟩) (st _ _ n3 h6) (st _ _ f2 h7) (fld_move h8 h9 st) hL' node hF' .nil hI' ?_ g1 g2 g3 n0 f0 i0
    · rw [← er]; exact x
    · have hx := (h5 b hb.1).2
      simp only [List.mem_cons, List.not_mem_nil, or_false, not_or] at hm hx
      rcases hm with e | e | e | e | e | e | e | e
      · exact hx.1 e
      · exact hx.2.1 e
      · exact hx.2.2.1 e
      · exact hx.2.2.2.1 e
      · exact hx.2.2.2.2 e
      · exact hb.2 (by rw [e]; exact hN)
      · exact hb.2 (by rw [e]; exact hF)
      · exact hb.2 (by rw [e]; exact hI)
    · simp only [List.nodup_cons, List.mem_cons, List.not_mem_nil, or_false, not_or]
      exact ⟨⟨r1, r2, r3, r4, no hR hN, no hR hF, no hR hI⟩, ⟨l1, l2, l3, no h3 hN, no h3 hF, no h3 hI⟩, ⟨n2, n3, no h6 hN, no h6 hF, no h6 hI⟩, ⟨f2, no h7 hN, no h7 hF, no h7 hI⟩, ⟨no h9 hN, no h9 hF, no h9 hI⟩, ⟨NF, NI⟩, FI, (fun h => h), List.nodup_nil⟩
  | s2 dn todo k1 k2 f ga gb es fes ges S n1 fa ia n2 fb ib more h2 h3 h4 h5 h6 h7 h8 h9 h10 h11 h12 h13 hn g1 g2 g3 g4 g5 g6 =>
    cases gb with
    | cons p gb =>
      rw [show fLn 2 (p :: gb) = (2, ("field" : Str) :: p.1 :: p.2) :: fLn 2 gb from rfl, List.cons_append] at hr
      injection hr with e _
      injection e with _ e
      injection e with e _
      exact absurd e.symm w_ne.2.2
    | nil =>
    rw [List.append_nil] at h2
    exact list0 okc hq hR RL L0 (close2 (fun p hp => ⟨(okc.2.2 p hp).1, (okc.2.2 p hp).2.2⟩) hq h2 h3 h4 h5 h6 h7 h8 h9 h10 h11 h12 h13 hn g1 g2 g3 g4 g5 g6) hr
/-- no list row, no field row stands at the head of what is left -/
theorem todo_head {todo : Sh} {x : Nat × List Str} {rest' : List (Nat × List Str)} (h : todo.flatMap oLn = x :: rest') : ∃ k, x.2 = [("list" : Str), k] := by
  cases todo with
  | nil => cases h
  | cons p todo =>
    rw [List.flatMap_cons, show oLn p = (0, [("list" : Str), p.1]) :: (fLn 1 p.2.1 ++ p.2.2.flatMap (iLn 1)) from rfl, List.cons_append] at h
    injection h with e _
    exact ⟨p.1, by rw [← e]⟩
theorem step_flag {H0 H : Hp} {q R L : Addr} {lq : List V} {cs : Sh} {fl fl1 : List Str} {ns : List Addr} {lv : Nat} {x : Str} {rest rest' : List (Nat × List Str)} (hq : H q = some (.lst lq)) (b : Bld H0 H q R L cs fl fl1 ns rest) (hr : rest = (lv, [("flag" : Str), x]) :: rest') :
    lv = 0 ∧ (∃ more, ns = R :: more) ∧ fl1.length < fl.length ∧ ∀ H', (∀ b o, b ≠ q → H b = some o → H' b = some o) → Bld H0 H' q R L cs fl (fl1 ++ [x]) (ns.take (lv + 1)) rest' := by
  cases b with
  | s0 more _ _ h =>
    obtain ⟨dn, todo, es, S, fl2, h0, h1, h2, h3, h4, h5⟩ := h
    rw [hr] at h0
    cases fl2 with
    | nil =>
      obtain ⟨k, e⟩ := todo_head h0.symm
      injection e with e _
      exact absurd e w_ne.1
    | cons y fl2 =>
      rw [List.map_cons, List.cons_append] at h0
      injection h0 with e er
      injection e with e1 e2
      injection e2 with _ e2
      injection e2 with e2 _
      subst e1 e2
      refine ⟨rfl, ⟨more, rfl⟩, by rw [← h1, List.length_append, List.length_cons]; omega, fun H' st => .s0 [] _ _ ⟨dn, todo, es, S, fl2, er, by rw [List.append_assoc]; exact h1, h2, st _ _ (fun e => by rw [e, hq] at h3; cases h3) h3, ?_, h5⟩⟩
      refine pair_imp h4 fun p e h => ⟨h.1, rep_to (fun b o hb z => st b o (fun e => ?_) hb) h.2⟩
      rcases z with z | ⟨xs, rfl⟩
      · exact (h5 b z).2 (by rw [e]; exact List.mem_cons_self)
      · rw [e, hq] at hb; cases hb
  | s1 dn todo k1 f1 f2 inn es fes S n1 fa ia more h2 h3 h4 h5 h6 h7 h8 h9 hn g1 g2 g3 =>
    cases f2 with
    | cons p f2 =>
      rw [show fLn 1 (p :: f2) = (1, ("field" : Str) :: p.1 :: p.2) :: fLn 1 f2 from rfl, List.cons_append] at hr
      injection hr with e _
      injection e with _ e
      injection e with e _
      exact absurd e.symm w_ne.2.1
    | nil =>
    cases inn with
    | cons q' inn =>
      rw [show fLn 1 [] = [] from rfl, List.nil_append, List.flatMap_cons, show iLn 1 q' = (1, [("list" : Str), q'.1]) :: fLn 2 q'.2 from rfl, List.cons_append, List.cons_append] at hr
      injection hr with e _
      injection e with _ e
      injection e with e _
      exact absurd e.symm w_ne.1
    | nil =>
      obtain ⟨k, e⟩ := todo_head hr
      injection e with e _
      exact absurd e w_ne.1
  | s2 dn todo k1 k2 f ga gb es fes ges S n1 fa ia n2 fb ib more h2 h3 h4 h5 h6 h7 h8 h9 h10 h11 h12 h13 hn g1 g2 g3 g4 g5 g6 =>
    cases gb with
    | cons p gb =>
      rw [show fLn 2 (p :: gb) = (2, ("field" : Str) :: p.1 :: p.2) :: fLn 2 gb from rfl, List.cons_append] at hr
      injection hr with e _
      injection e with _ e
      injection e with e _
      exact absurd e.symm w_ne.2.1
    | nil =>
      obtain ⟨k, e⟩ := todo_head hr
      injection e with e _
      exact absurd e w_ne.1
theorem step_field {H0 H : Hp} {q R L F0 : Addr} {lq : List V} {cs : Sh} {fl fl1 : List Str} {ns : List Addr} {lv : Nat} {f : Str} {ws : List Str} {rest rest' : List (Nat × List Str)} (okc : okC cs) (hq : H q = some (.lst lq)) (hR : NodeAt H R F0 L) (b : Bld H0 H q R L cs fl fl1 ns rest) (hr : rest = (lv, ("field" : Str) :: f :: ws) :: rest') :
    ∃ n fa ia fes, ns[lv]? = some n ∧ NodeAt H n fa ia ∧ H fa = some (.dK fes) ∧ valV fes (Sum.inr f : Key) = none ∧ fes.length ≤ 10 ∧ H0 fa = none ∧ lv ≤ 2 ∧ fa ≠ R ∧
      ∀ H' t, (∀ b o, b ≠ fa → H b = some o → H' b = some o) → H' t = some (.tup (ws.map V.str)) → H' fa = some (.dK (fes ++ [(Sum.inr f, .ref t)])) → Bld H0 H' q R L cs fl fl1 (ns.take (lv + 1)) rest' := by
  have toF : ∀ {x : List (Nat × List Str)}, (∃ todo : Sh, todo.flatMap oLn = x) → x = (lv, ("field" : Str) :: f :: ws) :: rest' → False := fun {x} hx e => by
    obtain ⟨todo, hx⟩ := hx
    rw [e] at hx
    obtain ⟨k, e⟩ := todo_head hx
    injection e with e _
    exact w_ne.2.2 e.symm
  cases b with
  | s0 more _ _ h =>
    obtain ⟨dn, todo, es, S, fl2, h0, h1, h2, h3, h4, h5⟩ := h
    rw [hr] at h0
    cases fl2 with
    | nil => exact (toF ⟨todo, rfl⟩ h0.symm).elim
    | cons y fl2 =>
      rw [List.map_cons, List.cons_append] at h0
      injection h0 with e _
      injection e with _ e
      injection e with e _
      exact absurd e.symm w_ne.2.1
  | s1 dn todo k1 f1 f2 inn es fes S n1 fa ia more h2 h3 h4 h5 h6 h7 h8 h9 hn g1 g2 g3 =>
    cases f2 with
    | nil =>
      cases inn with
      | cons q' inn =>
        rw [show fLn 1 [] = [] from rfl, List.nil_append, List.flatMap_cons, show iLn 1 q' = (1, [("list" : Str), q'.1]) :: fLn 2 q'.2 from rfl, List.cons_append, List.cons_append] at hr
        injection hr with e _
        injection e with _ e
        injection e with e _
        exact absurd e w_ne.2.2
      | nil => exact (toF ⟨todo, rfl⟩ hr).elim
    | cons p f2 =>
    rw [show fLn 1 (p :: f2) = (1, ("field" : Str) :: p.1 :: p.2) :: fLn 1 f2 from rfl, List.cons_append] at hr
    injection hr with e er
    injection e with e1 e2
    injection e2 with _ e2
    injection e2 with e2 e3
    subst e1 e2 e3
    have okf : okFl (f1 ++ p :: f2) := (okc.2.2 (k1, f1 ++ p :: f2, inn) (by rw [← h2]; exact List.mem_append_right _ List.mem_cons_self)).1
    have nd := okf.2.1
    rw [List.map_append, List.map_cons, List.nodup_append] at nd
    have kn : p.1 ∉ f1.map (·.1) := fun hm => nd.2.2 _ hm _ List.mem_cons_self rfl
    have le : fes.length ≤ 2 := by
      have e := pair_len h8
      have := okf.1
      rw [List.length_append] at this
      omega
    have hn' := hn
    simp only [List.nodup_cons, List.mem_cons, List.not_mem_nil, or_false, not_or] at hn
    obtain ⟨⟨r1, r2, r3, r4⟩, ⟨l1, l2, l3⟩, ⟨n2, n3⟩, f2', _⟩ := hn
    refine ⟨n1, fa, ia, fes, rfl, h6, h7, vV_no (by rw [fld_keys h8]; exact inr_not kn), by omega, g2, by decide, Ne.symm r3, fun H' t st ht hfa => ?_⟩
    have x := Bld.s1 (H0 := H0) (H := H') (q := q) (R := R) (L := L) (cs := cs) (fl := fl) dn todo k1 (f1 ++ [p]) f2 inn es (fes ++ [(Sum.inr p.1, .ref t)]) (fun b => S b ∧ H b ≠ none) n1 fa ia [] (by rw [List.append_assoc]; exact h2) (st _ _ l2 h3) (fin_move h4 h7 (fun b hb e => (h5 b hb).2 (by rw [e]; simp)) st) (fun b hb => h5 b hb.1) (st _ _ n2 h6) hfa (pair_snoc (fld_move h8 h7 st) ⟨rfl, t, rfl, ht⟩) (st _ _ (Ne.symm f2') h9) hn' g1 g2 g3
    rw [← er]; exact x
  | s2 dn todo k1 k2 f0 ga gb es fes ges S n1 fa ia n2 fb ib more h2 h3 h4 h5 h6 h7 h8 h9 h10 h11 h12 h13 hn g1 g2 g3 g4 g5 g6 =>
    cases gb with
    | nil => exact (toF ⟨todo, rfl⟩ hr).elim
    | cons p gb =>
    rw [show fLn 2 (p :: gb) = (2, ("field" : Str) :: p.1 :: p.2) :: fLn 2 gb from rfl, List.cons_append] at hr
    injection hr with e er
    injection e with e1 e2
    injection e2 with _ e2
    injection e2 with e2 e3
    subst e1 e2 e3
    have okf : okFl (ga ++ p :: gb) := (okc.2.2 (k1, f0, [(k2, ga ++ p :: gb)]) (by rw [← h2]; exact List.mem_append_right _ List.mem_cons_self)).2.2 _ List.mem_cons_self
    have nd := okf.2.1
    rw [List.map_append, List.map_cons, List.nodup_append] at nd
    have kn : p.1 ∉ ga.map (·.1) := fun hm => nd.2.2 _ hm _ List.mem_cons_self rfl
    have le : ges.length ≤ 2 := by
      have e := pair_len h12
      have := okf.1
      rw [List.length_append] at this
      omega
    have hn' := hn
    simp only [List.nodup_cons, List.mem_cons, List.not_mem_nil, or_false, not_or] at hn
    obtain ⟨⟨r1, r2, r3, r4, r5, r6, r7⟩, ⟨l1, l2, l3, l4, l5, l6⟩, ⟨n3, n4, n5, n6, n7⟩, ⟨f2, f3, f4, f5⟩, ⟨i1, i2, i3⟩, ⟨m1, m2⟩, q1, _⟩ := hn
    refine ⟨n2, fb, ib, ges, rfl, h10, h11, vV_no (by rw [fld_keys h12]; exact inr_not kn), by omega, g5, by decide, Ne.symm r6, fun H' t st ht hfb => ?_⟩
    have x := Bld.s2 (H0 := H0) (H := H') (q := q) (R := R) (L := L) (cs := cs) (fl := fl) dn todo k1 k2 f0 (ga ++ [p]) gb es fes (ges ++ [(Sum.inr p.1, .ref t)]) (fun b => S b ∧ H b ≠ none) n1 fa ia n2 fb ib [] (by rw [List.append_assoc]; exact h2) (st _ _ l5 h3) (fin_move h4 h11 (fun b hb e => (h5 b hb).2 (by rw [e]; simp)) st) (fun b hb => h5 b hb.1) (st _ _ n6 h6) (st _ _ f4 h7) (fld_move h8 h11 st) (st _ _ i2 h9) (st _ _ m1 h10) hfb (pair_snoc (fld_move h12 h11 st) ⟨rfl, t, rfl, ht⟩) (st _ _ (Ne.symm q1) h13) hn' g1 g2 g3 g4 g5 g6
    rw [← er]; exact x
end Pk

namespace Pk
open PySem PySem.Spec PyProof.Rows L2 Ssb
open Evl (Ex Ev EvT EvL EvA EvU)
/-! ### read_shape: small facts -/
theorem lsL_names (s : Sh) : (lsL s).map (·.1) = s.map (·.1) := by unfold lsL; rw [List.map_map]; rfl
theorem el_f {f : Fl} {i : List (Str × Fl)} : List.lookup ("fields" : Str) [(("fields" : Str), flD f), (("inner" : Str), D.dic (inL i))] = some (flD f) := by rw [lk_cons, if_pos rfl]
theorem el_i {f : Fl} {d : D} : List.lookup ("inner" : Str) [(("fields" : Str), flD f), (("inner" : Str), d)] = some d := by rw [lk_cons, if_neg ne_fi.symm, lk_cons, if_pos rfl]
theorem inL_names (i : List (Str × Fl)) : (inL i).map (·.1) = i.map (·.1) := by unfold inL; rw [List.map_map]; rfl
theorem shD_ls (z : Sh) : shD (lsD z) z := by
  refine ⟨lsL z, rfl, pair_map fun p hp => ⟨rfl, _, inL p.2.2, rfl, rfl, el_f, el_i, pair_map fun q hq => ⟨rfl, _, rfl, rfl, el_f (i := []), el_i⟩⟩⟩
theorem kn_flD {f : Fl} (h : okFl f) : ∀ n, kn n (flD f)
  | 0 => trivial
  | n + 1 => by
    refine ⟨?_, fun p hp => ?_⟩
    · rw [List.map_map]; exact h.2.1
    · obtain ⟨q, _, rfl⟩ := List.mem_map.mp hp
      cases n with
      | zero => trivial
      | succ n =>
        intro x hx
        obtain ⟨s, _, rfl⟩ := List.mem_map.mp hx
        cases n <;> trivial
theorem fi_nd {d1 d2 : D} : ([(("fields" : Str), d1), ("inner", d2)].map (·.1)).Nodup := by
  show [("fields" : Str), "inner"].Nodup
  decide +kernel
theorem kn_el {f : Fl} {d : D} (h : okFl f) (hd : ∀ n, kn n d) : ∀ n, kn n (.dic [("fields", flD f), ("inner", d)])
  | 0 => trivial
  | n + 1 => ⟨fi_nd, fun p hp => by
    rcases List.mem_cons.mp hp with rfl | hp
    · exact kn_flD h n
    · rw [List.mem_singleton.mp hp]; exact hd n⟩
theorem kn_ls {z : Sh} (hz : okSh z) : ∀ n, kn n (lsD z)
  | 0 => trivial
  | n + 1 => by
    refine ⟨by rw [lsL_names]; exact sh_nd hz.2.1, fun p hp => ?_⟩
    obtain ⟨q, hq, rfl⟩ := List.mem_map.mp hp
    obtain ⟨_, okf, i1, iok⟩ := hz.2.2 q hq
    refine kn_el okf (fun n => ?_) n
    cases n with
    | zero => trivial
    | succ n =>
      refine ⟨?_, fun p hp => ?_⟩
      · rw [inL_names]
        match q.2.2, i1 with
        | [], _ => exact List.nodup_nil
        | [x], _ => simp
      · obtain ⟨q2, hq2, rfl⟩ := List.mem_map.mp hp
        refine kn_el (iok q2 hq2).2 (fun n => ?_) n
        cases n with
        | zero => trivial
        | succ n => exact ⟨List.nodup_nil, fun p hp => nomatch hp⟩
theorem w_word : isW "flag" ∧ isW "list" ∧ isW "field" := by
  refine ⟨⟨?_, ?_, ?_⟩, ⟨?_, ?_, ?_⟩, ⟨?_, ?_, ?_⟩⟩ <;> decide +kernel
theorem rd_flag {x : Str} (h : isW x) : rdRow (0, [("flag" : Str), x]) := ⟨Nat.zero_le _, fun w hw => by
  rcases List.mem_cons.mp hw with rfl | hw
  · exact w_word.1
  · rw [List.mem_singleton.mp hw]; exact h, by show 2 ≤ 8; decide, by
  show forms.any (fun p => isS p.1 (.str "flag") && decide (p.2 = ((1 + 1 : Nat) : Int))) = true
  decide +kernel⟩
theorem rd_list {lv : Nat} {k : Str} (hl : lv ≤ 5) (h : isW k) : rdRow (lv, [("list" : Str), k]) := ⟨hl, fun w hw => by
  rcases List.mem_cons.mp hw with rfl | hw
  · exact w_word.2.1
  · rw [List.mem_singleton.mp hw]; exact h, by show 2 ≤ 8; decide, by
  show forms.any (fun p => isS p.1 (.str "list") && decide (p.2 = ((1 + 1 : Nat) : Int))) = true
  decide +kernel⟩
theorem rd_field {lv : Nat} {f : Fl} {p : Str × List Str} (hl : lv ≤ 5) (hf : okFl f) (hp : p ∈ f) : rdRow (lv, ("field" : Str) :: p.1 :: p.2) := by
  obtain ⟨h1, h2, h3, h4, _⟩ := hf.2.2 p hp
  refine ⟨hl, fun w hw => ?_, by show p.2.length + 1 + 1 ≤ 8; omega, ?_⟩
  · rcases List.mem_cons.mp hw with rfl | hw
    · exact w_word.2.2
    rcases List.mem_cons.mp hw with rfl | hw
    · exact h1
    · exact h4 w hw
  · show forms.any (fun q => isS q.1 (.str "field") && decide (q.2 = ((((p.1 :: p.2).map D.str).length + 1 : Nat) : Int))) = true
    rw [List.length_map, List.length_cons]
    rcases (by omega : p.2.length = 2 ∨ p.2.length = 3) with e | e <;> rw [e] <;> decide +kernel
/-- the three kinds of rows -/
def Row3 (q : Nat × List Str) : Prop := (∃ x, q.2 = [("flag" : Str), x]) ∨ (∃ k, q.2 = [("list" : Str), k]) ∨ ∃ k ws, q.2 = ("field" : Str) :: k :: ws ∧ ws.length ≤ 3
theorem rd_sh {fl : List Str} {cs : Sh} (hf : ∀ x ∈ fl, isW x) (h : ∀ p ∈ cs, isW p.1 ∧ okFl p.2.1 ∧ p.2.2.length ≤ 1 ∧ ∀ q ∈ p.2.2, isW q.1 ∧ okFl q.2) : ∀ x ∈ shLn fl cs, rdRow x ∧ Row3 x := fun x hx => by
  have fld : ∀ {lv : Nat} {f : Fl}, lv ≤ 5 → okFl f → ∀ x ∈ fLn lv f, rdRow x ∧ Row3 x := fun {lv f} hl hf x hx => by
    obtain ⟨p, hp, rfl⟩ := List.mem_map.mp hx
    exact ⟨rd_field hl hf hp, .inr (.inr ⟨_, _, rfl, (hf.2.2 p hp).2.2.1⟩)⟩
  rcases List.mem_append.mp hx with hx | hx
  · obtain ⟨y, hy, rfl⟩ := List.mem_map.mp hx
    exact ⟨rd_flag (hf y hy), .inl ⟨_, rfl⟩⟩
  · obtain ⟨p, hp, hx⟩ := List.mem_flatMap.mp hx
    obtain ⟨w1, w2, w3, w4⟩ := h p hp
    rcases List.mem_cons.mp hx with rfl | hx
    · exact ⟨rd_list (by decide) w1, .inr (.inl ⟨_, rfl⟩)⟩
    rcases List.mem_append.mp hx with hx | hx
    · exact fld (by decide) w2 x hx
    · obtain ⟨q, hq, hx⟩ := List.mem_flatMap.mp hx
      rcases List.mem_cons.mp hx with rfl | hx
      · exact ⟨rd_list (by decide) (w4 q hq).1, .inr (.inl ⟨_, rfl⟩)⟩
      · exact fld (by decide) (w4 q hq).2 x hx
theorem shLn_len {fl : List Str} {cs : Sh} (h2 : fl.length ≤ 2) (hz : okSh cs) : (shLn fl cs).length ≤ 14 := by
  have key : ∀ l : Sh, (∀ p ∈ l, (oLn p).length ≤ 6) → (l.flatMap oLn).length ≤ 6 * l.length := by
    intro l
    induction l with
    | nil => intro _; exact Nat.zero_le _
    | cons p l ih =>
      intro h
      have a := h p List.mem_cons_self
      have b := ih fun q hq => h q (List.mem_cons_of_mem _ hq)
      rw [List.flatMap_cons, List.length_append, List.length_cons]
      omega
  have := key cs fun p hp => oLn_len (hz.2.2 p hp).2.1 (hz.2.2 p hp).2.2.1 fun q hq => ((hz.2.2 p hp).2.2.2 q hq).2
  have := hz.1
  unfold shLn
  rw [List.length_append, List.length_map]
  omega
theorem okC_of {cs : Sh} (hz : okSh cs) : okC cs := ⟨sh_nd hz.2.1, hz.1, fun p hp => ⟨(hz.2.2 p hp).2.1, (hz.2.2 p hp).2.2.1, fun q hq => ((hz.2.2 p hp).2.2.2 q hq).2⟩⟩
theorem cut_take {xs : List V} {n : Nat} : cutV xs none (some (n : Int)) = xs.take n := by
  unfold cutV
  rw [HT.sIx_none, HT.sIx_nat, List.drop_zero, Nat.sub_zero]
  refine List.take_eq_take_iff.mpr ?_
  omega
theorem cut_two {x y : V} {xs : List V} : cutV (x :: y :: xs) (some (2 : Int)) none = xs := by
  unfold cutV
  have e : HT.sIx (x :: y :: xs).length 0 (some (2 : Int)) = 2 := (HT.sIx_nat _ 0 2).trans (by rw [List.length_cons, List.length_cons]; omega)
  rw [HT.sIx_none, e]
  show List.take (xs.length + 1 + 1 - 2) xs = xs
  exact List.take_of_length_le (by omega)
theorem lnq_move {H H' : Hp} {q0 m : Addr} {o0 : HO} {r : Nat × List Str} {z : V} (hm : H m = some o0) (no : ∀ xs, o0 ≠ .tup xs) (h : (∀ xs, o0 ≠ .lst xs) ∨ m = q0) (st : ∀ b o, b ≠ m → H b = some o → H' b = some o) (x : LnRq q0 H r z) : LnRq q0 H' r z := by
  obtain ⟨t, a, h1, h2, h3, h4⟩ := x
  refine ⟨t, a, h1, st _ _ (fun e => ?_) h2, h3, st _ _ (fun e => ?_) h4⟩
  · rw [e, hm] at h2; exact no _ (Option.some.inj h2)
  · rcases h with h | h
    · rw [e, hm] at h4; exact h _ (Option.some.inj h4)
    · exact h3 (e.trans h)
section
variable {K : PySem.W.Frag} {σ : L2.St} {H : Hp} {ta te : TE}
/-- xs[i][k] -/
theorem ev_node {ar n : Addr} {xs : List V} {i : Int} {k : Str} {es : List (Key × V)} {v : V} (h1 : Ev ta σ H (.ref ar)) (ha : H ar = some (.lst xs)) (h2 : Ev te σ H (.int i)) (hx : atI xs i = some (.ref n)) (hn : H n = some (.dK es)) (hv : valV es (Sum.inr k : Key) = some v) : Ev (tDGet (tOp (rIxL K) ta te) (tC (.str k))) σ H v := fun H1 e Q q =>
  Evl.ev_op h1 h2 (Evl.rv_ixL (Evl.sq_of ha) hx) H1 e _ fun H2 e2 => ⟨n, v, rfl, .inl ⟨es, Sum.inr k, .inl ((e.trans e2) _ _ hn), rfl, hv.symm⟩, q H2 e2⟩
theorem s_dput {td ty tv : TE} {D_ : Ends} {a : Addr} {es : List (Key × V)} {k : Key} {vv : V} (hv : Ev tv σ H vv) (hd : Ev td σ H (.ref a)) (hk : Ev ty σ H (kV k)) (ha : H a = some (.dK es)) (l : es.length ≤ 90000) (q : ∀ H1, Ex H H1 → D_.nx σ (upd H1 a (.dK (putK es k vv)))) : sDPut td ty tv D_ σ H :=
  hv H (Ex.refl _) _ fun H1 e1 => hd H1 e1 _ fun H2 e2 => hk H2 (e1.trans e2) _ fun H3 e3 => ⟨a, _, rfl, .inl ⟨es, k, ((e1.trans e2).trans e3) _ _ ha, rfl, Evl.sz_lt (by omega), rfl⟩, q _ ((e1.trans e2).trans e3)⟩
theorem s_dputU {td ty tv : TE} {D_ : Ends} {a : Addr} {es : List (Key × V)} {k : Key} {ys : List V} (hv : EvU tv σ H ys) (hd : Ev td σ H (.ref a)) (hk : Ev ty σ H (kV k)) (ha : H a = some (.dK es)) (l : es.length ≤ 90000) (q : ∀ t H1, H t = none → Ex H H1 → H1 t = some (.tup ys) → D_.nx σ (upd H1 a (.dK (putK es k (.ref t))))) : sDPut td ty tv D_ σ H :=
  hv H (Ex.refl _) _ fun t H1 ht e1 h1 => hd H1 e1 _ fun H2 e2 => hk H2 (e1.trans e2) _ fun H3 e3 => ⟨a, _, rfl, .inl ⟨es, k, ((e1.trans e2).trans e3) _ _ ha, rfl, Evl.sz_lt (by omega), rfl⟩, q t _ ht ((e1.trans e2).trans e3) ((e2.trans e3) _ _ h1)⟩
theorem eu_tupL {xs : List V} (h : EvL te σ H xs) : EvU (tCB (rTupA K) (tCons te tNil)) σ H xs := fun H1 e Q q =>
  h H1 e _ fun a H2 ha e2 h2 => ⟨a, xs, rfl, .inl ⟨Evl.sq_of h2, fun t ht => q t _ (Evl.fresh_back e2 ht) (e2.trans (Ex.new ht)) upd_same⟩⟩
end
end Pk

namespace Pk
open PySem PySem.Spec PyProof.Rows L2 Ssb
open Evl (Ex Ev EvT EvL EvA EvU)
/-! ### read_shape -/
section
variable {X : Cx} {nm : Str} {k j : Nat} {ps : List Str} {sp : Sp} {f : Addr} {fd : FuncData} {p pos : Pos} {e : Expr} {es : List Expr} {t : TA} {C : Addr}
theorem pmk (G : Mt X.prog X.w X.K X.mg X.base C "__init__" k ps sp f fd) (h1 : PySem.W.makesIn X.K C = true) (h2 : PySem.W.keepIn X.K (.ref C) = true) (h3 : X.mg nm = some (.ref C)) (hr : Room j X.A) (ha : PA X (e :: es) t) (hj : k + 1 ≤ j := by first | decide | omega) (hg : Gl X nm := by rfl) (hdb : (nm == ("__debug__" : Str)) = false := by decide)
    (he : starEach (e :: es) X.env = (false, eval e X.env) :: starEach es X.env := by rfl) (hpl : (backTo pos (starEach es X.env)).any (·.1) = false := by rfl) : PE X (.Call (.Name nm p) (e :: es) [] pos) (tMake C sp [] E0 t) :=
  pe_make ⟨h1, G.mt.at_, G.mt.fn, h2⟩ G.ok (hr.mono hj) hg h3 G.bd .nil pass0 ha hdb he hpl
end
theorem nd_fields {F I : V} : valV [((Sum.inr "fields" : Key), F), (Sum.inr "inner", I)] (Sum.inr "fields") = some F := by rw [vV_cons, if_pos rfl]
theorem nd_inner {F I : V} : valV [((Sum.inr "fields" : Key), F), (Sum.inr "inner", I)] (Sum.inr "inner") = some I := by
  rw [vV_cons, if_neg (fun e => ne_fi (Sum.inr.inj e)), vV_cons, if_pos rfl]
theorem pair_impM {α β : Type} {F G : α → β → Prop} {l : List α} {m : List β} (p : Paired F l m) (h : ∀ a ∈ l, ∀ b, F a b → G a b) : Paired G l m := by
  induction p with
  | nil => exact .nil
  | cons h1 t ih => exact .cons (h _ List.mem_cons_self _ h1) (ih fun a ha b => h a (List.mem_cons_of_mem _ ha) b)
theorem pair_mapL {α β γ : Type} {g : α → γ} {F : γ → β → Prop} {l : List α} {m : List β} (p : Paired (fun a b => F (g a) b) l m) : Paired F (l.map g) m := by
  induction p with
  | nil => exact .nil
  | cons h1 t ih => exact .cons h1 ih
theorem LnRq.ex {q0 : Addr} {H H' : Hp} {r : Nat × List Str} {z : V} (e : Ex H H') (h : LnRq q0 H r z) : LnRq q0 H' r z := by
  obtain ⟨t, a, h1, h2, h3, h4⟩ := h
  exact ⟨t, a, h1, e _ _ h2, h3, e _ _ h4⟩
theorem flat_nil {l : Sh} (h : l.flatMap oLn = []) : l = [] := by
  cases l with
  | nil => rfl
  | cons p l => cases h
theorem s0_end {H0 H : Hp} {q L : Addr} {cs : Sh} {fl fl1 : List Str} (b : S0d H0 H q L cs fl fl1 []) : ∃ es S, fl1 = fl ∧ H L = some (.dK es) ∧ Paired (FinE H S) cs es ∧ ∀ b, S b → H0 b = none ∧ b ∉ [q, L] := by
  obtain ⟨dn, todo, es, S, fl2, h0, h1, h2, h3, h4, h5⟩ := b
  obtain ⟨a, b⟩ := List.append_eq_nil_iff.mp h0.symm
  have a : fl2 = [] := List.map_eq_nil_iff.mp a
  have b := flat_nil b
  subst a b
  rw [List.append_nil] at h1 h2
  subst h2
  exact ⟨es, S, h1, h3, h4, h5⟩
theorem bld_end {H0 H : Hp} {q R L : Addr} {lq : List V} {cs : Sh} {fl fl1 : List Str} {ns : List Addr} {rest : List (Nat × List Str)} (okc : okC cs) (hq : H q = some (.lst lq)) (b : Bld H0 H q R L cs fl fl1 ns rest) (hr : rest = []) :
    ∃ es S, fl1 = fl ∧ H L = some (.dK es) ∧ Paired (FinE H S) cs es ∧ ∀ b, S b → H0 b = none ∧ b ∉ [q, L] := by
  cases b with
  | s0 more _ _ h => subst hr; exact s0_end h
  | s1 dn todo k1 f1 f2 inn es fes S n1 fa ia more h2 h3 h4 h5 h6 h7 h8 h9 hn g1 g2 g3 =>
    obtain ⟨a, b⟩ := List.append_eq_nil_iff.mp hr
    obtain ⟨b, c⟩ := List.append_eq_nil_iff.mp b
    have a : f2 = [] := List.map_eq_nil_iff.mp a
    have b : inn = [] := by
      cases inn with
      | nil => rfl
      | cons x y => cases b
    subst a b
    rw [List.append_nil] at h2
    have := close1 (fl := fl) (fun p hp => (okc.2.2 p hp).1) hq h2 h3 h4 h5 h6 h7 h8 h9 hn g1 g2 g3
    rw [c] at this
    exact s0_end this
  | s2 dn todo k1 k2 f ga gb es fes ges S n1 fa ia n2 fb ib more h2 h3 h4 h5 h6 h7 h8 h9 h10 h11 h12 h13 hn g1 g2 g3 g4 g5 g6 =>
    obtain ⟨a, c⟩ := List.append_eq_nil_iff.mp hr
    have a : gb = [] := List.map_eq_nil_iff.mp a
    subst a
    rw [List.append_nil] at h2
    have := close2 (fl := fl) (fun p hp => ⟨(okc.2.2 p hp).1, (okc.2.2 p hp).2.2⟩) hq h2 h3 h4 h5 h6 h7 h8 h9 h10 h11 h12 h13 hn g1 g2 g3 g4 g5 g6
    rw [c] at this
    exact s0_end this
theorem lst1 {t : TE} {σ : L2.St} {H : Hp} {Q : VK} (h : t σ H fun v H1 => 1 ≤ sizeLine ∧ ∀ p, H1 p = none → Q (.ref p) (upd H1 p (.lst [v]))) : tLst (tCons t tNil) σ H Q := h
theorem str_eq2 {a b : Str} (h : a ≠ b) : decide (V.str a = V.str b) = false := decide_eq_false fun e => h (V.str.inj e)
section
variable {P : Program} {w : World} {K : PySem.W.Frag} {mg : Str → Option Value} {base : Heap} {C_Shape C_SHAPES : Addr}
def spReadS (C : Addr) : Sp := fun vs H Q _ => ∃ (fl : List Str) (cs : Sh), vs = [.str (shT fl cs)] ∧ okSh cs ∧ canS cs = cs ∧ fl.length ≤ 2 ∧ (∀ x ∈ fl, isW x) ∧ fl.Nodup ∧ sortedS fl = true ∧ ∀ H' p, Ex H H' → H p = none → ShapeAt C H' p fl cs (fun b => H b = none) → Q (.ref p) H'
theorem ok_read_shape (T : Txt K mg C_Shape C_SHAPES) (R : Prg K mg C_Shape C_SHAPES) : ∃ f fd, Fn P w K mg base "read_shape" 9 ["text"] (spReadS C_Shape) f fd := by
  obtain ⟨fs, fsd, G_shape_form⟩ := ok_shape_form (P := P) (w := w) (base := base) T R
  obtain ⟨_, _, G_read_lines⟩ := ok_read_lines (P := P) (w := w) (base := base) T R G_shape_form.at_
  obtain ⟨_, _, G_Shape⟩ := ok_Shape_init (P := P) (w := w) (base := base) T R
  obtain ⟨_, _, G_write_shape⟩ := ok_write_shape (P := P) (w := w) (base := base) T R
  obtain ⟨f, fd, at_, F, kp⟩ := R.read_shape
  refine ⟨f, fd, F.ok sc_read_shape (fun vs H Q E h => ?_) (fun cdv A outer s H vs Q E hr h => ?_), at_, kp, F.binds (fun _ _ _ _ _ _ us hl => match us, hl with | [_], _ => rfl)⟩
  · obtain ⟨fl, cs, rfl, _⟩ := h; rfl
  · obtain ⟨fl, cs, rfl, hz, hcan, l2, fw, fnd, fso, k⟩ := h
    refine ⟨_, (pss_cons (ps_set (i := 1) sc_read_shape.nd rfl (Or.inl rfl) (pe_lst pa_nil))
  (pss_cons (ps_set (i := 2) sc_read_shape.nd rfl (Or.inl rfl) (pe_lst (pa_cons (pe_disp (pps_cons pe_str pe_dnewK (pps_cons pe_str pe_dnewK pps_nil)) (by rfl) (by rfl) (fun z => by cases z) (by decide)) pa_nil)))
  (pss_cons (ps_set (i := 3) sc_read_shape.nd rfl (Or.inl rfl) (pe_dget (hu_of hr) (pe_ix (r := rIxL K) ix_list (pv 2) pe_int (fun _ _ => rfl)) pe_str (fun _ _ => rfl)))
  (pss_cons (ps_for PassesOwn.never rfl (show PI _ _ _ (iList K _) from pi_list (pcl G_read_lines hr (pa_cons (pv 0) (pa_cons (pe_glob (v := .ref fs) rfl G_shape_form.at_ rfl) pa_nil)))) (show PG _ _ (gTup K 2 _) from pg_tup (n := 2) rfl (pgs_cons (pg_name (i := 4) sc_read_shape.nd rfl (Or.inl rfl)) (pgs_cons (pg_name (i := 5) sc_read_shape.nd rfl (Or.inl rfl)) pgs_nil)))
    (pss_cons (ps_if (pt_cmpR op_ge (pv 4) (pe_callB (r := rLenA K) call_len (by rfl) T.len (by decide +kernel) (pa_cons (pv 2) pa_nil)) (nomark _)) pss_never pss_nil)
  (pss_cons (ps_set (i := 2) sc_read_shape.nd rfl (Or.inl rfl) (pe_slice (r := rSlL K) sl_list (pv 2) po_none (po_some (pe_op op_add (pv 4) pe_int))))
  (pss_one (ps_if (pt_cmpR op_eq (pe_ix (r := rIxL K) ix_list (pv 5) pe_int (fun _ _ => rfl)) pe_str (nomark _)) (pss_one (ps_expr (show PE _ _ (tBM K _ _ _ _) from pe_bm PySem.F.plainAttrs_list PySem.F.slot_list_append PySem.F.type_list_append mt_append (pv 1) (pa_cons (pe_ix (r := rIxL K) ix_list (pv 5) pe_int (fun _ _ => rfl)) pa_nil)))) (pss_one (ps_if (pt_cmpR op_eq (pe_ix (r := rIxL K) ix_list (pv 5) pe_int (fun _ _ => rfl)) pe_str (nomark _)) (pss_one (ps_dput (hu_of hr) (pe_dget (hu_of hr) (pe_ix (r := rIxL K) ix_list (pv 2) (pv 4) (fun _ _ => rfl)) pe_str (fun _ _ => rfl)) (pe_ix (r := rIxL K) ix_list (pv 5) pe_int (fun _ _ => rfl)) (pe_callTy (r := rTupA K) call_tuple_of (by rfl) T.tuple (by decide +kernel) (pa_cons (pe_slice (r := rSlL K) sl_list (pv 5) (po_some pe_int) po_none) pa_nil)) rfl)) (pss_cons (ps_expr (show PE _ _ (tBM K _ _ _ _) from pe_bm PySem.F.plainAttrs_list PySem.F.slot_list_append PySem.F.type_list_append mt_append (pv 2) (pa_cons (pe_disp (pps_cons pe_str pe_dnewK (pps_cons pe_str pe_dnewK pps_nil)) (by rfl) (by rfl) (fun z => by cases z) (by decide)) pa_nil)))
  (pss_one (ps_dput (hu_of hr) (pe_dget (hu_of hr) (pe_ix (r := rIxL K) ix_list (pv 2) (pv 4) (fun _ _ => rfl)) pe_str (fun _ _ => rfl)) (pe_ix (r := rIxL K) ix_list (pv 5) pe_int (fun _ _ => rfl)) (pe_ix (r := rIxL K) ix_list (pv 2) (pe_op op_add (pv 4) pe_int) (fun _ _ => rfl)) rfl))))))))))
  (pss_cons (ps_try_thru0 (pss_one (ps_set (i := 6) sc_read_shape.nd rfl (Or.inl rfl) (pmk G_Shape T.mk_Shape T.kp_Shape T.at_Shape hr (pa_cons (pv 1) (pa_cons (pv 3) pa_nil))))))
  (pss_cons (ps_if (pt_cmpR op_ne (pcl G_write_shape hr (pa_cons (pv 6) pa_nil)) (pv 0) (nomark _)) pss_never pss_nil)
  (pss_one (ps_ret (pv 6))))))))), ?_⟩
    have okc := okC_of hz
    have rows := rd_sh fw hz.2.2
    have l14 := shLn_len l2 hz
    refine Evl.q_asgL (xs := []) (Evl.el_lst Evl.ea_nil (Nat.zero_le _)) fun qf H1 hqf0 e1 hqf1 => ?_
    refine q_go ?_
    refine lst1 (disp_go (t1 := tDNewK) (t2 := tDNewK) (fun _ _ _ h => h) (fun _ _ _ h => h) fun Rt F0 L H2 e2 hR0 hF0 hL0 RF RL FL hR hF hL => ⟨(by show 1 ≤ sizeLine; decide), fun ar har => ?_⟩)
    have hL0' : H L = none := Evl.fresh_back e1 hL0
    have e3 : Ex H2 (upd H2 ar (.lst [.ref Rt])) := Ex.new har
    have har3 : (upd H2 ar (.lst [.ref Rt])) ar = some (.lst [.ref Rt]) := upd_same
    have arq : ar ≠ qf := fun e => by rw [e, e2 _ _ hqf1] at har; cases har
    have har0 : H ar = none := Evl.fresh_back (e1.trans e2) har
    generalize (upd H2 ar (.lst [.ref Rt])) = H3 at e3 har3 ⊢
    refine Evl.q_asg (v := .ref L) (ev_node (Evl.ev_var rfl) har3 Evl.ev_c (atI_nat (j := 0) rfl) (e3 _ _ hR) nd_inner) fun H4 e4 => ?_
    have e34 := e3.trans e4
    have e14 := e2.trans e34
    refine ⟨_, rfl, shLn fl cs, rfl, (fun q hq => (rows q hq).1), by omega, fun H5 qz zs e5 hqz0 hqz pz => ⟨qz, rfl, ⟨zs, Evl.sq_of hqz⟩, for_list (K := K) (a := qz) (xs := zs) (fun i σ' Hx => ∃ (ar : Addr) (ns : List Addr) (fl1 : List Str) (o4 o5 : Option V), σ' = [some (.str (shT fl cs)), some (.ref qf), some (.ref ar), some (.ref L), o4, o5, none] ∧ Ex H Hx ∧ Hx qf = some (.lst (fl1.map V.str)) ∧ Hx ar = some (.lst (ns.map V.ref)) ∧ ar ≠ qf ∧ Hx qz = some (.lst zs) ∧ NodeAt Hx Rt F0 L ∧ Bld H Hx qf Rt L cs fl fl1 ns ((shLn fl cs).drop i) ∧ Paired (LnRq qf Hx) (shLn fl cs) zs ∧ fl1.length ≤ 2) ?_ (fun i σ' Hx _ p => ?_) (fun i x σ' Hx hx pv => ?_) fun σ' Hx pv => ?_⟩⟩
    · have e15 := e14.trans e5
      have hq5 := e15 _ _ hqf1
      refine ⟨ar, [Rt], [], _, _, rfl, e1.trans e15, hq5, (e4.trans e5) _ _ har3, arq, hqz, (e34.trans e5) _ _ hR, .s0 [] [] _ ⟨[], cs, [], (fun _ => False), fl, rfl, rfl, rfl, (e34.trans e5) _ _ hL, .nil, fun b h => h.elim⟩, pair_impM pz fun r hr z h => ?_, Nat.zero_le _⟩
      obtain ⟨t, a, h1, h2, h3⟩ := h
      refine ⟨t, a, h1, h2, fun e => rd_ne (rows r hr).1 ?_, h3⟩
      rw [e, hq5] at h3
      have := Option.some.inj h3
      injection this with this
      exact (List.map_eq_nil_iff.mp this.symm)
    · obtain ⟨_, _, _, _, _, _, _, _, _, _, h, _⟩ := p; exact Evl.sq_of h
    · obtain ⟨ar, ns, fl1, o4, o5, rfl, ex, hqx, harx, arq, hqzx, hRx, bld, pzx, lf1⟩ := pv
      obtain ⟨row, hrow, t, a, rfl, ht, naq, ha⟩ := pair_back pzx hx
      have nqz : qz ≠ qf := fun e => by rw [e, e14 _ _ hqf1] at hqz0; cases hqz0
      have hd : (shLn fl cs).drop i = row :: (shLn fl cs).drop (i + 1) := by
        have := (List.getElem?_eq_some_iff.mp hrow)
        obtain ⟨h1, h2⟩ := this
        rw [List.drop_eq_getElem_cons h1, h2]
      have r3 := (rows row (List.mem_of_getElem? hrow)).2
      obtain ⟨lv, ws⟩ := row
      have lvn : ∃ n, ns[lv]? = some n := by
        rcases r3 with ⟨x, hr3⟩ | ⟨k, hr3⟩ | ⟨k, ws', hr3, _⟩
        · obtain rfl : ws = [("flag" : Str), x] := hr3
          obtain ⟨lv0, ⟨more, hns⟩, _⟩ := step_flag hqx bld hd
          subst lv0 hns
          exact ⟨Rt, rfl⟩
        · obtain rfl : ws = [("list" : Str), k] := hr3
          obtain ⟨n, fa, ia, ies, hn, _⟩ := step_list okc hqx hRx RL hL0' bld hd
          exact ⟨n, hn⟩
        · obtain rfl : ws = ("field" : Str) :: k :: ws' := hr3
          obtain ⟨n, fa, ia, ies, hn, _⟩ := step_field okc hqx hRx bld hd
          exact ⟨n, hn⟩
      obtain ⟨n0, hn0⟩ := lvn
      have lvb : lv < ns.length := (List.getElem?_eq_some_iff.mp hn0).1
      refine ⟨t, _, rfl, Evl.st_of ht, rfl, _, _, rfl, _, _, rfl, rfl, ?_⟩
      -- not too deep
      refine Evl.q_when (b := false) (Evl.et_is (Evl.et_test (Evl.ev_op (Evl.ev_var rfl) (ev_lenL (Evl.ev_var rfl) (.inl (Evl.sq_of harx))) Evl.rv_I0)) (decide_eq_false (by rw [List.length_map]; omega))) (fun h => nomatch h) fun _ H6 e6 => ?_
      have bld6 := bld.ex e6
      have hq6 := e6 _ _ hqx
      have hR6 : NodeAt H6 Rt F0 L := e6 _ _ hRx
      have ex6 := ex.trans e6
      refine Evl.q_asgL (Evl.el_sl (Evl.ev_var rfl) Evl.eo_none (Evl.eo_some (Evl.ev_op (Evl.ev_var rfl) Evl.ev_c Evl.rv_I0)) (Evl.sq_of (e6 _ _ harx))) fun ar2 H7 har2 e7 har7 => ?_
      have ct : cutV (ns.map V.ref) none (some ((lv : Int) + 1)) = (ns.take (lv + 1)).map V.ref := (cut_take (n := lv + 1)).trans List.map_take.symm
      rw [ct] at har7
      have ltk : ((ns.take (lv + 1)).map V.ref).length = lv + 1 := by rw [List.length_map, List.length_take]; omega
      have ntk : (ns.take (lv + 1))[lv]? = some n0 := by rw [List.getElem?_take_of_lt (by omega)]; exact hn0
      have ntv : ((ns.take (lv + 1)).map V.ref)[lv]? = some (.ref n0) := by rw [List.getElem?_map, ntk]; rfl
      have ar2q : ar2 ≠ qf := fun e => by rw [e, hq6] at har2; cases har2
      have ar2z : ar2 ≠ qz := fun e => by rw [e, e6 _ _ hqzx] at har2; cases har2
      have aar : ar2 ≠ a := fun e => by rw [e, e6 _ _ ha] at har2; cases har2
      rcases r3 with ⟨x, hr3⟩ | ⟨k', hr3⟩ | ⟨k', ws', hr3, _⟩
      · obtain rfl : ws = [("flag" : Str), x] := hr3
        refine Evl.s_if (b := true) (Evl.et_is (Evl.et_test (Evl.ev_op (Evl.ev_op (Evl.ev_var rfl) Evl.ev_c (Evl.rv_ixL (Evl.sq_of ((e6.trans e7) _ _ ha)) (atI_nat (j := 0) rfl))) Evl.ev_c (Evl.rv_eq rfl))) (decide_eq_true rfl)) (fun _ H8 e8 => ?_) (fun h => nomatch h)
        refine Evl.s_app (v := .str x) ((e7.trans e8) _ _ hq6) (Evl.ev_var rfl) (Evl.ev_op (Evl.ev_var rfl) Evl.ev_c (Evl.rv_ixL (Evl.sq_of ((e6.trans (e7.trans e8)) _ _ ha)) (atI_nat (j := 1) rfl))) (by rw [List.length_map]; omega) fun H9 e9 => ?_
        obtain ⟨lv0, ⟨more, hns⟩, lf, stp⟩ := step_flag hq6 bld6 hd
        have e69 := e7.trans (e8.trans e9)
        have hq9 := e69 _ _ hq6
        have st : ∀ b o, b ≠ qf → H6 b = some o → (upd H9 qf (.lst (fl1.map V.str ++ [.str x]))) b = some o := fun b o n hb => by rw [upd_ne n]; exact e69 _ _ hb
        refine ⟨ar2, ns.take (lv + 1), fl1 ++ [x], _, _, rfl, Ex.mut (ex6.trans e69) hqf0, by rw [upd_same, List.map_append]; rfl, by rw [upd_ne ar2q]; exact (e8.trans e9) _ _ har7, ar2q, st _ _ nqz (e6 _ _ hqzx), st _ _ (fun e => by have h6 : H6 Rt = _ := hR6; rw [e, hq6] at h6; cases h6) hR6, stp _ st, pair_imp pzx fun r z h => lnq_move hq6 (fun _ e => nomatch e) (.inr rfl) st (h.ex e6), by rw [List.length_append, List.length_singleton]; omega⟩
      · obtain rfl : ws = [("list" : Str), k'] := hr3
        refine Evl.s_if (b := false) (Evl.et_is (Evl.et_test (Evl.ev_op (Evl.ev_op (Evl.ev_var rfl) Evl.ev_c (Evl.rv_ixL (Evl.sq_of ((e6.trans e7) _ _ ha)) (atI_nat (j := 0) rfl))) Evl.ev_c (Evl.rv_eq rfl))) (str_eq2 w_ne.1.symm)) (fun h => nomatch h) (fun _ H8 e8 => ?_)
        refine Evl.s_if (b := false) (Evl.et_is (Evl.et_test (Evl.ev_op (Evl.ev_op (Evl.ev_var rfl) Evl.ev_c (Evl.rv_ixL (Evl.sq_of ((e6.trans (e7.trans e8)) _ _ ha)) (atI_nat (j := 0) rfl))) Evl.ev_c (Evl.rv_eq rfl))) (str_eq2 w_ne.2.2)) (fun h => nomatch h) (fun _ H9 e9 => ?_)
        have e79 := e8.trans e9
        have e69 := e7.trans e79
        obtain ⟨n, fa, ia, ies, hn, node, hia, nov, l10, ia0, lv2, niR, stp⟩ := step_list okc hq6 hR6 RL hL0' bld6 hd
        have : n0 = n := Option.some.inj (hn0.symm.trans hn)
        subst this
        refine ⟨_, rfl, Or.inl ⟨rfl, _, Evl.sq_of (e79 _ _ har7)⟩, ?_⟩
        refine disp_go (t1 := tDNewK) (t2 := tDNewK) (fun _ _ _ h => h) (fun _ _ _ h => h) fun N F I Ha ea hN0 hF0' hI0 NF NI FI hN hF' hI => ⟨ar2, _, .ref N, rfl, rfl, (e79.trans ea) _ _ har7, Evl.sz_lt (by rw [ltk]; omega), ?_⟩
        have e6a := e69.trans ea
        have back : ∀ {b}, H9 b = none → H6 b = none := fun h => Evl.fresh_back e69 h
        have sa : ∀ b o, b ≠ ar2 → Ha b = some o → (upd Ha ar2 (.lst ((ns.take (lv + 1)).map V.ref ++ [.ref N]))) b = some o := fun b o nb hb => by rw [upd_ne nb]; exact hb
        have s6 : ∀ b o, H6 b = some o → (upd Ha ar2 (.lst ((ns.take (lv + 1)).map V.ref ++ [.ref N]))) b = some o := fun b o hb => sa b o (fun e => by rw [e, har2] at hb; cases hb) (e6a _ _ hb)
        have ne9 : ∀ {b}, H9 b = none → b ≠ ar2 := fun h e => by rw [e, e79 _ _ har7] at h; cases h
        have hNb := sa _ _ (ne9 hN0) hN
        have hFb := sa _ _ (ne9 hF0') hF'
        have hIb := sa _ _ (ne9 hI0) hI
        have harb : (upd Ha ar2 (.lst ((ns.take (lv + 1)).map V.ref ++ [.ref N]))) ar2 = some (.lst ((ns.take (lv + 1)).map V.ref ++ [.ref N])) := upd_same
        generalize (upd Ha ar2 (.lst ((ns.take (lv + 1)).map V.ref ++ [.ref N]))) = Hb at s6 hNb hFb hIb harb ⊢
        have hab := s6 _ _ (e6 _ _ ha)
        refine s_dput (k := Sum.inr k') (vv := .ref N) (es := ies) (a := ia) (Evl.ev_op (Evl.ev_var rfl) (Evl.ev_op (Evl.ev_var rfl) Evl.ev_c Evl.rv_I0) (Evl.rv_ixL (Evl.sq_of harb) (atI_nat (j := lv + 1) (by rw [List.getElem?_append_right (by omega), ltk, Nat.sub_self]; rfl)))) (ev_node (Evl.ev_var rfl) harb (Evl.ev_var rfl) (atI_nat (j := lv) (by rw [List.getElem?_append_left (by omega)]; exact ntv)) (s6 _ _ node) nd_inner) (Evl.ev_op (Evl.ev_var rfl) Evl.ev_c (Evl.rv_ixL (Evl.sq_of hab) (atI_nat (j := 1) rfl))) (s6 _ _ hia) (by omega) fun Hc ec => ?_
        have hiac := ec _ _ (s6 _ _ hia)
        have st : ∀ b o, b ≠ ia → H6 b = some o → (upd Hc ia (.dK (putK ies (Sum.inr k') (.ref N)))) b = some o := fun b o nb hb => by rw [upd_ne nb]; exact ec _ _ (s6 _ _ hb)
        have sc : ∀ b o, b ≠ ia → Hb b = some o → (upd Hc ia (.dK (putK ies (Sum.inr k') (.ref N)))) b = some o := fun b o nb hb => by rw [upd_ne nb]; exact ec _ _ hb
        have nia : ∀ {b}, H9 b = none → b ≠ ia := fun h e => by rw [e, e69 _ _ hia] at h; cases h
        have ari : ar2 ≠ ia := fun e => by rw [e, hia] at har2; cases har2
        have fr6 : ∀ {b}, H9 b = none → H b = none := fun h => Evl.fresh_back (ex6.trans e69) h
        have exc : Ex H (upd Hc ia (.dK (putK ies (Sum.inr k') (.ref N)))) := fun b o hb => st b o (fun e => by rw [e, ia0] at hb; cases hb) (ex6 _ _ hb)
        have bl := stp _ N F I st (by rw [upd_same, putK_new _ nov]) (back hN0) (back hF0') (back hI0) (fr6 hN0) (fr6 hF0') (fr6 hI0) NF NI FI (sc _ _ (nia hN0) hNb) (sc _ _ (nia hF0') hFb) (sc _ _ (nia hI0) hIb)
        exact ⟨ar2, ns.take (lv + 1) ++ [N], fl1, _, _, rfl, exc, st _ _ (fun e => by rw [← e, hq6] at hia; cases hia) hq6, by rw [List.map_append]; exact sc _ _ ari harb, ar2q, st _ _ (fun e => by rw [← e, e6 _ _ hqzx] at hia; cases hia) (e6 _ _ hqzx), st _ _ (Ne.symm niR) hR6, bl, pair_imp pzx fun r z h => lnq_move hia (fun _ e => nomatch e) (.inl fun _ e => nomatch e) st (h.ex e6), lf1⟩
      · obtain rfl : ws = ("field" : Str) :: k' :: ws' := hr3
        refine Evl.s_if (b := false) (Evl.et_is (Evl.et_test (Evl.ev_op (Evl.ev_op (Evl.ev_var rfl) Evl.ev_c (Evl.rv_ixL (Evl.sq_of ((e6.trans e7) _ _ ha)) (atI_nat (j := 0) rfl))) Evl.ev_c (Evl.rv_eq rfl))) (str_eq2 w_ne.2.1.symm)) (fun h => nomatch h) (fun _ H8 e8 => ?_)
        refine Evl.s_if (b := true) (Evl.et_is (Evl.et_test (Evl.ev_op (Evl.ev_op (Evl.ev_var rfl) Evl.ev_c (Evl.rv_ixL (Evl.sq_of ((e6.trans (e7.trans e8)) _ _ ha)) (atI_nat (j := 0) rfl))) Evl.ev_c (Evl.rv_eq rfl))) (decide_eq_true rfl)) (fun _ H9 e9 => ?_) (fun h => nomatch h)
        have e79 := e8.trans e9
        have e69 := e7.trans e79
        obtain ⟨n, fa, ia, fes, hn, node, hfa, nov, l10, fa0, lv2, nfR, stp⟩ := step_field okc hq6 hR6 bld6 hd
        have : n0 = n := Option.some.inj (hn0.symm.trans hn)
        subst this
        have ha9 := (e6.trans e69) _ _ ha
        have tup : EvU (tCB (rTupA K) (tCons (tSl (rSlL K) (tVar 5) (tPart (tC (.int 2))) tNoPart) tNil)) [some (.str (shT fl cs)), some (.ref qf), some (.ref ar2), some (.ref L), some (.int (lv : Int)), some (.ref a), none] H9 (ws'.map V.str) := by
          have := eu_tupL (K := K) (te := tSl (rSlL K) (tVar 5) (tPart (tC (.int 2))) tNoPart) (σ := [some (.str (shT fl cs)), some (.ref qf), some (.ref ar2), some (.ref L), some (.int (lv : Int)), some (.ref a), none]) (Evl.el_sl (lo := some 2) (hi := none) (Evl.ev_var (i := 5) rfl) (Evl.eo_some Evl.ev_c) Evl.eo_none (Evl.sq_of ha9))
          rw [show cutV (((lv, ("field" : Str) :: k' :: ws').2).map V.str) (some 2) none = ws'.map V.str from cut_two] at this
          exact this
        refine s_dputU (k := Sum.inr k') (es := fes) (a := fa) tup (ev_node (Evl.ev_var rfl) (e79 _ _ har7) (Evl.ev_var rfl) (atI_nat (j := lv) ntv) (e69 _ _ node) nd_fields) (Evl.ev_op (Evl.ev_var rfl) Evl.ev_c (Evl.rv_ixL (Evl.sq_of ha9) (atI_nat (j := 1) rfl))) (e69 _ _ hfa) (by omega) fun tp Hc htp ec htc => ?_
        have e6c := e69.trans ec
        have st : ∀ b o, b ≠ fa → H6 b = some o → (upd Hc fa (.dK (putK fes (Sum.inr k') (.ref tp)))) b = some o := fun b o nb hb => by rw [upd_ne nb]; exact e6c _ _ hb
        have exc : Ex H (upd Hc fa (.dK (putK fes (Sum.inr k') (.ref tp)))) := fun b o hb => st b o (fun e => by rw [e, fa0] at hb; cases hb) (ex6 _ _ hb)
        have arf : ar2 ≠ fa := fun e => by rw [e, hfa] at har2; cases har2
        have tpf : tp ≠ fa := fun e => by rw [e, e69 _ _ hfa] at htp; cases htp
        have bl := stp _ tp st (by rw [upd_ne tpf]; exact htc) (by rw [upd_same, putK_new _ nov])
        exact ⟨ar2, ns.take (lv + 1), fl1, _, _, rfl, exc, st _ _ (fun e => by rw [← e, hq6] at hfa; cases hfa) hq6, by rw [upd_ne arf]; exact (e79.trans ec) _ _ har7, ar2q, st _ _ (fun e => by rw [← e, e6 _ _ hqzx] at hfa; cases hfa) (e6 _ _ hqzx), st _ _ (Ne.symm nfR) hR6, bl, pair_imp pzx fun r z h => lnq_move hfa (fun _ e => nomatch e) (.inl fun _ e => nomatch e) st (h.ex e6), lf1⟩
    · obtain ⟨ar, ns, fl1, o4, o5, rfl, ex, hqx, harx, arq, hqzx, hRx, bld, pzx, lf1⟩ := pv
      have lz := pair_len pzx
      obtain ⟨es, S, rfl, hL, pes, hS⟩ := bld_end okc hqx bld (by rw [← lz]; exact List.drop_length)
      have les := pair_len pes
      have rL : Rep Hx 7 (fun b => (S b ∨ b = L) ∧ Hx b ≠ none) (lsD cs) (.ref L) := rep_dom ⟨L, es, rfl, .inr rfl, hL, by unfold lsL; rw [List.length_map, les]; have := hz.1; omega, pair_mapL (pair_imp pes fun p e h => ⟨h.1, rep_S (fun b hb => ⟨.inl hb, fun z => (hS b hb).2 (by rw [z]; exact List.mem_cons_of_mem _ List.mem_cons_self)⟩) h.2⟩)⟩
      refine ⟨_, rfl, _, rfl, ?_⟩
      intro x dx hx hdx nxd
      have old : ∀ b o, Hx b = some o → (upd (upd Hx dx (.own x)) x (.ins C_Shape dx [])) b = some o := fun b o h => by
        have n1 : b ≠ x := fun e => by rw [e, hx] at h; cases h
        have n2 : b ≠ dx := fun e => by rw [e, hdx] at h; cases h
        rw [upd_ne n1, upd_ne n2]; exact h
      have bk : ∀ b, (upd (upd Hx dx (.own x)) x (.ins C_Shape dx [])) b = none → H b = none := fun b hb => by
        cases e : H b with
        | none => rfl
        | some o => rw [old _ _ (ex _ _ e)] at hb; cases hb
      refine ⟨x, dx, qf, fl1, .ref L, 7, _, lsD cs, cs, rfl, upd_same, old _ _ hqx, l2, fw, fnd, rep_ex old rL, shD_ls cs, hz, fun h => h.2 hx, fun H6 fl' fr6 permf so hS6 => ⟨rfl, ?_⟩⟩
      have : fl' = fl1 := sort_uniq permf l2 so fso
      subst this
      have e6 : Ex Hx H6 := fun b o h => fr6 b o (fun e => by rw [e, hx] at h; cases h) (old _ _ h)
      have hS7 : ShapeAt C_Shape H6 x fl' cs (fun b => H b = none) := by
        obtain ⟨dx', ft, tb, h1, h2, h3⟩ := hS6
        exact ⟨dx', ft, tb, h1, h2, rep_S (fun b hb => bk b hb) h3⟩
      have wr : Ev (tCall (spWrite C_Shape) [] E0 (tCons (tVar 6) tNil)) [some (.str (shT fl' cs)), some (.ref qf), some (.ref ar), some (.ref L), o4, o5, some (.ref x)] H6 (.str (shT fl' cs)) := fun H7 e7 Q' q' => ⟨_, rfl, x, fl', cs, _, rfl, hS7.ex e7, hz, l2, fw, fun H8 e8 => by rw [hcan]; exact q' H8 e8⟩
      refine Evl.q_when (b := false) (Evl.et_is (Evl.et_test (Evl.ev_op wr (Evl.ev_var rfl) (Evl.rv_ne rfl))) (by rw [decide_eq_true rfl]; rfl)) (fun h => nomatch h) fun _ H7 e7 => ?_
      exact Evl.s_ret (Evl.ev_var rfl) fun H8 e8 => k H8 x (ex.trans (e6.trans (e7.trans e8))) (Evl.fresh_back ex hx) (hS7.ex (e7.trans e8))
end
end Pk

/-! sorted(d, reverse=True) of a dict of texts. -/
namespace Ssb
open PySem PySem.Spec PyProof.Rows L2 Srt SrtO
section
variable {prog : Program} {w : World} {A : Around} {E : Value → Shared → Prop} {s : Shared}
def sv : Value → List Nat
  | .str x _ => x.cps.toList
  | _ => []
def ltSv (v u : Value) : Bool := decide (sv v < sv u)
theorem swo_str : Swo ltSv where
  asym a b up := decide_eq_false (p := sv b < sv a) fun down => List.lt_irrefl (sv a) (List.lt_trans (of_decide_eq_true (p := sv a < sv b) up) down)
  tr a b c ab bc := decide_eq_false (p := sv c < sv a) fun down =>
    of_decide_eq_false (p := sv b < sv a) ab (List.lt_of_le_of_lt (List.not_lt.mp (of_decide_eq_false (p := sv c < sv b) bc)) down)
theorem str_cmp {us : List Value} {ks : List Str} (texts : StrsAre us ks) : Cmp prog w A s oneType' (fun p => p.1 ∈ us) (lt2 ltSv) := fun left right inL inR => by
  obtain ⟨x, tx, ex⟩ := texts.all _ inL
  obtain ⟨y, ty, ey⟩ := texts.all _ inR
  show wpAny (model prog w) A (keyLt' oneType' left.1 right.1) (fun r s' => s' = s ∧ r = ltSv left.1 right.1) (fun _ _ => False) s
  rw [ex, ey, keyLt'_oneType]
  exact oneLt_str ⟨rfl, rfl⟩
theorem strs_sortable {at_ : Addr} {us : List Value} {ks : List Str} (texts : StrsAre us ks) (two : 2 ≤ us.length) : SortableO prog w A s at_ us ltSv := fun h' _ => ⟨oneType', fun Q E hq => by
  obtain ⟨u1, u2, rest, rfl⟩ : ∃ u1 u2 rest, us = u1 :: u2 :: rest := by
    rcases us with _ | ⟨u1, _ | ⟨u2, rest⟩⟩
    · exact (Nat.not_succ_le_zero 1 two).elim
    · exact (Nat.not_succ_le_self 1 two).elim
    · exact ⟨u1, u2, rest, rfl⟩
  rw [keyKind_strs texts]
  exact wpAny_pure hq, str_cmp texts⟩
end
/-- what a dict of texts gives when it is gone through -/
theorem dict_texts {vs : List (Key × Value)} {ks : List Str} {got : Array Value} (names : vs.map (·.1) = ks.map Sum.inr) (n : got.toList.length = ks.length) (each : ∀ (j : Nat) (v : Value), got[j]? = some v → ∃ (k : Key) (x : Value), vs[j]? = some (k, x) ∧ keyIs k v = true) : StrsAre got.toList ks :=
  strs_at n fun j v at_ => by
    obtain ⟨k, x, there, is⟩ := each j v (by rw [← Array.getElem?_toList]; exact at_)
    have name : (ks.map (Sum.inr : Str → Key))[j]? = some k := by rw [← names, List.getElem?_map, there]; rfl
    rw [List.getElem?_map] at name
    obtain ⟨y, hy, rfl⟩ := Option.map_eq_some_iff.mp name
    obtain ⟨t, tv⟩ := Value.isStrOf_shape (x := y) (v := v) is
    exact ⟨y, t, hy, tv⟩
def rSortDR : List V → List V → Hp → VK → Prop := fun xs zs H Q => ∃ (a : Addr) (kvs : List (Key × V)) (ks : List Str), xs = [.ref a] ∧ zs = [.bl true] ∧ Rd H a (.dK kvs) ∧ kvs.map (·.1) = ks.map Sum.inr ∧ ks.length < 64 ∧ ∀ (ys : List Str) (p : Addr), ys.Perm ks → H p = none → Q (.ref p) (upd H p (.lst (ys.map V.str)))
section
variable {X : Cx}
theorem call_sortedDR (still : X.calm = true) : CallRK X (.builtin "sorted") [Str.ofString "reverse"] rSortDR := by
  rintro pins s σ H xs zs us ws Q I rx rz ⟨d, kvs, ks, rfl, rfl, hd, names, few, q⟩
  cases Vals.ref1 rx
  obtain ⟨flag, rfl, is⟩ := vals1 rz
  cases (show flag = Value.bool true from is)
  obtain ⟨_, od, vs, same, dd⟩ := dk_rd I.hok hd
  obtain ⟨epoch, here⟩ := dd.dictAt
  have names' : vs.map (·.1) = ks.map Sum.inr := same.keys.symm.trans names
  have n : vs.length = ks.length := by simpa using congrArg List.length names'
  refine call_function_entry_kw kind_sorted plain_sorted entry_sorted (PyProof.Rows.args_sorted_rev _ _) ?_
  unfold Builtin.«sorted»
  refine wpAny_bind (m := checkCount "sorted" 1 1 _) (wpAny_pure (wpAny_bind (PySem.W.kdu_collect (A := X.A.in1) (PySem.W.kdl_dict (knd := mixKind X.prog X.w) (kvs := vs) (ep := epoch) od) (I.ok.hd still) here (by rw [n, sizeLine_eq]; omega) fun h1 toks got kept each => ?_)))
  have many : got.toList.length = ks.length := by rw [← n, ← each.1]; exact Array.length_toList
  have texts : StrsAre got.toList ks := dict_texts names' many each.2
  have fits : got.toList.length ≤ sizeLine := by rw [many, sizeLine_eq]; omega
  have J : Inv X pins σ H { s with heap := h1, toks := toks } := I.kept kept
  have new : (h1.push (seqObj "list" got.toList.toArray 0)).get? h1.objs.size = some (seqObj "list" got.toList.toArray 0) := Heap.get?_push_size _ rfl
  refine wpAny_bind (wpAny_newList ?_ fits)
  show wpAny _ _ _ _ _ { s with heap := h1.push (seqObj "list" got.toList.toArray 0), toks := toks }
  refine wpAny_bind (wpAny_holding (wpAny_call_entry_kw slot_list_sort ⟨_, new, rfl⟩ entry_list_sort (SrtR.list_sort_ordR (b := true) swo_str new fits (fun two => strs_sortable texts two) fun out _ stable => ⟨_, rfl, ?_⟩) (PyProof.Rows.args_list_sort_rev _ _)))
  have turned : out.reverse.Perm got.toList := (List.reverse_perm out).trans ((show Stb ltSv out got.toList.reverse from stable).perm.trans (List.reverse_perm _))
  have outTexts : StrsAre out.reverse (out.reverse.map strOf) := strsAre_map _ fun v hv => texts.all v (turned.mem_iff.mp hv)
  have outKeys : (out.reverse.map strOf).Perm ks := by simpa only [texts.strs] using turned.map strOf
  obtain ⟨epoch', laid⟩ := PyProof.Rows.sortedHeap_at (vs := got.toList) (out := out.toArray.reverse) new
  have flip : out.toArray.reverse = out.reverse.toArray := by simp
  have small : ((out.reverse.map strOf).map V.str).length ≤ sizeLine := by
    simp only [List.length_map, List.length_reverse] at *
    have := outKeys.length_eq
    simp only [List.length_map, List.length_reverse] at this
    rw [this, sizeLine_eq]; omega
  have obj : ObjOk X.prog X.w (upd H h1.objs.size (.lst ((out.reverse.map strOf).map V.str))) (sortedHeap (h1.push (seqObj "list" got.toList.toArray 0)) h1.objs.size got.toList (if true = true then out.toArray.reverse else out.toArray)) h1.objs.size (.lst ((out.reverse.map strOf).map V.str)) :=
    ⟨small, out.reverse, epoch', vals_of_strs outTexts, by rw [if_pos rfl, flip]; rw [flip] at laid; exact laid⟩
  exact wpAny_pure ⟨_, rfl, .ref h1.objs.size, _, J.laid (t' := toks) (fun b u old => by
    have lt := Heap.lt_size old
    rw [PyProof.Rows.sortedHeap_old (Nat.ne_of_lt lt) (by rw [size_push']; exact Nat.lt_succ_of_lt lt)]
    exact Heap.get?_push_of_some _ old) (Nat.le_refl _) obj, rfl, q _ _ outKeys (J.hok.fresh (Nat.le_refl _))⟩
end
end Ssb

namespace Pk
open PySem PySem.Spec PyProof.Rows L2 Ssb
open Evl (Ex Ev EvT EvL EvA EvU)
/-! ### the lists in another order -/
theorem perm_lk {s : Sh} {ys : List Str} (nd : (s.map (·.1)).Nodup) (p : ys.Perm (s.map (·.1))) : (ys.map fun k => (k, (s.lookup k).getD ([], []))).Perm s := by
  have h := p.map fun k => (k, (s.lookup k).getD ([], []))
  refine h.trans (List.Perm.of_eq ?_)
  rw [List.map_map]
  have : ∀ x ∈ s, ((fun k => (k, (s.lookup k).getD ([], []))) ∘ (·.1)) x = x := fun x hx => by
    show (x.1, (s.lookup x.1).getD ([], [])) = x
    rw [lk_of_mem (x := x.2) nd hx]; rfl
  exact (List.map_congr_left this).trans (List.map_id' s)
section
variable {P : Program} {w : World} {K : PySem.W.Frag} {mg : Str → Option Value} {base : Heap} {C_Shape C_SHAPES : Addr}
def spTurned : Sp := fun vs H Q _ => ∃ (d : Addr) (m : Nat) (S : Addr → Prop) (s : Sh), vs = [.ref d] ∧ Rep H (m + 1) S (lsD s) (.ref d) ∧ s.length ≤ 2 ∧ (s.map (·.1)).Nodup ∧
  ∀ H' q s', Ex H H' → H q = none → s'.Perm s → Rep H' (m + 1) (fun b => S b ∨ b = q) (lsD s') (.ref q) → Q (.ref q) H'
theorem ok__law_turned (T : Txt K mg C_Shape C_SHAPES) (R : Prg K mg C_Shape C_SHAPES) : ∃ f fd, Fn P w K mg base "_law_turned" 1 ["_law_value"] spTurned f fd := by
  obtain ⟨f, fd, at_, F, kp⟩ := R._law_turned
  refine ⟨f, fd, F.ok sc__law_turned (fun vs H Q E h => ?_) (fun cdv A outer s H vs Q E hr h => ?_), at_, kp, F.binds (fun _ _ _ _ _ _ us hl => match us, hl with | [_], _ => rfl)⟩
  · obtain ⟨d, m, S, s, rfl, _⟩ := h; rfl
  · obtain ⟨d, m, S, z, rfl, hv, l2, nd, k⟩ := h
    refine ⟨_, (pss_cons (ps_set (i := 1) sc__law_turned.nd rfl (Or.inl rfl) pe_dnewK)
  (pss_cons (ps_for PassesOwn.never rfl (show PI _ _ _ (iList K _) from pi_list (show PE _ _ (tCKw rSortDR _ _) from pe_callBK (call_sortedDR rfl) (by rfl) T.sorted (by decide +kernel) (pa_cons (pv 0) pa_nil) (pk_cons pe_bl pk_nil))) (pg_name (i := 2) sc__law_turned.nd rfl (Or.inl rfl))
    (pss_one (ps_dput (hu_of hr) (pv 1) (pv 2) (pe_dget (hu_of hr) (pv 0) (pv 2) (fun _ _ => rfl)) rfl)))
  (pss_one (ps_ret (pv 1))))), ?_⟩
    obtain ⟨d0, es, e, sd, hd, _, pr⟩ := hv
    cases e
    have ek : (lsL z).map (·.1) = z.map (·.1) := lsL_names z
    have ekeys : es.map (·.1) = (z.map (·.1)).map Sum.inr := by rw [pair_keys pr, ek]
    refine q_go ?_
    intro q hq
    have e1 := Ex.new (o := .dK []) hq
    have qd : q ≠ d := fun e => by rw [e, hd] at hq; cases hq
    refine ⟨_, rfl, d, es, z.map (·.1), rfl, rfl, .inl (e1 _ _ hd), ekeys, by rw [List.length_map]; omega, fun ys p perm hp => ?_⟩
    have e2 := Ex.new (o := .lst (ys.map V.str)) hp
    have qp : p ≠ q := fun e => by rw [e, upd_same] at hp; cases hp
    have ly : ys.length ≤ 2 := by rw [perm.length_eq, List.length_map]; exact l2
    refine ⟨p, rfl, ⟨_, Evl.sq_of upd_same⟩, for_list (K := K) (a := p) (xs := ys.map V.str) (fun i σ' Hx => ∃ (o2 : Option V) (es' : List (Key × V)), σ' = [some (.ref d), some (.ref q), o2] ∧ Ex H Hx ∧ Hx p = some (.lst (ys.map V.str)) ∧ Hx q = some (.dK es') ∧ Paired (fun (x : Str × D) (e : Key × V) => e.1 = Sum.inr x.1 ∧ Rep Hx m (fun b => (S b ∧ b ≠ d) ∧ H b ≠ none) x.2 e.2) ((lsL (ys.map fun k => (k, (z.lookup k).getD ([], [])))).take i) es') ?_ (fun i σ' Hx _ p => ?_) (fun i x σ' Hx hx pv => ?_) fun σ' Hx pv => ?_⟩
    · exact ⟨_, [], rfl, e1.trans e2, upd_same, e2 _ _ upd_same, .nil⟩
    · obtain ⟨_, _, _, _, h, _⟩ := p; exact Evl.sq_of h
    · obtain ⟨o2, es', rfl, ex, hpx, hqx, pes⟩ := pv
      rw [List.getElem?_map] at hx
      cases hk : ys[i]? with
      | none => rw [hk] at hx; cases hx
      | some kk =>
      rw [hk] at hx
      cases hx
      obtain ⟨g, hm⟩ := key_mem (perm.mem_iff.mp (List.mem_of_getElem? hk))
      obtain ⟨v, hv, rv⟩ := rep_entry pr (lk_of_mem (by rw [ek]; exact nd) (List.mem_map.mpr ⟨(kk, g), hm, rfl⟩))
      have hi : (lsL (ys.map fun k => (k, (z.lookup k).getD ([], []))))[i]? = some (kk, elD g.1 g.2) := by
        unfold lsL
        rw [List.map_map, List.getElem?_map, hk]
        show some (kk, elD ((z.lookup kk).getD ([], [])).1 ((z.lookup kk).getD ([], [])).2) = _
        rw [lk_of_mem nd hm]; rfl
      have le : es'.length ≤ 2 := by rw [← pair_len pes, List.length_take]; unfold lsL; rw [List.length_map, List.length_map]; omega
      have il : i < ys.length := (List.getElem?_eq_some_iff.mp hk).1
      have nov : valV es' (Sum.inr kk : Key) = none := vV_no (by
        rw [pair_keys pes]
        refine inr_not fun hm => ?_
        have e : ((lsL (ys.map fun k => (k, (z.lookup k).getD ([], [])))).take i).map (·.1) = ys.take i := by
          rw [List.map_take, lsL_names, List.map_map]
          show List.take i (List.map (fun k => k) ys) = _
          rw [List.map_id']
        rw [e] at hm
        exact not_take (perm.symm.nodup nd) hk hm)
      refine s_dput (k := Sum.inr kk) (vv := v) (es := es') (a := q) (fun H1 e Q' q' => ⟨_, rfl, _, rfl, d, v, rfl, .inl ⟨es, Sum.inr kk, .inl (e _ _ (ex _ _ hd)), rfl, hv.symm⟩, q' H1 (Ex.refl _)⟩) (Evl.ev_var rfl) (Evl.ev_var rfl) hqx (by omega) fun H1 e1 => ?_
      have hq1 := e1 _ _ hqx
      refine ⟨_, es' ++ [(Sum.inr kk, v)], rfl, Ex.mut (ex.trans e1) hq, by rw [upd_ne qp]; exact e1 _ _ hpx, by rw [upd_same, putK_new _ nov], ?_⟩
      have mv : ∀ {x : Str × D} {e : Key × V}, Rep Hx m (fun b => (S b ∧ b ≠ d) ∧ H b ≠ none) x.2 e.2 → Rep (upd H1 q (.dK (putK es' (Sum.inr kk) v))) m (fun b => (S b ∧ b ≠ d) ∧ H b ≠ none) x.2 e.2 := fun h => rep_upd hq1 (fun _ z => nomatch z) (fun b hb e => hb.2 (by rw [e]; exact hq)) (rep_ex e1 h)
      rw [take_snoc hi]
      exact pair_snoc (pair_imp pes fun x e h => ⟨h.1, mv h.2⟩) ⟨rfl, mv (x := (kk, elD g.1 g.2)) (e := (Sum.inr kk, v)) (rep_ex ex (rep_dom rv))⟩
    · obtain ⟨o2, es', rfl, ex, hpx, hqx, pes⟩ := pv
      have el : (ys.map V.str).length = (lsL (ys.map fun k => (k, (z.lookup k).getD ([], [])))).length := by unfold lsL; rw [List.length_map, List.length_map, List.length_map]
      rw [el, List.take_length] at pes
      refine Evl.s_ret (Evl.ev_var rfl) fun H1 e1 => k H1 q _ (ex.trans e1) hq (perm_lk nd perm) ⟨q, es', rfl, .inr rfl, e1 _ _ hqx, by unfold lsL; rw [List.length_map, List.length_map]; omega, pair_imp pes fun x e h => ⟨h.1, rep_ex e1 (rep_S (fun b hb => ⟨.inl hb.1.1, fun z => hb.2 (by rw [z]; exact hq)⟩) h.2)⟩⟩
end
end Pk

/-! d != e of two dicts that say the same, in any order. -/
namespace Ssb
open PySem PySem.Spec PyProof.Rows L2
section
variable {X : Cx}
def rNeQ (K : PySem.W.Frag) : R2 := fun x y H Q => ∃ n a c ks ls, ∃ e : Key → Bool, n ≤ 50 ∧ x = .ref a ∧ y = .ref c ∧ H a = some (.dK ks) ∧ H c = some (.dK ls) ∧ (∀ (k : Key) (x y : V), (k, x) ∈ ks → valV ls k = some y → EqB K H n x y (e k)) ∧
  (ks.length == ls.length && ks.all fun p => (valV ls p.1).isSome && e p.1) = true ∧ Q (.bl false) H
theorem op_neQ (hu : X.A.units + 64 < cLine) : OpR X (compareOp .NotEq) (rNeQ X.K) := by
  intro pins s σ H x y v u Q I rx ry h
  obtain ⟨n, a, c, ks, ls, e, hn, rfl, rfl, ha, hc, he, hb, q⟩ := h
  cases rx; cases ry
  obtain ⟨_, ya, va, ra, da⟩ := (show ObjOk X.prog X.w H s.heap a (.dK ks) from I.hok a _ ha)
  obtain ⟨_, yb, vb, rb, db⟩ := (show ObjOk X.prog X.w H s.heap c (.dK ls) from I.hok c _ hc)
  obtain ⟨h1, h2⟩ := Bool.and_eq_true_iff.mp hb
  have h2 := List.all_eq_true.mp h2
  have hall : ∀ p ∈ va, (valueAt vb p.1).isSome = true := fun p hp => by
    obtain ⟨x, hx, _⟩ := kv_mem ra (v := p.2) hp
    have h3 := (Bool.and_eq_true_iff.mp (h2 _ hx)).1
    have := rb.val p.1
    cases hv : valV ls p.1 with
    | none => rw [show ((p.1, x) : Key × V).1 = p.1 from rfl, hv] at h3; cases h3
    | some y =>
      rw [hv] at this
      cases hw : valueAt vb p.1 with
      | none => rw [hw] at this; exact this.elim
      | some z => rfl
  have it : ∀ k v y, (k, v) ∈ va → valueAt vb k = some y → PySem.W.EqTree X.prog X.w s n v y true := fun k v y hm hv => by
    obtain ⟨x, hx, rx⟩ := kv_mem ra hm
    have h3 := (Bool.and_eq_true_iff.mp (h2 _ hx)).2
    have := rb.val k
    rw [hv] at this
    cases hy : valV ls k with
    | none => rw [hy] at this; exact this.elim
    | some y' =>
      rw [hy] at this
      have := eqB_tree I (he k x y' hx hy) rx this
      rw [show e k = true from h3] at this
      exact this
  have hits : va.length = vb.length → PySem.W.KeqHitsP X.prog X.w X.A.in1 s vb va true := fun _ => hits_T (n := n) (by show X.A.units + 1 + n < cLine; omega) hall it
  have et : (va.length == vb.length) = true := by rw [← ra.length, ← rb.length]; exact h1
  refine wpAny_richCompare_same_room (op := .NotEq) da.typeIs db.typeIs PySem.F.slot_dict_ne (wpAny_call_entry PySem.F.slot_dict_ne da.typeIs PySem.F.entry_dict_ne ?_ (PySem.F.args_dict_ne_2 _ _)) (by omega)
  show wpAny _ _ (Builtin.Dict.dictSlotArgs "__ne__" ⟨[.ref a, .ref c], []⟩ >>= _) _ _ s
  refine wpAny_bind ?_
  unfold Builtin.Dict.dictSlotArgs
  refine wpAny_bind (wpAny_notOrdered_dict da.typeIs ?_)
  show wpAny _ _ (pure (Value.ref a, Value.ref c)) _ _ s
  refine wpAny_pure ?_
  refine wpAny_bind (wpAny_isInstance (T := "dict") db.typeIs PySem.F.sub_dict_dict ?_)
  simp only [Bool.not_true, Bool.false_eq_true, if_false]
  refine wpAny_bind (wpAny_pure (wpAny_bind (wpAny_pure ?_)))
  refine wpAny_bind (PySem.W.samePairsP ya yb da db hits ?_)
  refine wpAny_pure ⟨_, rfl, ?_, ?_⟩
  · exact fun x => nomatch x
  · rw [et]
    exact ⟨.bl false, H, I, rfl, q⟩
end
end Ssb

namespace Pk
open PySem PySem.Spec PyProof.Rows L2 Ssb
open Evl (Ex Ev EvT EvL EvA EvU)
open TL (tl ext_tl tl_append tl_join joinL join_eq split_join len_tl)
/-! ### the law: pure facts -/
theorem lt_asym : ∀ xs ys : List Nat, ltCps xs ys = true → ltCps ys xs = false
  | [], [], h => nomatch h
  | [], _ :: _, _ => rfl
  | _ :: _, [], h => nomatch h
  | a :: r, b :: t, h => by
    simp only [ltCps, Bool.or_eq_true, decide_eq_true_eq, Bool.and_eq_true, beq_iff_eq] at h
    simp only [ltCps, Bool.or_eq_false_iff, decide_eq_false_iff_not, Bool.and_eq_false_iff, beq_eq_false_iff_ne]
    rcases h with h | ⟨rfl, h⟩
    · exact ⟨by omega, .inl (by omega)⟩
    · exact ⟨by omega, .inr (lt_asym r t h)⟩
theorem srt_so {l : List Str} (h : l.length ≤ 2) : sortedS (srt l) = true := by
  have e : ∃ m : List Str, m.Perm l ∧ sortedS m = true := by
    match l, h with
    | [], _ => exact ⟨[], .refl _, rfl⟩
    | [a], _ => exact ⟨[a], .refl _, rfl⟩
    | [a, b], _ =>
      cases hb : ltCps b.cps.toList a.cps.toList with
      | false => exact ⟨[a, b], .refl _, by simp only [sortedS, risingS, Bool.and_true, Bool.not_eq_true']; exact hb⟩
      | true => exact ⟨[b, a], .swap _ _ _, by simp only [sortedS, risingS, Bool.and_true, Bool.not_eq_true']; exact lt_asym _ _ hb⟩
  unfold srt
  rw [dif_pos e]
  exact e.choose_spec.2
theorem srt_pm {l l' : List Str} (h : l.length ≤ 2) (p : l'.Perm l) : srt l' = srt l := srt_eq h (srt_perm.trans p) (srt_so (by rw [p.length_eq]; exact h))
theorem perm_lkG {α : Type} {l : List (Str × α)} {ys : List Str} (d : α) (nd : (l.map (·.1)).Nodup) (p : ys.Perm (l.map (·.1))) : (ys.map fun k => (k, (l.lookup k).getD d)).Perm l := by
  refine (p.map fun k => (k, (l.lookup k).getD d)).trans (List.Perm.of_eq ?_)
  rw [List.map_map]
  have : ∀ x ∈ l, ((fun k => (k, (l.lookup k).getD d)) ∘ (·.1)) x = x := fun x hx => by
    show (x.1, (l.lookup x.1).getD d) = x
    rw [lk_of_mem (x := x.2) nd hx]; rfl
  exact (List.map_congr_left this).trans (List.map_id' l)
theorem canF_pm {f : Fl} (h : okFl f) : (canF f).Perm f := perm_lkG [] h.2.1 srt_perm
theorem canF_pe {f f' : Fl} (h : okFl f) (p : f'.Perm f) : canF f' = canF f := by
  have pk := p.map (·.1)
  unfold canF
  rw [srt_pm (by rw [List.length_map]; exact h.1) pk]
  refine List.map_congr_left fun k hk => ?_
  obtain ⟨a, ha⟩ := key_mem (srt_mem.mp hk)
  rw [lk_of_mem h.2.1 ha, lk_of_mem (pk.symm.nodup h.2.1) (p.mem_iff.mpr ha)]
theorem canF_can {f : Fl} (h : okFl f) : canF (canF f) = canF f := canF_pe h (canF_pm h)
theorem nd1 {i : List (Str × Fl)} (h : i.length ≤ 1) : (i.map (·.1)).Nodup := nd_one h
theorem canI_mem {i : List (Str × Fl)} (h1 : i.length ≤ 1) {k : Str} {f : Fl} (h : (k, f) ∈ i) : (k, canF f) ∈ canI i := by
  unfold canI
  refine List.mem_map.mpr ⟨k, srt_mem.mpr (mem_key h), ?_⟩
  rw [lk_of_mem (nd1 h1) h]; rfl
theorem canI_back {i : List (Str × Fl)} (h1 : i.length ≤ 1) {k : Str} {f : Fl} (h : (k, f) ∈ canI i) : ∃ f0, (k, f0) ∈ i ∧ f = canF f0 := by
  unfold canI at h
  obtain ⟨k', hk, e⟩ := List.mem_map.mp h
  cases e
  obtain ⟨a, ha⟩ := key_mem (srt_mem.mp hk)
  exact ⟨a, ha, by rw [lk_of_mem (nd1 h1) ha]; rfl⟩
theorem canS_in {s : Sh} (nd : (s.map (·.1)).Nodup) {k : Str} {f : Fl} {i : List (Str × Fl)} (h : (k, f, i) ∈ s) : (k, canF f, canI i) ∈ canS s := by
  unfold canS
  refine List.mem_map.mpr ⟨k, srt_mem.mpr (mem_key h), ?_⟩
  rw [lk_of_mem nd h]; rfl
theorem canS_back {s : Sh} (nd : (s.map (·.1)).Nodup) {k : Str} {f : Fl} {i : List (Str × Fl)} (h : (k, f, i) ∈ canS s) : ∃ f0 i0, (k, f0, i0) ∈ s ∧ f = canF f0 ∧ i = canI i0 := by
  unfold canS at h
  obtain ⟨k', hk, e⟩ := List.mem_map.mp h
  cases e
  obtain ⟨⟨a, b⟩, ha⟩ := key_mem (srt_mem.mp hk)
  exact ⟨a, b, ha, by rw [lk_of_mem nd ha]; rfl, by rw [lk_of_mem nd ha]; rfl⟩
theorem keysI {i : List (Str × Fl)} : (canI i).map (·.1) = srt (i.map (·.1)) := can_keys
theorem keysS {s : Sh} : (canS s).map (·.1) = srt (s.map (·.1)) := can_keys
theorem canS_ok {s : Sh} (h : okSh s) : okSh (canS s) := by
  obtain ⟨c1, c2⟩ := canS_mem h
  refine ⟨c1, ?_, c2⟩
  have nd := sh_nd h.2.1
  have key : ∀ l : List Str, (∀ k ∈ l, k ∈ s.map (·.1)) → ((l.map fun k => (k, canF ((s.lookup k).getD ([], [])).1, canI ((s.lookup k).getD ([], [])).2)).flatMap rowsOf |>.map (fun r : Ro => r.1)).Perm ((l.map fun k => (k, (s.lookup k).getD ([], []))).flatMap rowsOf |>.map (fun r : Ro => r.1)) := by
    intro l
    induction l with
    | nil => intro _; exact .refl _
    | cons k l ih =>
      intro hl
      rw [List.map_cons, List.map_cons, List.flatMap_cons, List.flatMap_cons, List.map_append, List.map_append]
      refine List.Perm.append ?_ (ih fun x hx => hl x (List.mem_cons_of_mem _ hx))
      unfold rowsOf
      rw [List.map_cons, List.map_cons, List.map_map, List.map_map]
      refine List.Perm.cons _ ?_
      show (List.map (fun q : Str × Fl => q.1) (canI _)).Perm (List.map (fun q : Str × Fl => q.1) _)
      rw [keysI]
      exact srt_perm
  have p1 := key (srt (s.map (·.1))) fun k hk => srt_mem.mp hk
  have p2 : ((srt (s.map (·.1))).map fun k => (k, (s.lookup k).getD ([], []))).Perm s := perm_lk nd srt_perm
  have p3 := (p2.flatMap_right rowsOf).map (·.1)
  exact (p1.trans p3).symm.nodup h.2.1
theorem canI_can {i : List (Str × Fl)} (h1 : i.length ≤ 1) (h : ∀ q ∈ i, okFl q.2) : canI (canI i) = canI i := by
  have e : srt ((canI i).map (·.1)) = srt (i.map (·.1)) := by rw [keysI]; exact srt_pm (by rw [List.length_map]; omega) srt_perm
  have ln : (canI i).length ≤ 1 := by unfold canI; rw [List.length_map, srt_len, List.length_map]; exact h1
  show (srt ((canI i).map (·.1))).map (fun k => (k, canF (((canI i).lookup k).getD []))) = _
  rw [e]
  show _ = (srt (i.map (·.1))).map (fun k => (k, canF ((i.lookup k).getD [])))
  refine List.map_congr_left fun k hk => ?_
  obtain ⟨a, ha⟩ := key_mem (srt_mem.mp hk)
  rw [lk_of_mem (nd1 h1) ha, lk_of_mem (nd1 ln) (canI_mem h1 ha)]
  show (k, canF (canF a)) = (k, canF a)
  rw [canF_can (h _ ha)]
theorem canS_can {s : Sh} (h : okSh s) : canS (canS s) = canS s := by
  have nd := sh_nd h.2.1
  have nd2 := sh_nd (canS_ok h).2.1
  have e : srt ((canS s).map (·.1)) = srt (s.map (·.1)) := by rw [keysS]; exact srt_pm (by rw [List.length_map]; exact h.1) srt_perm
  show (srt ((canS s).map (·.1))).map (fun k => (k, canF (((canS s).lookup k).getD ([], [])).1, canI (((canS s).lookup k).getD ([], [])).2)) = _
  rw [e]
  show _ = (srt (s.map (·.1))).map (fun k => (k, canF ((s.lookup k).getD ([], [])).1, canI ((s.lookup k).getD ([], [])).2))
  refine List.map_congr_left fun k hk => ?_
  obtain ⟨⟨a, b⟩, ha⟩ := key_mem (srt_mem.mp hk)
  obtain ⟨_, w2, w3, w4⟩ := h.2.2 _ ha
  rw [lk_of_mem nd ha, lk_of_mem nd2 (canS_in nd ha)]
  show (k, canF (canF a), canI (canI b)) = (k, canF a, canI b)
  rw [canF_can w2, canI_can w3 fun q hq => (w4 q hq).2]
theorem okSh_pm {s s' : Sh} (h : okSh s) (p : s'.Perm s) : okSh s' := ⟨by rw [p.length_eq]; exact h.1, ((p.flatMap_right rowsOf).map (·.1)).symm.nodup h.2.1, fun x hx => h.2.2 x (p.mem_iff.mp hx)⟩
theorem canS_pe {s s' : Sh} (h : okSh s) (p : s'.Perm s) : canS s' = canS s := by
  have pk := p.map (·.1)
  have nd := sh_nd h.2.1
  unfold canS
  rw [srt_pm (by rw [List.length_map]; exact h.1) pk]
  refine List.map_congr_left fun k hk => ?_
  obtain ⟨a, ha⟩ := key_mem (srt_mem.mp hk)
  rw [lk_of_mem nd ha, lk_of_mem (pk.symm.nodup nd) (p.mem_iff.mpr ha)]
theorem FE_can {f : Fl} (h : okFl f) : FE (canF f) f = true := (dEq_iff (canF_ok h).2.1 h.2.1).mpr ⟨fun k a ha => ⟨a, (canF_pm h).mem_iff.mp ha, decide_eq_true rfl⟩, fun k a ha => ⟨a, (canF_pm h).mem_iff.mpr ha, decide_eq_true rfl⟩⟩
theorem TbE_can {s : Sh} (h : okSh s) : TbE (canS s) s = true := by
  rw [← LE_TE (canS_ok h) h]
  have nd := sh_nd h.2.1
  have ie : ∀ {i : List (Str × Fl)}, i.length ≤ 1 → (∀ q ∈ i, okFl q.2) → IE (canI i) i = true := fun {i} h1 hq => by
    have ln : (canI i).length ≤ 1 := by unfold canI; rw [List.length_map, srt_len, List.length_map]; exact h1
    refine (dEq_iff (nd1 ln) (nd1 h1)).mpr ⟨fun k a ha => ?_, fun k a ha => ⟨canF a, canI_mem h1 ha, FE_can (hq _ ha)⟩⟩
    obtain ⟨f0, h0, rfl⟩ := canI_back h1 ha
    exact ⟨f0, h0, FE_can (hq _ h0)⟩
  have both : ∀ {k : Str} {f : Fl} {i : List (Str × Fl)}, (k, f, i) ∈ s → (FE (canF f) f && IE (canI i) i) = true := fun {k f i} hm => by
    obtain ⟨_, w2, w3, w4⟩ := h.2.2 _ hm
    rw [FE_can w2, ie w3 fun q hq => (w4 q hq).2]; rfl
  refine (dEq_iff (sh_nd (canS_ok h).2.1) nd).mpr ⟨fun k a ha => ?_, fun k b hb => ⟨_, canS_in nd (f := b.1) (i := b.2) hb, both hb⟩⟩
  obtain ⟨f0, i0, hm, e1, e2⟩ := canS_back nd (f := a.1) (i := a.2) ha
  exact ⟨(f0, i0), hm, by rw [e1, e2]; exact both hm⟩
theorem tl_flag : tl ("flag " : Str) = tl ("flag" : Str) ++ [32] := by decide +kernel
theorem line_flag (k : Str) : ("flag " : Str) ++ k = lineW 0 [("flag" : Str), k] := ext_tl (by
  rw [tl_append, tl_line, tl_flag, tl_ws]
  show _ = [] ++ (tl ("flag" : Str) ++ ([32] ++ tl k))
  simp only [List.nil_append, List.append_assoc])
theorem due_eq (fl : List Str) (cs : Sh) : catT ((fl.map (fun k => lineW 0 [("flag" : Str), k]) ++ (cs.flatMap (lnV 0)).map fun x => lineW x.1 x.2).map (· ++ ("\n" : Str))) = shT fl cs := by
  unfold shT shLn
  rw [List.map_append, List.map_append, List.map_map, List.map_map, List.map_map]
  rfl
/-- != of two dicts of fields that say the same -/
theorem ne_fl {f1 f2 : Fl} (h1 : okFl f1) (h2 : okFl f2) (h : FE f1 f2 = true) {K : PySem.W.Frag} {H : Hp} {m1 m2 : Nat} {S1 S2 : Addr → Prop} {v1 v2 : V} (r1 : Rep H m1 S1 (flD f1) v1) (r2 : Rep H m2 S2 (flD f2) v2) {Q : VK} (q : Q (.bl false) H) : rNeQ K v1 v2 H Q := by
  obtain ⟨a, c, ks, ls, e, rfl, rfl, ha, hc, he, hb⟩ := dic_top (n := 1) (α := List Str) (L1 := f1) (L2 := f2) (G := fun _ d ws => d = .tup (ws.map .str)) (g := fun _ a b => decide (a = b)) (pair_map fun x _ => ⟨rfl, rfl⟩) (pair_map fun x _ => ⟨rfl, rfl⟩) h1.2.1 h2.2.1 (fun k a b x y _ _ ha hb => by subst ha hb; exact de_words a b) (K := K) r1 r2
  exact ⟨1, a, c, ks, ls, e, by decide, rfl, rfl, ha, hc, he, by rw [hb]; exact h, q⟩
theorem ne_lsts {K : PySem.W.Frag} {H : Hp} {a c : Addr} {xs : List Str} (ha : SqL K H a (xs.map V.str)) (hc : SqL K H c (xs.map V.str)) (wx : ∀ x ∈ xs, isW x) {Q : VK} (q : Q (.bl false) H) : rNeD K (.ref a) (.ref c) H Q :=
  ⟨_, _, .lst ha (dp_strs xs), .lst hc (dp_strs xs), (shaped_strs wx).1, (shaped_strs wx).1, by
    have : PyData.eqv (.list (xs.map PyData.str)) (.list (xs.map PyData.str)) = true := by simp only [PyData.eqv]; rw [eqv_strs]; exact decide_eq_true rfl
    rw [this]; exact q⟩
theorem ne_tups {K : PySem.W.Frag} {H : Hp} {a c : Addr} {xs : List Str} (ha : H a = some (.tup (xs.map V.str))) (hc : H c = some (.tup (xs.map V.str))) (wx : ∀ x ∈ xs, isW x) {Q : VK} (q : Q (.bl false) H) : rNeD K (.ref a) (.ref c) H Q :=
  ⟨_, _, .tup (Evl.st_of ha) (dp_strs xs), .tup (Evl.st_of hc) (dp_strs xs), (shaped_strs wx).2, (shaped_strs wx).2, by
    have : PyData.eqv (.tuple (xs.map PyData.str)) (.tuple (xs.map PyData.str)) = true := by simp only [PyData.eqv]; rw [eqv_strs]; exact decide_eq_true rfl
    rw [this]; exact q⟩
/-- what stands at one list of a shape's data -/
theorem el_at {H : Hp} {m : Nat} {S : Addr → Prop} {f : Fl} {i : List (Str × Fl)} {v : V} (h : Rep H m S (elD f i) v) : ∃ t es2 fa ia es3 m', v = .ref t ∧ H t = some (.dK es2) ∧ valV es2 (Sum.inr "fields" : Key) = some (.ref fa) ∧ valV es2 (Sum.inr "inner" : Key) = some (.ref ia) ∧ Rep H m' (fun b => S b ∧ b ≠ t) (flD f) (.ref fa) ∧ H ia = some (.dK es3) ∧ es3.map (·.1) = (i.map (·.1)).map Sum.inr := by
  cases m with
  | zero => exact h.elim
  | succ m =>
  obtain ⟨t, es2, rfl, _, ht, _, pr2⟩ := h
  obtain ⟨v1, h1, r1⟩ := rep_entry (k := ("fields" : Str)) (d := flD f) pr2 rfl
  obtain ⟨v2, h2, r2⟩ := rep_entry (k := ("inner" : Str)) (d := .dic (inL i)) pr2 el_i
  obtain ⟨fa, _, e1, _⟩ := fl_new r1
  subst e1
  cases m with
  | zero => exact r2.elim
  | succ m =>
  obtain ⟨ia, es3, rfl, _, hia, _, pr3⟩ := r2
  exact ⟨t, es2, fa, ia, es3, _, rfl, ht, h1, h2, r1, hia, by rw [pair_keys pr3, inL_names]⟩
end Pk

namespace Pk
open PySem PySem.Spec PyProof.Rows L2 Ssb
open Evl (Ex Ev EvT EvL EvA EvU)
/-! ### the law -/
def rEqX (K : PySem.W.Frag) (C : Addr) : R2 := fun x y H Q => rEqU K x y H Q ∨ rOwnB K C (EqR K C) id x y H Q
theorem op_neX {X : Cx} {f : Addr} {fd : FuncData} {ps : List Str} {C : Addr} {n j : Nat} (hr : Room j X.A) (G : FnOk X.prog X.w X.K X.mg X.base CX0 n f fd ps (spB2 (EqR X.K C))) (hs : EqFacts X.K C f) (hn : NeFacts X.K C) (hb : Binds X.K fd ps []) (hj : n + 1 ≤ j) : OpR X (compareOp .NotEq) (rOwnB X.K C (EqR X.K C) not) :=
  op_ownNe (hr.mono hj) G hs hn hb L2.pass0
theorem own_shape {K : PySem.W.Frag} {mg : Str → Option Value} {C C2 : Addr} (T : Txt K mg C C2) {g : Bool → Bool} {H : Hp} {p p2 : Addr} {fl fl2 : List Str} {s s2 : Sh} {S S2 : Addr → Prop} {Q : VK} (h1 : ShapeAt C H p fl s S) (h2 : ShapeAt C H p2 fl2 s2 S2) (o1 : okSh s) (o2 : okSh s2) (w1 : ∀ z ∈ fl, isW z) (w2 : ∀ z ∈ fl2, isW z)
    {b : Bool} (hb : (decide (fl = fl2) && TbE s s2) = b) (q : ∀ H', Ex H H' → Q (.bl (g b)) H') : rOwnB K C (EqR K C) g (.ref p) (.ref p2) H Q := by
  obtain ⟨dx, ft, tb, a1, a2⟩ := id h1
  obtain ⟨dx2, ft2, tb2, b1, b2⟩ := id h2
  exact ⟨p, dx, _, .ref C, b, rfl, a1, ty_shape T b1, by simp [PySem.W.notFirst], ⟨p, fl, s, S, rfl, h1, o1, w1, .inl ⟨p2, fl2, s2, S2, rfl, h2, o2, w2, hb.symm⟩⟩, q⟩
section
variable {K : PySem.W.Frag} {σ : L2.St} {H : Hp} {td ty te : TE}
theorem el_sorted {a : Addr} {fl : List Str} (h : Ev te σ H (.ref a)) (ha : H a = some (.lst (fl.map V.str))) (h2 : fl.length ≤ 2) : EvL (tCB (rSortedS K) (tCons te tNil)) σ H ((srt fl).map V.str) := fun H1 e Q q =>
  h H1 e _ fun H2 e2 => ⟨a, fl, rfl, Evl.sq_of ((e.trans e2) _ _ ha), by omega, fun ys p perm so hp => q p _ (Evl.fresh_back e2 hp) (e2.trans (Ex.new hp)) (by rw [upd_same, srt_eq h2 perm so])⟩
theorem ev_dg {d : Addr} {es : List (Key × V)} {k : Key} {v : V} (h1 : Ev td σ H (.ref d)) (h2 : Ev ty σ H (kV k)) (hd : Rd H d (.dK es)) (hv : valV es k = some v) : Ev (tDGet td ty) σ H v := fun H1 e Q q =>
  h1 H1 e _ fun H2 e2 => h2 H2 (e.trans e2) _ fun H3 e3 => ⟨d, v, rfl, .inl ⟨es, k, hd.imp (fun z => ((e.trans e2).trans e3) _ _ z) (fun ⟨o, z⟩ => ⟨o, ((e.trans e2).trans e3) _ _ z⟩), rfl, hv.symm⟩, q H3 (e2.trans e3)⟩
end
theorem due_rows (fl : List Str) (cs : Sh) : fl.map (fun k => V.str (lineW 0 [("flag" : Str), k])) ++ ((cs.flatMap (lnV 0)).map lnS) = ((shLn fl cs).map fun x => lineW x.1 x.2).map V.str := by
  unfold shLn
  rw [List.map_append, List.map_append, List.map_map, List.map_map, List.map_map]
  rfl
theorem due_text (rs : List (Nat × List Str)) : catT ((rs.map fun x => lineW x.1 x.2).map (· ++ ("\n" : Str))) = catT (rs.map rowT) := by rw [List.map_map]; rfl
theorem kids_in {s : Sh} (h : okSh s) {k : Str} {f : Fl} {i : List (Str × Fl)} (hm : (k, f, i) ∈ s) : kids (canS s) (some k) = srt (i.map (·.1)) := by
  have := kids_of (p := (k, canF f, canI i)) (sh_nd (canS_ok h).2.1) (canS_in (sh_nd h.2.1) hm)
  rw [this]
  exact keysI
theorem ShapeAt.lock {C : Addr} {H : Hp} {p a : Addr} {fl : List Str} {s : Sh} {S : Addr → Prop} {es : List (Key × V)} {u : HO} (ha : H a = some (.dK es)) (hS : ∀ b, S b → b ≠ a) (h : ShapeAt C H p fl s S) : ShapeAt C (upd H a u) p fl s S := by
  obtain ⟨dx, ft, tb, h1, h2, h3⟩ := h
  exact ⟨dx, ft, tb, by rw [upd_ne (fun e => by rw [e, ha] at h1; cases h1)]; exact h1, by rw [upd_ne (fun e => by rw [e, ha] at h2; cases h2)]; exact h2, rep_lock ha hS h3⟩
theorem main_ok {l : PySem.W.OpenLaw} {w : World} {K : PySem.W.Frag} {mg : Str → Option Value} {fa C_Shape C_SHAPES : Addr} (T : Txt K mg C_Shape C_SHAPES) (R : Prg K mg C_Shape C_SHAPES) (hfa : mg "law" = some (.ref fa)) :
    ∃ fd : FuncData, (∀ (s : Shared) (v : Value), BindsTo s fd ⟨[v], []⟩ [("_law_script", v)]) ∧ ∀ base : Heap, K.In base → base.Ns mainGlobals mg → FnOk l.prog w K mg base CX0 60 fa fd ["_law_script"] (spLaw K) := by
  obtain ⟨f, fd, at_, F, kp⟩ := R.law
  have e := hfa.symm.trans at_
  cases e
  obtain ⟨oc, od, kV_, doc, pm, an, cdv0, ct, osl, rfl, lk, hcd⟩ := F.ex
  refine ⟨PySem.W.fnOf "law" "law" (defArgs s_law) (defBody s_law) (defScope s_law) .none kV_ doc pm an cdv0 ct, fun s v => .of_eq rfl, fun base _ _ => ?_⟩
  obtain ⟨_, _, G__law_open⟩ := ok__law_open (P := l.prog) (w := w) (base := base) T R
  obtain ⟨_, _, G__law_draw⟩ := ok__law_draw (P := l.prog) (w := w) (base := base) T R
  obtain ⟨_, _, G__law_rich⟩ := ok__law_rich (P := l.prog) (w := w) (base := base) T R
  obtain ⟨_, _, G_Shape⟩ := ok_Shape_init (P := l.prog) (w := w) (base := base) T R
  obtain ⟨_, _, G__law_copy⟩ := ok__law_copy (P := l.prog) (w := w) (base := base) T R 7
  obtain ⟨_, _, G__law_turned⟩ := ok__law_turned (P := l.prog) (w := w) (base := base) T R
  obtain ⟨_, _, G__law_text⟩ := ok__law_text (P := l.prog) (w := w) (base := base) T R
  obtain ⟨_, _, G__law_shape_lines⟩ := ok__law_shape_lines (P := l.prog) (w := w) (base := base) T R 4
  obtain ⟨_, _, G_write_shape⟩ := ok_write_shape (P := l.prog) (w := w) (base := base) T R
  obtain ⟨_, _, G_read_shape⟩ := ok_read_shape (P := l.prog) (w := w) (base := base) T R
  obtain ⟨_, _, G_Shape_fields⟩ := ok_Shape_fields (P := l.prog) (w := w) (base := base) T R
  obtain ⟨_, _, G_Shape_inner⟩ := ok_Shape_inner (P := l.prog) (w := w) (base := base) T R
  obtain ⟨_, _, G_Shape_outer⟩ := ok_Shape_outer (P := l.prog) (w := w) (base := base) T R
  obtain ⟨_, _, G_eq, G_eqF, G_eqB⟩ := ok_Shape_eq (P := l.prog) (w := w) (base := base) T R
  refine F.ok sc_law (fun vs H Q E h => ?_) (fun cdv A outer s H vs Q E hr h => ?_)
  · obtain ⟨a, ns, rfl, _⟩ := h; rfl
  · obtain ⟨a, ns, rfl, hs, ns63, k⟩ := h
    refine ⟨_, (pss_cons (ps_set (i := 1) sc_law.nd rfl (Or.inl rfl) (pcl G__law_open hr (pa_cons (pv 0) pa_nil)))
  (pss_cons (ps_set (i := 2) sc_law.nd rfl (Or.inl rfl) (pcl G__law_rich hr (pa_cons (pv 1) pa_nil)))
  (pss_cons (ps_set (i := 3) sc_law.nd rfl (Or.inl rfl) (pe_callTy (r := rListA K) call_list_of (by rfl) T.list (by decide +kernel) (pa_cons (pe_ix (r := rIxL K) ix_list (pv 2) pe_int (fun _ _ => rfl)) pa_nil)))
  (pss_cons (ps_set (i := 4) sc_law.nd rfl (Or.inl rfl) (pcl G__law_copy hr (pa_cons (pe_ix (r := rIxL K) ix_list (pv 2) pe_int (fun _ _ => rfl)) pa_nil)))
  (Evl.pss_cut (ps_if (pt_cmpR op_eq (pcl G__law_draw hr (pa_cons (pv 1) (pa_cons pe_int pa_nil))) pe_int (nomark _)) (pss_cons (ps_expr (show PE _ _ (tBM0 K _ _ _) from pe_bm0 PySem.F.plainAttrs_list PySem.F.slot_list_reverse PySem.F.type_list_reverse mt_reverse (pv 3)))
  (pss_one (ps_set (i := 4) sc_law.nd rfl (Or.inl rfl) (pcl G__law_turned hr (pa_cons (pv 4) pa_nil))))) pss_nil)
  (pss_cons (ps_set (i := 5) sc_law.nd rfl (Or.inl rfl) (pmk G_Shape T.mk_Shape T.kp_Shape T.at_Shape hr (pa_cons (pv 3) (pa_cons (pv 4) pa_nil))))
  (pss_cons (ps_set (i := 6) sc_law.nd rfl (Or.inl rfl) (pcl G__law_text hr (pa_cons (pe_op op_cat (pe_lc (own := [("_law_flag", 10)]) rfl sc_law.nd (show PI _ _ _ (iList K _) from pi_list (pe_callB (r := rSortedS K) cr_sortedS (by rfl) T.sorted (by decide +kernel) (pa_cons (pv 3) pa_nil))) (blkOk_by (own := [("_law_flag", 10)]) (N := ["_law_script", "_law_state", "_law_spec", "_law_flags", "_law_lists", "_law_shape", "_law_due", "_law_text_here", "_law_told", "_law_name", "_law_flag"]) (sc := defScope s_law) (by decide +kernel)) (fun _ _ _ _ _ => (pg_name (i := 10) sc_law.nd rfl (Or.inl rfl))) (fun _ _ _ _ _ => pts_nil) (fun _ _ _ _ _ => (pe_op op_add_str pe_str (pv 10)))) (pcl G__law_shape_lines hr (pa_cons (pe_ix (r := rIxL K) ix_list (pv 2) pe_int (fun _ _ => rfl)) (pa_cons pe_int pa_nil)))) pa_nil)))
  (pss_cons (ps_set (i := 7) sc_law.nd rfl (Or.inl rfl) (pcl G_write_shape hr (pa_cons (pv 5) pa_nil)))
  (pss_cons (ps_if (PW.pt (pw_or (pt_not (pt_val (pe_callB (r := rIsi K) call_isi (by rfl) T.isinstance (by decide +kernel) (pa_cons (pv 7) (pa_cons (pe_bltn (v := .ty "str") (by rfl) T.str boot_str rfl) pa_nil))))) (pw_or1 (pt_cmpR op_ne (pv 7) (pv 6) (nomark _))))) pss_never pss_nil)
  (pss_cons (ps_set (i := 8) sc_law.nd rfl (Or.inl rfl) (pcl G_read_shape hr (pa_cons (pv 6) pa_nil)))
  (pss_cons (ps_if (PW.pt (pw_or (pt_cmpR (r := rOwnB K C_Shape (EqR K C_Shape) not) (op_neX hr G_eq G_eqF ⟨T.ne_Shape, T.km_Shape⟩ G_eqB (by decide)) (pv 8) (pv 5) (nomark _)) (pw_or (pt_cmpR (r := rNeD K) (op_neD hr.units) (show PE _ _ (tFld K _ _) from pe_fld (pv 8) rfl) (pe_callTy (r := rTupA K) call_tuple_of (by rfl) T.tuple (by decide +kernel) (pa_cons (pe_callB (r := rSortedS K) cr_sortedS (by rfl) T.sorted (by decide +kernel) (pa_cons (pv 3) pa_nil)) pa_nil)) (nomark _)) (pw_or1 (pt_cmpR op_ne (pcl G_write_shape hr (pa_cons (pv 8) pa_nil)) (pv 6) (nomark _)))))) pss_never pss_nil)
  (pss_cons (ps_lock (ps_for PassesOwn.never rfl (pi_keys (pe_ix (r := rIxL K) ix_list (pv 2) pe_int (fun _ _ => rfl))) (pg_name (i := 9) sc_law.nd rfl (Or.inl rfl))
    (pss_cons (ps_if (pt_cmpR (r := rNeQ K) (op_neQ hr.units) (pmt (pv 8) T.cl_Shape G_Shape_fields hr (pa_cons (pv 9) pa_nil)) (pe_dget (hu_of hr) (pe_dget (hu_of hr) (pe_ix (r := rIxL K) ix_list (pv 2) pe_int (fun _ _ => rfl)) (pv 9) (fun _ _ => rfl)) pe_str (fun _ _ => rfl)) (nomark _)) pss_never pss_nil)
  (pss_one (ps_if (pt_cmpR (r := rNeD K) (op_neD hr.units) (pmt (pv 8) T.cl_Shape G_Shape_inner hr (pa_cons (pv 9) pa_nil)) (pe_callB (r := rSortDK) (call_sortedD rfl) (by rfl) T.sorted (by decide +kernel) (pa_cons (pe_dget (hu_of hr) (pe_dget (hu_of hr) (pe_ix (r := rIxL K) ix_list (pv 2) pe_int (fun _ _ => rfl)) (pv 9) (fun _ _ => rfl)) pe_str (fun _ _ => rfl)) pa_nil)) (nomark _)) pss_never pss_nil)))))
  (pss_one (ps_ret (pe_cmpR (r := rEqD K) (op_eqD hr.units) (pmt0 (pv 8) T.cl_Shape G_Shape_outer hr) (pe_callB (r := rSortDK) (call_sortedD rfl) (by rfl) T.sorted (by decide +kernel) (pa_cons (pe_ix (r := rIxL K) ix_list (pv 2) pe_int (fun _ _ => rfl)) pa_nil)) (nomark _)))))))))))))))), ?_⟩
    refine q_go ⟨_, rfl, a, ns, rfl, hs, ns63, fun H1 S c st => ?_⟩
    refine q_go ⟨_, rfl, S, c, rfl, st, fun H2 q qf ql fl z m2 hq0 hqf0 hq hqf f2 fnd fW rsh hz => ?_⟩
    have nd := sh_nd hz.2.1
    have qS := st.someS hq0
    have nS1 : ¬ H1 S = none := fun h => (st.someS h).1 rfl
    have nc1 : ¬ H1 c = none := fun h => (st.someS h).2 rfl
    refine q_go ⟨_, rfl, q, _, 0, .ref qf, rfl, rfl, Evl.sq_of hq, rfl, qf, _, rfl, .inl (Evl.sq_of hqf), fun lf hlf => ?_⟩
    have e3 := Ex.new (o := .lst (fl.map V.str)) hlf
    have hlf3 : (upd H2 lf (.lst (fl.map V.str))) lf = some (.lst (fl.map V.str)) := upd_same
    generalize (upd H2 lf (.lst (fl.map V.str))) = H3 at e3 hlf3 ⊢
    refine q_go ⟨_, rfl, q, _, 1, .ref ql, rfl, rfl, Evl.sq_of (e3 _ _ hq), rfl, .ref ql, _, lsD z, rfl, rep_ex e3 rsh, kn_ls hz 7, fun H4 sv e4 rsv => ?_⟩
    obtain ⟨d, es0, rfl, _⟩ := id rsv
    have m4 := Mv.ex m2.z (e3.trans e4)
    have hlf4 := e4 _ _ hlf3
    have lS := m2.z.someS hlf
    have n3S : ¬ H3 S = none := fun h => ((m2.tx e3).z.someS h).1 rfl
    have n3c : ¬ H3 c = none := fun h => ((m2.tx e3).z.someS h).2 rfl
    refine Evl.q_cut (M := fun σ' H' => ∃ (fl2 : List Str) (z2 : Sh) (d2 : Addr) (S2 : Addr → Prop), σ' = [some (.ref a), some (.ref S), some (.ref q), some (.ref lf), some (.ref d2), none, none, none, none, none, none] ∧ fl2.Perm fl ∧ z2.Perm z ∧ Mv S c H2 H' ∧ H' lf = some (.lst (fl2.map V.str)) ∧ Rep H' 7 S2 (lsD z2) (.ref d2)) ?_ ?_
    · refine dr_if (m := 2) (z := 1) (Evl.ea_cons (Evl.ev_var rfl) (Evl.ea_cons Evl.ev_c Evl.ea_nil)) m4.z (by decide) (by decide) (fun H5 m5 => ?_) (fun H5 m5 => ?_)
      · have hlf5 := m5.fr lf _ lS.1 lS.2 hlf4
        refine ⟨_, rfl, Or.inl ⟨rfl, _, Evl.sq_of hlf5⟩, lf, _, rfl, rfl, hlf5, ?_⟩
        have rs5 := rep_mv m5 n3S n3c rsv
        have nlf : ¬ H3 lf = none := fun h => by rw [hlf3] at h; cases h
        have rs6 : Rep (upd H5 lf (.lst (fl.map V.str).reverse)) 7 (fun b => H3 b = none) (lsD z) (.ref d) := rep_upd hlf5 (fun _ z => nomatch z) (fun b hb e => nlf (by rw [← e]; exact hb)) rs5
        have m26 : Mv S c H2 (upd H5 lf (.lst (fl.map V.str).reverse)) := (m4.trans m5).mut hlf
        have hlf6 : (upd H5 lf (.lst (fl.map V.str).reverse)) lf = some (.lst (fl.reverse.map V.str)) := by rw [upd_same, List.map_reverse]
        generalize (upd H5 lf (.lst (fl.map V.str).reverse)) = H6 at rs6 m26 hlf6 ⊢
        exact ⟨_, rfl, d, 6, _, z, rfl, rs6, hz.1, nd, fun H7 d2 z2 e7 hd0 pm r2 => ⟨fl.reverse, z2, d2, _, rfl, List.reverse_perm _, pm, m26.tx e7, e7 _ _ hlf6, r2⟩⟩
      · exact ⟨fl, z, d, _, rfl, .refl _, .refl _, m4.trans m5, m5.fr lf _ lS.1 lS.2 hlf4, rep_mv m5 n3S n3c rsv⟩
    rintro σ' H5 ⟨fl2, z2, d2, S2, rfl, pfl, pz, m5, hlf5, rs5⟩
    have m25 := m2.trans m5
    have hq5 := m5.fr q _ qS.1 qS.2 hq
    have rsh5 := rep_mv m5 nS1 nc1 rsh
    have hz2 := okSh_pm hz pz
    have f22 : fl2.length ≤ 2 := by rw [pfl.length_eq]; exact f2
    have fW2 : ∀ x ∈ fl2, isW x := fun x hx => fW x (pfl.mem_iff.mp hx)
    have sf : srt fl2 = srt fl := srt_pm f2 pfl
    have fs2 : (srt fl).length ≤ 2 := by rw [srt_len]; exact f2
    have fsW : ∀ x ∈ srt fl, isW x := fun x hx => fW x (srt_mem.mp hx)
    clear rsv hlf4 m4 e3 e4 hlf3 rsh hq hqf m2 st m5
    -- the shape
    refine q_go ⟨_, rfl, _, rfl, ?_⟩
    intro x dx hx hdx nxd
    have old : ∀ b o, H5 b = some o → (upd (upd H5 dx (.own x)) x (.ins C_Shape dx [])) b = some o := fun b o h => by
      have n1 : b ≠ x := fun e => by rw [e, hx] at h; cases h
      have n2 : b ≠ dx := fun e => by rw [e, hdx] at h; cases h
      rw [upd_ne n1, upd_ne n2]; exact h
    refine ⟨x, dx, lf, fl2, .ref d2, 7, _, lsD z2, z2, rfl, upd_same, old _ _ hlf5, f22, fW2, pfl.symm.nodup fnd, rep_ex old (rep_dom rs5), shD_ls z2, hz2, fun h => h.2 hx, fun H6 fl' fr6 permf so hS6 => ⟨rfl, ?_⟩⟩
    have e56 : Ex H5 H6 := fun b o h => fr6 b o (fun e => by rw [e, hx] at h; cases h) (old _ _ h)
    have : fl' = srt fl := srt_eq f2 (permf.trans pfl) so
    subst this
    have hlf6 := e56 _ _ hlf5
    have hq6 := e56 _ _ hq5
    have rsh6 := rep_ex e56 rsh5
    have ccs := canS_ok hz
    have due40 : (shLn (srt fl) (canS z)).length ≤ 14 := shLn_len fs2 ccs
    have rows := rd_sh fsW ccs.2.2
    obtain ⟨es, hes, ekeys, ent⟩ := ls_at rsh6 nd
    -- the text that is due
    have lst : EvL (tCall (spSL 4) [] E0 (tCons (tOp (rIxL K) (tVar 2) (tC (.int 1))) (tCons (tC (.int 0)) tNil))) [some (.ref a), some (.ref S), some (.ref q), some (.ref lf), some (.ref d2), some (.ref x), none, none, none, none, none] H6 (((canS z).flatMap (lnV 0)).map lnS) := fun H7 e7 Q' q' =>
      ⟨_, rfl, q, _, 1, .ref ql, rfl, rfl, Evl.sq_of (e7 _ _ hq6), rfl, ql, 0, 7, _, z, rfl, rep_ex e7 rsh6, hz.1, nd, hz.2.2, (fun h => nomatch h), (fun h => nomatch h), by decide, fun H8 q8 e8 h8 hq8 => q' q8 H8 h8 e8 hq8⟩
    have flg : EvL (tLc (iList K (tCB (rSortedS K) (tCons (tVar 3) tNil))) (gName 10) tYes (tOp (fun x y H Q => ∃ i j, x = V.str i ∧ y = V.str j ∧ i.length + j.length ≤ sizeLine ∧ Q (V.str (i ++ j)) H) (tC (.str "flag ")) (tVar 10)) [10]) [some (.ref a), some (.ref S), some (.ref q), some (.ref lf), some (.ref d2), some (.ref x), none, none, none, none, none] H6 ((srt fl).map fun k => V.str (lineW 0 [("flag" : Str), k])) := by
      have h := el_sorted (K := K) (te := tVar 3) (σ := [some (.ref a), some (.ref S), some (.ref q), some (.ref lf), some (.ref d2), some (.ref x), none, none, none, none, none]) (Evl.ev_var rfl) hlf6 f22
      rw [sf] at h
      refine el_lcW (eb_L h) (by omega) (fun _ => rfl) fun y hy H7 e7 => ?_
      exact Evl.ev_is (Evl.ev_op Evl.ev_c (Evl.ev_var rfl) (rv_addS (by
        have : y.length ≤ 8 := (fsW y hy).2.1
        have : ("flag " : Str).length = 5 := by decide +kernel
        omega))) (congrArg V.str (line_flag y))
    have tx : Ev (tCall (spText K) [] E0 (tCons (tOp rCat (tLc (iList K (tCB (rSortedS K) (tCons (tVar 3) tNil))) (gName 10) tYes (tOp (fun x y H Q => ∃ i j, x = V.str i ∧ y = V.str j ∧ i.length + j.length ≤ sizeLine ∧ Q (V.str (i ++ j)) H) (tC (.str "flag ")) (tVar 10)) [10]) (tCall (spSL 4) [] E0 (tCons (tOp (rIxL K) (tVar 2) (tC (.int 1))) (tCons (tC (.int 0)) tNil)))) tNil)) [some (.ref a), some (.ref S), some (.ref q), some (.ref lf), some (.ref d2), some (.ref x), none, none, none, none, none] H6 (.str (shT (srt fl) (canS z))) := fun H7 e7 Q' q' => by
      have h := el_cat (eb_L flg) (eb_L lst) (by
        have := congrArg List.length (due_rows (srt fl) (canS z))
        rw [List.length_append] at this
        have l2 : (((shLn (srt fl) (canS z)).map fun x => lineW x.1 x.2).map V.str).length = (shLn (srt fl) (canS z)).length := by rw [List.length_map, List.length_map]
        omega)
      rw [due_rows] at h
      refine h H7 e7 _ fun p H8 _ e8 hp => ⟨p, _, rfl, Evl.sq_of hp, by rw [List.length_map]; omega, fun y hy => ?_, fun H9 e9 => ?_⟩
      · obtain ⟨r, hr, rfl⟩ := List.mem_map.mp hy
        exact (line_len (rd_ok (rows r hr).1)).1
      · rw [due_text]; exact q' H9 (e8.trans e9)
    refine Evl.q_asg tx fun H7 e7 => ?_
    have hS7 := hS6.ex e7
    clear lst flg tx
    -- what is written
    refine Evl.q_asg (v := .str (shT (srt fl) (canS z))) (fun H8 e8 Q' q' => ⟨_, rfl, x, srt fl, z2, _, rfl, hS7.ex e8, hz2, fs2, fsW, fun H9 e9 => by rw [canS_pe hz pz]; exact q' H9 e9⟩) fun H8 e8 => ?_
    refine Evl.q_when (b := false) (Evl.et_or (a := false) (b := false) (Evl.et_is (Evl.et_not (a := true) (Evl.et_B (ev_isi (ty := .type "str") (Evl.ev_var rfl) (fun H9 e9 => .base (.str _)) (kit_ty (by decide +kernel : kitB "str" "str" = some true))))) rfl) fun _ => Evl.et_is (Evl.et_test (Evl.ev_op (Evl.ev_var rfl) (Evl.ev_var rfl) (Evl.rv_ne rfl))) (by rw [decide_eq_true rfl]; rfl)) (fun h => nomatch h) fun _ H9 e9 => ?_
    obtain ⟨_, es9, eq9, _, hlq9, _⟩ := rep_ex (e7.trans (e8.trans e9)) rsh6
    cases eq9
    -- what is read
    refine q_go ⟨_, rfl, srt fl, canS z, rfl, ccs, canS_can hz, fs2, fsW, srt_perm.symm.nodup fnd, srt_so f2, fun H10 told e10 htold hT => ?_⟩
    have e610 := e7.trans (e8.trans (e9.trans e10))
    have hS10 := hS6.ex e610
    have e79 := e8.trans (e9.trans e10)
    obtain ⟨dxt, ftt, tbt, hT1, hT2, hT3⟩ := id hT
    have wr : Ev (tCall (spWrite C_Shape) [] E0 (tCons (tVar 8) tNil)) [some (.ref a), some (.ref S), some (.ref q), some (.ref lf), some (.ref d2), some (.ref x), some (.str (shT (srt fl) (canS z))), some (.str (shT (srt fl) (canS z))), some (.ref told), none, none] H10 (.str (shT (srt fl) (canS z))) := fun H11 e11 Q' q' => ⟨_, rfl, told, srt fl, canS z, _, rfl, hT.ex e11, ccs, fs2, fsW, fun H12 e12 => by rw [canS_can hz]; exact q' H12 e12⟩
    refine Evl.q_when (b := false) (Evl.et_or (a := false) (b := false) (Evl.et_test fun H11 e11 Q' q' => ⟨_, rfl, _, rfl, own_shape T (b := true) (hT.ex e11) (hS10.ex e11) ccs hz2 fsW fsW ?_ fun H12 e12 => q' H12 e12⟩) fun _ => Evl.et_or (a := false) (b := false) (Evl.et_test fun H11 e11 Q' q' => ?_) fun _ => Evl.et_is (Evl.et_test (Evl.ev_op wr (Evl.ev_var rfl) (Evl.rv_ne rfl))) (by rw [decide_eq_true rfl]; rfl)) (fun h => nomatch h) fun _ H11 e11 => ?_
    · rw [decide_eq_true rfl, ← canS_pe hz pz, TbE_can hz2]; rfl
    · refine ev_fld (K := K) (σ := [some (.ref a), some (.ref S), some (.ref q), some (.ref lf), some (.ref d2), some (.ref x), some (.str (shT (srt fl) (canS z))), some (.str (shT (srt fl) (canS z))), some (.ref told), none, none]) (Evl.ev_var (i := 8) rfl) hT1 T.cl_Shape T.no_Shape_flags (shF_flags _ _) H11 e11 _ fun H12 e12 => ?_
      have h := eu_tupL (K := K) (el_sorted (K := K) (te := tVar 3) (σ := [some (.ref a), some (.ref S), some (.ref q), some (.ref lf), some (.ref d2), some (.ref x), some (.str (shT (srt fl) (canS z))), some (.str (shT (srt fl) (canS z))), some (.ref told), none, none]) (H := H12) (Evl.ev_var rfl) ((e610.trans (e11.trans e12)) _ _ hlf6) f22)
      rw [sf] at h
      exact h H12 (Ex.refl _) _ fun p H13 _ e13 hp => ne_tups ((e11.trans (e12.trans e13)) _ _ hT2) hp fsW (q' H13 (e12.trans e13))
    -- the lists, one by one
    have e611 := e610.trans e11
    have hq11 := e611 _ _ hq6
    have rs11 := rep_ex e611 rsh6
    have hT11 := hT.ex e11
    obtain ⟨ql', es, eq, _, hes11, _, pr⟩ := id rs11
    cases eq
    have nq : q ≠ ql := fun e => by rw [e, hes11] at hq11; cases hq11
    have ntq : ∀ b, H9 b = none → b ≠ ql := fun b hb e => by
      have : H9 ql ≠ none := fun h => by
        have h2 := (hlq9)
        rw [h] at h2; cases h2
      exact this (by rw [← e]; exact hb)
    refine for_lock (J := fun od => Itk ql od es) (xs := fun _ => none) hes11 (fun od R' r => ⟨_, rfl, q, _, 1, .ref ql, rfl, rfl, Evl.sq_of (by rw [upd_ne nq]; exact hq11), rfl, ql, od, rfl, .inl ⟨es, upd_same, r⟩⟩) (fun od => walk_keys) (fun od j σ' Hx => ∃ (o9 : Option V), σ' = [some (.ref a), some (.ref S), some (.ref q), some (.ref lf), some (.ref d2), some (.ref x), some (.str (shT (srt fl) (canS z))), some (.str (shT (srt fl) (canS z))), some (.ref told), o9, none] ∧ Ex (upd H11 ql (.frz od (.dK es))) Hx)
      (fun od => ⟨_, rfl, Ex.refl _⟩) (fun od j σ' Hx _ ⟨_, _, e⟩ => e _ _ upd_same) (fun od j y σ' H0 Hx hlt pv yy => ?_) fun od σ' Hx pv => ?_
    · obtain ⟨o9, rfl, ex⟩ := pv
      obtain ⟨rfl, kk, vj, hkv, rfl⟩ := yy
      obtain ⟨⟨nm, dj⟩, hdj, hk, hrj⟩ := pair_back pr hkv
      have hk : kk = Sum.inr nm := hk
      subst hk
      unfold lsL at hdj
      rw [List.getElem?_map] at hdj
      cases hp' : z[j]? with
      | none => rw [hp'] at hdj; cases hdj
      | some p' =>
      rw [hp'] at hdj
      cases hdj
      obtain ⟨nm, f, inn⟩ := p'
      have hm := List.mem_of_getElem? hp'
      obtain ⟨wn, okf, li, oki⟩ := hz.2.2 _ hm
      refine gname_go ?_
      have vj' : valV es (Sum.inr nm : Key) = some vj := valV_at (by rw [pair_keys pr, lsL_names]; exact inr_nd nd) hkv
      obtain ⟨t, es2, fa', ia, es3, m', rfl, ht, hvf, hvi, rf, hia, ki⟩ := el_at (rep_ex ex (rep_lock (u := .frz od (.dK es)) hes11 (fun b hb => hb.2) hrj))
      have hTx := (hT11.lock (u := .frz od (.dK es)) hes11 ntq).ex ex
      have hqx : Hx q = _ := ex _ _ (by rw [upd_ne nq]; exact hq11)
      have hlx : Hx ql = _ := ex _ _ upd_same
      have spec : ∀ {key : Str} {v : V} {σ : L2.St} {Hy : Hp}, σ[2]? = some (some (.ref q)) → σ[9]? = some (some (.str nm)) → Ex Hx Hy → valV es2 (Sum.inr key : Key) = some v → Ev (tDGet (tDGet (tOp (rIxL K) (tVar 2) (tC (.int 1))) (tVar 9)) (tC (.str key))) σ Hy v := fun h2 h9 ey hv =>
        ev_dg (k := Sum.inr _) (ev_dg (k := Sum.inr nm) (Evl.ev_op (Evl.ev_var h2) Evl.ev_c (Evl.rv_ixL (Evl.sq_of (ey _ _ hqx)) (atI_nat (j := 1) rfl))) (Evl.ev_var h9) (.inr ⟨od, ey _ _ hlx⟩) vj') Evl.ev_c (.inl (ey _ _ ht)) hv
      obtain ⟨dxx, ftx, tbx, hx1, _⟩ := id hTx
      refine Evl.q_when (b := false) (Evl.et_test fun H12 e12 Q' q' => ⟨_, rfl, told, dxx, _, rfl, e12 _ _ hx1, shF_no _ _ (by decide +kernel) (by decide +kernel), _, rfl, told, srt fl, canS z, _, (nm, none, canF f), rfl, hTx.ex e12, ccs, row_out (canS_in nd hm), fun H13 p1 e13 r13 => ?_⟩) (fun h => nomatch h) fun _ H14 e14 => ?_
      · exact spec rfl rfl (e12.trans e13) hvf H13 (Ex.refl _) _ fun H15 e15 => ne_fl (canF_ok okf) okf (FE_can okf) (rep_ex e15 r13) (rep_ex (e12.trans (e13.trans e15)) rf) (q' H15 (e13.trans e15))
      refine Evl.s_when (b := false) (Evl.et_test fun H12 e12 Q' q' => ⟨_, rfl, told, dxx, _, rfl, (e14.trans e12) _ _ hx1, shF_no _ _ (by decide +kernel) (by decide +kernel), _, rfl, told, srt fl, canS z, _, nm, rfl, hTx.ex (e14.trans e12), ccs, mem_key (row_out (canS_in nd hm)), fun H13 p1 ys e13 _ hp1 perm so => ?_⟩) (fun h => nomatch h) fun _ H15 e15 => ?_
      · rw [kids_in hz hm] at perm
        have li' : inn.length ≤ 1 := li
        have li2 : (inn.map (·.1)).length ≤ 2 := by rw [List.length_map]; omega
        have : ys = srt (inn.map (·.1)) := srt_eq li2 (perm.trans srt_perm) so
        subst this
        refine el_sortDK (spec rfl rfl (e14.trans (e12.trans e13)) hvi) (.inl ((e14.trans (e12.trans e13)) _ _ hia)) ki li2 H13 (Ex.refl _) _ fun p2 H16 _ e16 hp2 => ?_
        exact ne_lsts (Evl.sq_of (e16 _ _ hp1)) (Evl.sq_of hp2) (fun y hy => by
          obtain ⟨g, hg⟩ := key_mem (srt_mem.mp hy)
          exact (oki _ hg).1) (q' H16 (e13.trans e16))
      · exact ⟨_, rfl, ex.trans (e14.trans e15)⟩
    · obtain ⟨o9, rfl, ex⟩ := pv
      have e12 := unlock hes11 ex
      have hTx := hT11.ex e12
      have rsx := rep_ex e12 rs11
      have hqx := e12 _ _ hq11
      have hlx := e12 _ _ hes11
      generalize (upd Hx ql (.dK es)) = Hy at e12 hTx rsx hqx hlx ⊢
      obtain ⟨dxx, ftx, tbx, hx1, _⟩ := id hTx
      dsimp only
      refine Evl.s_ret (v := .bl true) (fun H13 e13 Q' q' => ⟨_, rfl, told, dxx, _, rfl, e13 _ _ hx1, shF_no _ _ (by decide +kernel) (by decide +kernel), told, srt fl, canS z, _, rfl, hTx.ex e13, ccs, fun H14 p1 ys e14 _ hp1 perm so => ?_⟩) fun H14 _ => k H14
      rw [kids_none, keysS] at perm
      have ln : (z.map (·.1)).length ≤ 2 := by rw [List.length_map]; exact hz.1
      have : ys = srt (z.map (·.1)) := srt_eq ln (perm.trans srt_perm) so
      subst this
      have sw : ∀ y ∈ srt (z.map (·.1)), isW y := fun y hy => by
        obtain ⟨g, hg⟩ := key_mem (srt_mem.mp hy)
        exact (hz.2.2 _ hg).1
      have ek : es.map (·.1) = (z.map (·.1)).map Sum.inr := by rw [pair_keys pr, lsL_names]
      refine el_sortDK (q := ql) (td := tOp (rIxL K) (tVar 2) (tC (.int 1))) (σ := [some (.ref a), some (.ref S), some (.ref q), some (.ref lf), some (.ref d2), some (.ref x), some (.str (shT (srt fl) (canS z))), some (.str (shT (srt fl) (canS z))), some (.ref told), o9, none]) (Evl.ev_op (Evl.ev_var rfl) Evl.ev_c (Evl.rv_ixL (Evl.sq_of ((e13.trans e14) _ _ hqx)) (atI_nat (j := 1) rfl))) (.inl ((e13.trans e14) _ _ hlx)) ek ln H14 (Ex.refl _) _ fun p2 H16 _ e16 hp2 => ?_
      refine eq_lsts (Evl.sq_of (e16 _ _ hp1)) (Evl.sq_of hp2) sw sw ?_
      rw [decide_eq_true rfl]
      exact q' H16 (e14.trans e16)
theorem tup_mk4 {K : PySem.W.Frag} {a a1 a2 a3 a4 : Addr} {D1 D2 D3 D4 : D} {d0 : Option Addr} {n0 : Nat} {l0 : Array (Option Value)}
    (h0 : K.lookup a = some ⟨.type "tuple", d0, .seq #[.ref a1, .ref a2, .ref a3, .ref a4] n0, l0⟩)
    (h1 : RepK K 3 D1 (.ref a1)) (h2 : RepK K 3 D2 (.ref a2)) (h3 : RepK K 3 D3 (.ref a3)) (h4 : RepK K 3 D4 (.ref a4)) : TupK K a [D1, D2, D3, D4] :=
  ⟨[.ref a1, .ref a2, .ref a3, .ref a4], ⟨_, _, _, h0, rfl, rfl, by show 4 ≤ sizeLine; decide, .cons rfl (.cons rfl (.cons rfl (.cons rfl .nil)))⟩, .cons h1 (.cons h2 (.cons h3 (.cons h4 .nil)))⟩
end Pk

namespace Pk
open PySem PySem.Spec PyProof.Rows L2 Ssb
theorem all_mk {l : PySem.W.OpenLaw} {w : World} {K : PySem.W.Frag} {h : Heap} {mg : Str → Option Value} {fa C_Shape C_SHAPES : Addr} (X : K.In h) (G : h.Ns mainGlobals mg) (hfa : mg "law" = some (.ref fa))
    (aShape : PySem.W.nsIn K mainGlobals "Shape" = some (some (.ref C_Shape)))
    (pgShape : PySem.W.plainGet K C_Shape Str.empty = true)
    (hdShape : PySem.W.hasDictIn K C_Shape = true)
    (poShape : PySem.W.plainOver K C_Shape = true)
    (saShape : PySem.W.findIn K (.ref C_Shape) "__setattr__" = some (some (.builtin "object.__setattr__")))
    (mkShape : PySem.W.makesIn K C_Shape = true)
    (kcShape : PySem.W.keepIn K (.ref C_Shape) = true)
    (nShapeflags : PySem.W.findIn K (.ref C_Shape) "flags" = some none)
    (nShapetable : PySem.W.findIn K (.ref C_Shape) "table" = some none)
    (aSHAPES : PySem.W.nsIn K mainGlobals "SHAPES" = some (some (.ref C_SHAPES)))
    (tuSHAPES : TupK K C_SHAPES [(D.tup [D.str "flag", D.int 2]), (D.tup [D.str "list", D.int 2]), (D.tup [D.str "field", D.int 4]), (D.tup [D.str "field", D.int 5])])
    (nlS : PySem.W.findIn K (.ref C_Shape) "__class__" = some (some (.builtin "object.__class__")))
    (nmS : PySem.W.mroIn K C_Shape (.type "object") = some true)
    (nsS : PySem.W.kitOne K (.ref C_Shape) (.ref C_Shape) = some true)
    (nnS : PySem.W.findIn K (.ref C_Shape) "__ne__" = some (some (.builtin "object.__ne__")))
    (ngS : PySem.W.specialIn K (.builtin "object.__class__") "__get__" = some (some (.builtin "getset_descriptor.__get__")))
    (ntS : PySem.W.takesIn K (.builtin "object.__class__") = some true)
    (z_abs : PySem.W.nsIn K mainGlobals "abs" = some none)
    (z_all : PySem.W.nsIn K mainGlobals "all" = some none)
    (z_enumerate : PySem.W.nsIn K mainGlobals "enumerate" = some none)
    (z_int : PySem.W.nsIn K mainGlobals "int" = some none)
    (z_str : PySem.W.nsIn K mainGlobals "str" = some none)
    (z_isinstance : PySem.W.nsIn K mainGlobals "isinstance" = some none)
    (z_len : PySem.W.nsIn K mainGlobals "len" = some none)
    (z_list : PySem.W.nsIn K mainGlobals "list" = some none)
    (z_range : PySem.W.nsIn K mainGlobals "range" = some none)
    (z_sorted : PySem.W.nsIn K mainGlobals "sorted" = some none)
    (z_tuple : PySem.W.nsIn K mainGlobals "tuple" = some none)
    (z_set : PySem.W.nsIn K mainGlobals "set" = some none)
    (z_dict : PySem.W.nsIn K mainGlobals "dict" = some none)
    (d_is_word : Here K mg "is_word" s_is_word)
    (d_are_words : Here K mg "are_words" s_are_words)
    (d_has_names : Here K mg "has_names" s_has_names)
    (d_is_named : Here K mg "is_named" s_is_named)
    (d_has_form : Here K mg "has_form" s_has_form)
    (d_line_of : Here K mg "line_of" s_line_of)
    (d_read_lines : Here K mg "read_lines" s_read_lines)
    (d_all_words : Here K mg "all_words" s_all_words)
    (d_shape_form : Here K mg "shape_form" s_shape_form)
    (d_wrong_part : Here K mg "wrong_part" s_wrong_part)
    (d_are_lists : Here K mg "are_lists" s_are_lists)
    (d_are_list_shapes : Here K mg "are_list_shapes" s_are_list_shapes)
    (d_list_rows : Here K mg "list_rows" s_list_rows)
    (d_are_fields : Here K mg "are_fields" s_are_fields)
    (d_Shape_init : HereM K C_Shape "__init__" "Shape.__init__" s_Shape_init)
    (d_Shape_eq : HereM K C_Shape "__eq__" "Shape.__eq__" s_Shape_eq)
    (d_Shape_outer : HereM K C_Shape "outer" "Shape.outer" s_Shape_outer)
    (d_Shape_inner : HereM K C_Shape "inner" "Shape.inner" s_Shape_inner)
    (d_Shape_fields : HereM K C_Shape "fields" "Shape.fields" s_Shape_fields)
    (d_Shape_lists_in : HereM K C_Shape "lists_in" "Shape.lists_in" s_Shape_lists_in)
    (d_Shape_need_list : HereM K C_Shape "need_list" "Shape.need_list" s_Shape_need_list)
    (d_write_shape : Here K mg "write_shape" s_write_shape)
    (d_list_text : Here K mg "list_text" s_list_text)
    (d_read_shape : Here K mg "read_shape" s_read_shape)
    (d__law_open : Here K mg "_law_open" s__law_open)
    (d__law_mixed : Here K mg "_law_mixed" s__law_mixed)
    (d__law_draw : Here K mg "_law_draw" s__law_draw)
    (d__law_word : Here K mg "_law_word" s__law_word)
    (d__law_copy : Here K mg "_law_copy" s__law_copy)
    (d__law_turned : Here K mg "_law_turned" s__law_turned)
    (d__law_rich_fields : Here K mg "_law_rich_fields" s__law_rich_fields)
    (d__law_rich : Here K mg "_law_rich" s__law_rich)
    (d__law_text : Here K mg "_law_text" s__law_text)
    (d__law_shape_lines : Here K mg "_law_shape_lines" s__law_shape_lines)
    (d_law : Here K mg "law" s_law) :
    ∃ fd : FuncData, (∀ (s : Shared) (v : Value), BindsTo s fd ⟨[v], []⟩ [("_law_script", v)]) ∧ ∀ base : Heap, K.In base → base.Ns mainGlobals mg → FnOk l.prog w K mg base CX0 60 fa fd ["_law_script"] (spLaw K) := by
  have T : Txt K mg C_Shape C_SHAPES := { abs := PySem.W.mg_none_of X G z_abs, all := PySem.W.mg_none_of X G z_all, enumerate := PySem.W.mg_none_of X G z_enumerate, int := PySem.W.mg_none_of X G z_int, str := PySem.W.mg_none_of X G z_str, isinstance := PySem.W.mg_none_of X G z_isinstance, len := PySem.W.mg_none_of X G z_len, list := PySem.W.mg_none_of X G z_list, range := PySem.W.mg_none_of X G z_range, sorted := PySem.W.mg_none_of X G z_sorted, tuple := PySem.W.mg_none_of X G z_tuple, set := PySem.W.mg_none_of X G z_set, dict := PySem.W.mg_none_of X G z_dict, cl_Shape := ⟨pgShape, hdShape, poShape, saShape⟩, mk_Shape := mkShape, kp_Shape := kcShape, at_Shape := PySem.W.mg_of X G aShape, kl_Shape := nlS, km_Shape := nmS, se_Shape := nsS, ne_Shape := nnS, gt_cls := ngS, tk_cls := ntS, no_Shape_flags := nShapeflags, no_Shape_table := nShapetable, at_SHAPES := PySem.W.mg_of X G aSHAPES, tu_SHAPES := tuSHAPES }
  have R : Prg K mg C_Shape C_SHAPES := { is_word := d_is_word, are_words := d_are_words, has_names := d_has_names, is_named := d_is_named, has_form := d_has_form, line_of := d_line_of, read_lines := d_read_lines, all_words := d_all_words, shape_form := d_shape_form, wrong_part := d_wrong_part, are_lists := d_are_lists, are_list_shapes := d_are_list_shapes, list_rows := d_list_rows, are_fields := d_are_fields, Shape_init := d_Shape_init, Shape_eq := d_Shape_eq, Shape_outer := d_Shape_outer, Shape_inner := d_Shape_inner, Shape_fields := d_Shape_fields, Shape_lists_in := d_Shape_lists_in, Shape_need_list := d_Shape_need_list, write_shape := d_write_shape, list_text := d_list_text, read_shape := d_read_shape, _law_open := d__law_open, _law_mixed := d__law_mixed, _law_draw := d__law_draw, _law_word := d__law_word, _law_copy := d__law_copy, _law_turned := d__law_turned, _law_rich_fields := d__law_rich_fields, _law_rich := d__law_rich, _law_text := d__law_text, _law_shape_lines := d__law_shape_lines, law := d_law }
  exact main_ok T R hfa
theorem walk {l : PySem.W.OpenLaw} {q : Program} {loose : List Str} {XP : (Str → Option Value) → Heap → Prop} {YP : World → Heap → Prop} {d : DefRec} {K : Params → PySem.W.Frag} (hn : l.most = some 63) (hdf : d.params.defaults = [])
    (hY : ∀ (w : World) (h : Heap), YP w h → (K w.params).In h)
    (F : ∀ (w : World) (mg : Str → Option Value) (fa : Addr) (h : Heap), (K w.params).In h → h.Ns mainGlobals mg → mg d.name = some (.ref fa) →
      ∃ fd : FuncData, (∀ (s : Shared) (u : Value), BindsTo s fd ⟨[u], []⟩ [("_law_script", u)]) ∧ ∀ base : Heap, (K w.params).In base → base.Ns mainGlobals mg → FnOk l.prog w (K w.params) mg base CX0 60 fa fd ["_law_script"] (spLaw (K w.params))) :
    PySem.W.WalkO q loose XP YP l.row.toRowW d [] (fun f vs => PySem.call f vs) :=
  L2.walk_of (n := 63) (k := 60) (x := "_law_script") (CX := fun _ => CX0) (sp := fun w => spLaw (K w.params)) hn (by decide) hdf ⟨rfl, by decide, by decide⟩ hY F (fun _ _ a ns hl _ hS => ⟨a, ns, rfl, hS, hl, fun _ => rfl⟩) fun _ _ _ _ _ z => z
end Pk
open PySem PySem.W PyProof.Rows
set_option maxRecDepth 100000 in
set_option maxHeartbeats 0 in
theorem PySem.Challenge.cw_statestay_k64_whole_shapes_as_texts_holds : PySem.Challenge.rw_statestay_k64_whole_shapes_as_texts.Holds := by
  w_on; o_law; k_head; (case hw => w_witness2)
  k_fill
  refine Pk.walk (l := PySem.Challenge.rw_statestay_k64_whole_shapes_as_texts) rfl rfl (fun w h Y => PySem.W.kIn_of Y) ?F
  case F =>
    intro w mg fa h KX G hmg
    refine' Pk.all_mk KX G hmg ?aShape ?pgShape ?hdShape ?poShape ?saShape ?mkShape ?kcShape ?nShapeflags ?nShapetable ?aSHAPES ?tuSHAPES ?nlS ?nmS ?nsS ?nnS ?ngS ?ntS ?z_abs ?z_all ?z_enumerate ?z_int ?z_str ?z_isinstance ?z_len ?z_list ?z_range ?z_sorted ?z_tuple ?z_set ?z_dict ?d_is_word ?d_are_words ?d_has_names ?d_is_named ?d_has_form ?d_line_of ?d_read_lines ?d_all_words ?d_shape_form ?d_wrong_part ?d_are_lists ?d_are_list_shapes ?d_list_rows ?d_are_fields ?d_Shape_init ?d_Shape_eq ?d_Shape_outer ?d_Shape_inner ?d_Shape_fields ?d_Shape_lists_in ?d_Shape_need_list ?d_write_shape ?d_list_text ?d_read_shape ?d__law_open ?d__law_mixed ?d__law_draw ?d__law_word ?d__law_copy ?d__law_turned ?d__law_rich_fields ?d__law_rich ?d__law_text ?d__law_shape_lines ?d_law
    (case aShape => k_is)
    (case pgShape => k_is)
    (case hdShape => k_is)
    (case poShape => k_is)
    (case saShape => k_is)
    (case mkShape => k_is)
    (case kcShape => k_is)
    (case nShapeflags => k_is)
    (case nShapetable => k_is)
    (case aSHAPES => k_is)
    (case tuSHAPES => (refine' Pk.tup_mk4 ?h0 (Pk.form_mk ?h1) (Pk.form_mk ?h2) (Pk.form_mk ?h3) (Pk.form_mk ?h4); (case h0 => k_is); (case h1 => k_is); (case h2 => k_is); (case h3 => k_is); (case h4 => k_is)))
    (case nlS => k_is)
    (case nmS => k_is)
    (case nsS => kit_is)
    (case nnS => k_is)
    (case ngS => k_is)
    (case ntS => k_is)
    (case z_abs => k_is)
    (case z_all => k_is)
    (case z_enumerate => k_is)
    (case z_int => k_is)
    (case z_str => k_is)
    (case z_isinstance => k_is)
    (case z_len => k_is)
    (case z_list => k_is)
    (case z_range => k_is)
    (case z_sorted => k_is)
    (case z_tuple => k_is)
    (case z_set => k_is)
    (case z_dict => k_is)
    (case d_is_word => (refine' Pk.here_mk KX G ?a ?l ?c ?k; (case a => k_is); (case l => k_is); (case c => k_is); (case k => k_is)))
    (case d_are_words => (refine' Pk.here_mk KX G ?a ?l ?c ?k; (case a => k_is); (case l => k_is); (case c => k_is); (case k => k_is)))
    (case d_has_names => (refine' Pk.here_mk KX G ?a ?l ?c ?k; (case a => k_is); (case l => k_is); (case c => k_is); (case k => k_is)))
    (case d_is_named => (refine' Pk.here_mk KX G ?a ?l ?c ?k; (case a => k_is); (case l => k_is); (case c => k_is); (case k => k_is)))
    (case d_has_form => (refine' Pk.here_mk KX G ?a ?l ?c ?k; (case a => k_is); (case l => k_is); (case c => k_is); (case k => k_is)))
    (case d_line_of => (refine' Pk.here_mk KX G ?a ?l ?c ?k; (case a => k_is); (case l => k_is); (case c => k_is); (case k => k_is)))
    (case d_read_lines => (refine' Pk.here_mk KX G ?a ?l ?c ?k; (case a => k_is); (case l => k_is); (case c => k_is); (case k => k_is)))
    (case d_all_words => (refine' Pk.here_mk KX G ?a ?l ?c ?k; (case a => k_is); (case l => k_is); (case c => k_is); (case k => k_is)))
    (case d_shape_form => (refine' Pk.here_mk KX G ?a ?l ?c ?k; (case a => k_is); (case l => k_is); (case c => k_is); (case k => k_is)))
    (case d_wrong_part => (refine' Pk.here_mk KX G ?a ?l ?c ?k; (case a => k_is); (case l => k_is); (case c => k_is); (case k => k_is)))
    (case d_are_lists => (refine' Pk.here_mk KX G ?a ?l ?c ?k; (case a => k_is); (case l => k_is); (case c => k_is); (case k => k_is)))
    (case d_are_list_shapes => (refine' Pk.here_mk KX G ?a ?l ?c ?k; (case a => k_is); (case l => k_is); (case c => k_is); (case k => k_is)))
    (case d_list_rows => (refine' Pk.here_mk KX G ?a ?l ?c ?k; (case a => k_is); (case l => k_is); (case c => k_is); (case k => k_is)))
    (case d_are_fields => (refine' Pk.here_mk KX G ?a ?l ?c ?k; (case a => k_is); (case l => k_is); (case c => k_is); (case k => k_is)))
    (case d_Shape_init => (refine' Pk.hereM_mk ?a ?i ?l ?c ?k; (case a => k_is); (case i => k_is); (case l => k_is); (case c => k_is); (case k => k_is)))
    (case d_Shape_eq => (refine' Pk.hereM_mk ?a ?i ?l ?c ?k; (case a => k_is); (case i => k_is); (case l => k_is); (case c => k_is); (case k => k_is)))
    (case d_Shape_outer => (refine' Pk.hereM_mk ?a ?i ?l ?c ?k; (case a => k_is); (case i => k_is); (case l => k_is); (case c => k_is); (case k => k_is)))
    (case d_Shape_inner => (refine' Pk.hereM_mk ?a ?i ?l ?c ?k; (case a => k_is); (case i => k_is); (case l => k_is); (case c => k_is); (case k => k_is)))
    (case d_Shape_fields => (refine' Pk.hereM_mk ?a ?i ?l ?c ?k; (case a => k_is); (case i => k_is); (case l => k_is); (case c => k_is); (case k => k_is)))
    (case d_Shape_lists_in => (refine' Pk.hereM_mk ?a ?i ?l ?c ?k; (case a => k_is); (case i => k_is); (case l => k_is); (case c => k_is); (case k => k_is)))
    (case d_Shape_need_list => (refine' Pk.hereM_mk ?a ?i ?l ?c ?k; (case a => k_is); (case i => k_is); (case l => k_is); (case c => k_is); (case k => k_is)))
    (case d_write_shape => (refine' Pk.here_mk KX G ?a ?l ?c ?k; (case a => k_is); (case l => k_is); (case c => k_is); (case k => k_is)))
    (case d_list_text => (refine' Pk.here_mk KX G ?a ?l ?c ?k; (case a => k_is); (case l => k_is); (case c => k_is); (case k => k_is)))
    (case d_read_shape => (refine' Pk.here_mk KX G ?a ?l ?c ?k; (case a => k_is); (case l => k_is); (case c => k_is); (case k => k_is)))
    (case d__law_open => (refine' Pk.here_mk KX G ?a ?l ?c ?k; (case a => k_is); (case l => k_is); (case c => k_is); (case k => k_is)))
    (case d__law_mixed => (refine' Pk.here_mk KX G ?a ?l ?c ?k; (case a => k_is); (case l => k_is); (case c => k_is); (case k => k_is)))
    (case d__law_draw => (refine' Pk.here_mk KX G ?a ?l ?c ?k; (case a => k_is); (case l => k_is); (case c => k_is); (case k => k_is)))
    (case d__law_word => (refine' Pk.here_mk KX G ?a ?l ?c ?k; (case a => k_is); (case l => k_is); (case c => k_is); (case k => k_is)))
    (case d__law_copy => (refine' Pk.here_mk KX G ?a ?l ?c ?k; (case a => k_is); (case l => k_is); (case c => k_is); (case k => k_is)))
    (case d__law_turned => (refine' Pk.here_mk KX G ?a ?l ?c ?k; (case a => k_is); (case l => k_is); (case c => k_is); (case k => k_is)))
    (case d__law_rich_fields => (refine' Pk.here_mk KX G ?a ?l ?c ?k; (case a => k_is); (case l => k_is); (case c => k_is); (case k => k_is)))
    (case d__law_rich => (refine' Pk.here_mk KX G ?a ?l ?c ?k; (case a => k_is); (case l => k_is); (case c => k_is); (case k => k_is)))
    (case d__law_text => (refine' Pk.here_mk KX G ?a ?l ?c ?k; (case a => k_is); (case l => k_is); (case c => k_is); (case k => k_is)))
    (case d__law_shape_lines => (refine' Pk.here_mk KX G ?a ?l ?c ?k; (case a => k_is); (case l => k_is); (case c => k_is); (case k => k_is)))
    (case d_law => (refine' Pk.here_mk KX G ?a ?l ?c ?k; (case a => k_is); (case l => k_is); (case c => k_is); (case k => k_is)))
