import PyProof.Rows.All
import Wide.All
import OpenK.AllK
import Wide.FinOn
import KE.KExcInit
import KE.KExcIs
import PyProof.Rows.StrIntSpec
import PyProof.ListStr
import PyProof.EqAt
import PyProof.StrOps2
import PyProof.EqKinds
import PyProof.FactsAll.dict
import KE.KEqNest
import KE.KExcLine
import KE.RegKIsAll
import KE.RegKTryMore
import HandS.ForMost
import HandS.Evl
import HandS.IsInst
import HandS.DictComp
import HandS.SetKeys
import HandS.Strs
import HandS.Wide
import HandS.Walk
import HandS.Conv
import HandS.More
import HandS.TupAny
import HandS.Rev
import HandS.SetBool
import HandS.Exc
import HandS.ExcInit
import HandS.ExcField
import HandS.CallSlots
import HandS.WordsExc
import HandS.RevTup
import HandS.TupLe
import HandS.FStr
import HandS.Deep
import HandS.DictEq
import PySem.Challenge.RW_statestay_k54_whole_deeds_there_and_back
set_option Elab.async false
set_option linter.all false
set_option maxRecDepth 100000
set_option maxHeartbeats 3100000
/-! Sets of texts of any size: set(xs) of a list or a tuple, and their length. -/
namespace Ssb
open PySem PySem.Spec PyProof.Rows L2

/-- acc and, behind it, what of the list was not met before -/
def met : List Str → List Str → List Str
  | acc, [] => acc
  | acc, x :: r => met (if x ∈ acc then acc else acc ++ [x]) r
theorem met_len : ∀ (l acc : List Str), (met acc l).length ≤ acc.length + l.length
  | [], acc => Nat.le_refl _
  | x :: r, acc => by
    have h := met_len r (if x ∈ acc then acc else acc ++ [x])
    show (met (if x ∈ acc then acc else acc ++ [x]) r).length ≤ acc.length + (r.length + 1)
    refine Nat.le_trans h ?_
    by_cases hx : x ∈ acc
    · rw [if_pos hx]; omega
    · rw [if_neg hx, List.length_append, List.length_singleton]; omega
theorem met_nodup : ∀ (l acc : List Str), (acc ++ l).Nodup → met acc l = acc ++ l
  | [], acc, _ => by rw [List.append_nil]; rfl
  | x :: r, acc, h => by
    have hx : ¬ x ∈ acc := fun hm => by
      have := (List.nodup_append.mp h).2.2 x hm x List.mem_cons_self
      exact this rfl
    show met (if x ∈ acc then acc else acc ++ [x]) r = acc ++ x :: r
    rw [if_neg hx, met_nodup r (acc ++ [x]) (by rw [List.append_assoc]; exact h), List.append_assoc]
    rfl
theorem met_in (acc : List Str) (x k : Str) : (decide (k ∈ acc) || decide (k = x)) = decide (k ∈ (if x ∈ acc then acc else acc ++ [x])) := by
  by_cases hx : x ∈ acc
  · rw [if_pos hx]
    by_cases e : k = x
    · rw [e, decide_eq_true hx]; rfl
    · rw [decide_eq_false e, Bool.or_false]
  · rw [if_neg hx]
    by_cases e : k = x
    · rw [e, decide_eq_true rfl, Bool.or_true, decide_eq_true (List.mem_append_right _ List.mem_cons_self)]
    · by_cases h2 : k ∈ acc
      · rw [decide_eq_true h2, decide_eq_true (List.mem_append_left _ h2)]; rfl
      · rw [decide_eq_false h2, decide_eq_false e, decide_eq_false]; rfl
        intro z
        rcases List.mem_append.mp z with z | z
        · exact h2 z
        · exact e (List.mem_singleton.mp z)
theorem met_size (acc : List Str) (x : Str) : (if decide (x ∈ acc) = true then acc.length else acc.length + 1) = (if x ∈ acc then acc else acc ++ [x]).length := by
  by_cases hx : x ∈ acc
  · rw [if_pos hx, decide_eq_true hx, if_pos rfl]
  · rw [if_neg hx, decide_eq_false hx, if_neg Bool.false_ne_true, List.length_append]; rfl
theorem cod_some {xs : List Str} {i : Nat} (h : i < xs.length) : xs.drop i = xs.getD i Str.empty :: xs.drop (i + 1) := by
  rw [List.drop_eq_getElem_cons h, List.getD_eq_getElem?_getD, List.getElem?_eq_getElem h, Option.getD_some]

section
variable {prog : Program} {w : World} {A : Around} {R : Result → Shared → Prop} {I S : Addr} {fp wr : List Addr} {G : Array GenState → Array GenState → Prop} {n : Nat} {P : Nat → Value → Prop} {St : Nat → Shared → Prop}
/-- set.update's own loop over texts -/
theorem upd_loop (W : WalksS prog w A.in1 I fp wr G n P St) (nS : S ∉ fp) {xs : List Str} (len : xs.length = n) (val : ∀ i v, P i v → ∃ t, v = .str (xs.getD i Str.empty) t) (few : n + 1 < scanBound) :
    ∀ (m i : Nat) (acc : List Str) (s : Shared), i + m = n → acc.length ≤ i → St i s → s.heap.SetOf (PySem.strKind prog w) S (fun k => decide (k ∈ acc)) acc.length →
      (∀ s2, Moved (S :: wr) G s s2 → s2.heap.SetOf (PySem.strKind prog w) S (fun k => decide (k ∈ met acc (xs.drop i))) (met acc (xs.drop i)).length → R (.ok (.ret .none)) s2) →
      codeAny (model prog w) A (.builtin "set.update.loop" ⟨[.ref S, .ref I], []⟩) R s := by
  have nw : S ∉ wr := fun hm => nS (W.sub S hm)
  have up : ∀ b, b ∈ wr → b ∈ S :: wr := fun b => List.mem_cons_of_mem S
  have stays : ∀ {s s2 : Shared} {T : Str → Bool} {c : Nat}, Moved wr G s s2 → s.heap.SetOf (PySem.strKind prog w) S T c → s2.heap.SetOf (PySem.strKind prog w) S T c := fun mv ⟨o, a1, a2, a3, q, r⟩ => ⟨o, a1, a2, a3, mv.heap S o nw q, r⟩
  intro m
  induction m with
  | zero =>
    intro i acc s e _ st so k
    obtain rfl : i = n := e
    refine codeAny_builtin PyProof.Rows.F.entry_set_update_loop ?_
    rw [Around.under_plainId PyProof.Rows.F.plain_set_update_loop]
    refine wpAny_bind (W.done s _ _ st fun s2 mv => wpAny_pure (k s2 (mv.mono up) ?_))
    rw [List.drop_of_length_le (Nat.le_of_eq len)]
    exact stays mv so
  | succ m ih =>
    intro i acc s e la st so k
    have lt : i < n := by omega
    refine codeAny_builtin PyProof.Rows.F.entry_set_update_loop ?_
    rw [Around.under_plainId PyProof.Rows.F.plain_set_update_loop]
    refine wpAny_bind (W.item i s _ _ lt st fun v s2 pv st2 mv => ?_)
    obtain ⟨t, rfl⟩ := val i v pv
    have so2 := stays mv so
    refine wpAny_bind (wpAny_holding ?_)
    unfold setAdd
    refine wpAny_holding (wpAny_bind ((PySem.strKind prog w).pyHash (k := xs.getD i Str.empty) (strKind_is _ _ _ _) ?_))
    refine wpAny_setAddHashed_of (knd := PySem.strKind prog w) (s := { s2 with toks := s2.toks + 1 }) (strKind_is _ _ _ _) rfl so2 (by omega) fun h3 sb so3 => ?_
    have out : ∀ b, b ≠ S → ∀ o, s2.heap.get? b = some o → h3.get? b = some o := fun b hb o q => (sb.2 b hb).trans q
    have so4 : h3.SetOf (PySem.strKind prog w) S (fun k' => decide (k' ∈ (if xs.getD i Str.empty ∈ acc then acc else acc ++ [xs.getD i Str.empty]))) (if xs.getD i Str.empty ∈ acc then acc else acc ++ [xs.getD i Str.empty]).length :=
      SetOf_congr so3 (fun k' => met_in _ _ _) (met_size _ _)
    have len4 : (if xs.getD i Str.empty ∈ acc then acc else acc ++ [xs.getD i Str.empty]).length ≤ i + 1 := by
      by_cases hx : xs.getD i Str.empty ∈ acc
      · rw [if_pos hx]; omega
      · rw [if_neg hx, List.length_append, List.length_singleton]; omega
    refine wpAny_pure ⟨plainId_quiet PyProof.Rows.F.plain_set_update_loop _, ih (i + 1) _ { s2 with heap := h3, toks := s2.toks + 1 } (by omega) len4 (W.frame _ s2 _ _ st2 (Nat.le_succ _) fun b hb o q => out b (fun z => nS (z ▸ hb)) o q) so4 fun s5 mv5 so5 => k s5 ?_ ?_⟩
    · exact Moved.trans W.gtrans ((mv.mono up).then_heap (Nat.le_succ _) fun b o hb q => out b (fun z => hb (z ▸ List.mem_cons_self)) o q) mv5
    · rw [cod_some (by omega)]
      exact so5
end

/-- what stands at the new set's place at first -/
abbrev bare (led : Bool) : Obj := { cls := .type "set", dict := none, data := .set #[] 0 (.fresh 0 0 led) }
section
variable {prog : Program} {w : World} {A : Around} {E : Value → Shared → Prop} {s : Shared} {src : Addr} {items : Array Value} {xs : List Str}
set_option maxHeartbeats 3200000 in
/-- set(list of texts) -/
theorem set_list {Q : Value → Shared → Prop} (calm : A.handled = none) (at_ : s.heap.IsList src items) (are : PyProof.Rows.StrsAre items.toList xs) (few : xs.length + 1 < scanBound)
    (k : ∀ (h2 : Heap) (tk : Nat), h2.SetOf (PySem.strKind prog w) s.heap.objs.size (fun k' => decide (k' ∈ met [] xs)) (met [] xs).length → (∀ b o, s.heap.get? b = some o → h2.get? b = some o) → Q (.ref s.heap.objs.size) { s with heap := h2, toks := tk }) :
    wpAny (model prog w) A (call (.type "set") [.ref src]) Q E s := by
  have m1 := PySem.F.called_set.mro
  obtain ⟨_, _, hm⟩ := m1
  have made := PySem.F.called_set.made
  have below := PySem.F.called_set.sub
  refine wpAny_call (codeAny_of_tree ?_)
  show wpAny _ _ (callAny (Value.type "set") ⟨[Value.ref src], []⟩) _ _ _
  refine wpAny_pure (And.intro (Code.quiet_builtin _ (by decide +kernel)) (codeAny_builtin PySem.F.entry_type_call ?_))
  rw [Around.under_plain (weight_type_call_type "set" [Value.ref src] []) rfl]
  have n1 := PySem.F.called_set.notType
  have n2 := PySem.F.called_set.canCreate
  have n3 := PySem.F.typeCall_set_1 (Value.ref src)
  repeat any_goals first | wp_step | assumption
  refine codeAny_mono (code_set_new_1 (Value.ref src) (E := E) (Q₁ := fun x s1 => ∃ led, x = .ref s.heap.objs.size ∧ s1 = { s with heap := s.heap.push (bare led) }) fun led => ⟨led, rfl, rfl⟩) fun r s1 back => ?_
  cases r with
  | error e => exact back
  | ok fl =>
    cases fl with
    | next => exact back.elim
    | brk => exact back.elim
    | cont => exact back.elim
    | ret x =>
      obtain ⟨led, rfl, rfl⟩ := back
      have gS : (s.heap.push (bare led)).get? s.heap.objs.size = some (bare led) := Heap.get?_push_size _ rfl
      have tS : Shared.TypeIs { s with heap := s.heap.push (bare led) } (.ref s.heap.objs.size) "set" := ⟨_, gS, rfl⟩
      have i1 := PySem.F.called_set.init.lookup
      have i2 := PySem.F.called_set.init.bind (.ref s.heap.objs.size)
      repeat any_goals first | wp_step | assumption
      refine codeAny_mono (codeAny_call_builtin (R := wants (fun r s2 => r = .none ∧ ∃ h2 tk, s2 = { s with heap := h2, toks := tk } ∧ h2.SetOf (PySem.strKind prog w) s.heap.objs.size (fun k' => decide (k' ∈ met [] xs)) (met [] xs).length ∧
        ∀ b o, s.heap.get? b = some o → h2.get? b = some o) E) PySem.F.called_set.init.plain PySem.F.entry_set_init (check_set_init_1 tS ?_)) fun r2 s2 back2 => ?_
      · obtain ⟨ol, gl, cl, nl, dl⟩ := at_
        obtain ⟨ocls, odict, odata, oslots⟩ := ol
        simp only at cl dl
        subst cl; subst dl
        have gl' : (s.heap.push (bare led)).get? src = some { cls := .type "list", dict := odict, data := .seq items nl, slots := oslots } := Heap.get?_push_of_some _ gl
        have u1 := PySem.F.sub_list_set
        have u2 := PySem.F.sub_list_frozenset
        have u3 : (Value.type "list" == Value.type "dict") = false := by decide
        have at2 : (s.heap.push (bare led)).IsList src items := ⟨_, gl', rfl, nl, rfl⟩
        unfold Builtin.«set.__init__» noKeywords Builtin.Frozenset.updateFrom
        generalize hide : pyIter = PI
        wp_walk
        subst hide
        refine wpAny_pyIter_list at2 (wpAny_bind (wpAny_runValue ?_))
        have small : src < s.heap.objs.size := Heap.lt_size gl
        have calm3 : A.in1.in1.in1.handled = none := by simp [calm]
        have z1 : (s.heap.push (bare led)).objs.size = s.heap.objs.size + 1 := Heap.size_push ..
        have d1 : src ≠ (s.heap.push (bare led)).objs.size := by rw [z1]; exact Nat.ne_of_lt (Nat.lt_succ_of_lt small)
        have d2 : s.heap.objs.size ∉ [(s.heap.push (bare led)).objs.size, src] := by
          rw [z1]
          intro hm2
          rcases List.mem_cons.mp hm2 with e | hm2
          · exact Nat.ne_of_lt (Nat.lt_succ_self _) e
          · exact Nat.ne_of_gt small (List.mem_singleton.mp hm2)
        have sz : xs.length = items.size := by rw [← StrsAre.len_eq are, Array.length_toList]
        have vals : ∀ (i : Nat) (v : Value), items[i]? = some v → ∃ t, v = .str (xs.getD i Str.empty) t := fun i v hv => SS.strs_at are i v (by rw [Array.getElem?_toList]; exact hv)
        refine upd_loop (S := s.heap.objs.size) ((Walks.list calm3 _ src d1 items).toS) d2 sz vals (by omega) items.size 0 [] _ (Nat.zero_add _) (Nat.le_refl _) ⟨⟨_, Heap.get?_push_size _ rfl, rfl, rfl⟩, (at2.push _)⟩ ?first ?last
        case first =>
          exact SetOf_congr ((setObjOf_fresh (knd := PySem.strKind prog w) led).setOf (Heap.get?_push_of_some _ gS) (by decide)) (fun _ => rfl) rfl
        case last =>
          intro s' mv so
          obtain ⟨h', g', d', tk', os'⟩ := s'
          obtain rfl : g' = s.gens := mv.gens
          obtain rfl : d' = s.drawn := mv.drawn
          obtain rfl : os' = s.os := mv.os
          refine wpAny_pure (wpAny_pure ⟨rfl, h', tk', rfl, so, fun b o q => ?_⟩)
          have lb : b < s.heap.objs.size := Heap.lt_size q
          refine mv.heap b o (fun hm2 => ?_) (Heap.get?_push_of_some _ (Heap.get?_push_of_some _ q))
          rcases List.mem_cons.mp hm2 with e | hm2
          · exact Nat.ne_of_lt lb e
          · have e2 := List.mem_singleton.mp hm2
            rw [z1] at e2
            exact Nat.ne_of_lt (Nat.lt_succ_of_lt lb) e2
      · cases r2 with
        | error e => exact back2
        | ok fl2 =>
          cases fl2 with
          | next => exact back2.elim
          | brk => exact back2.elim
          | cont => exact back2.elim
          | ret r =>
            obtain ⟨rfl, h2, tk, rfl, so, kp⟩ := back2
            repeat any_goals first | wp_step | assumption
            exact k _ _ so kp
set_option maxHeartbeats 3200000 in
/-- set(tuple of texts) -/
theorem set_tuple {Q : Value → Shared → Prop} (calm : A.handled = none) (at_ : s.heap.IsTuple src items) (are : PyProof.Rows.StrsAre items.toList xs) (few : xs.length + 1 < scanBound)
    (k : ∀ (h2 : Heap) (tk : Nat), h2.SetOf (PySem.strKind prog w) s.heap.objs.size (fun k' => decide (k' ∈ met [] xs)) (met [] xs).length → (∀ b o, s.heap.get? b = some o → h2.get? b = some o) → Q (.ref s.heap.objs.size) { s with heap := h2, toks := tk }) :
    wpAny (model prog w) A (call (.type "set") [.ref src]) Q E s := by
  have m1 := PySem.F.called_set.mro
  obtain ⟨_, _, hm⟩ := m1
  have made := PySem.F.called_set.made
  have below := PySem.F.called_set.sub
  refine wpAny_call (codeAny_of_tree ?_)
  show wpAny _ _ (callAny (Value.type "set") ⟨[Value.ref src], []⟩) _ _ _
  refine wpAny_pure (And.intro (Code.quiet_builtin _ (by decide +kernel)) (codeAny_builtin PySem.F.entry_type_call ?_))
  rw [Around.under_plain (weight_type_call_type "set" [Value.ref src] []) rfl]
  have n1 := PySem.F.called_set.notType
  have n2 := PySem.F.called_set.canCreate
  have n3 := PySem.F.typeCall_set_1 (Value.ref src)
  repeat any_goals first | wp_step | assumption
  refine codeAny_mono (code_set_new_1 (Value.ref src) (E := E) (Q₁ := fun x s1 => ∃ led, x = .ref s.heap.objs.size ∧ s1 = { s with heap := s.heap.push (bare led) }) fun led => ⟨led, rfl, rfl⟩) fun r s1 back => ?_
  cases r with
  | error e => exact back
  | ok fl =>
    cases fl with
    | next => exact back.elim
    | brk => exact back.elim
    | cont => exact back.elim
    | ret x =>
      obtain ⟨led, rfl, rfl⟩ := back
      have gS : (s.heap.push (bare led)).get? s.heap.objs.size = some (bare led) := Heap.get?_push_size _ rfl
      have tS : Shared.TypeIs { s with heap := s.heap.push (bare led) } (.ref s.heap.objs.size) "set" := ⟨_, gS, rfl⟩
      have i1 := PySem.F.called_set.init.lookup
      have i2 := PySem.F.called_set.init.bind (.ref s.heap.objs.size)
      repeat any_goals first | wp_step | assumption
      refine codeAny_mono (codeAny_call_builtin (R := wants (fun r s2 => r = .none ∧ ∃ h2 tk, s2 = { s with heap := h2, toks := tk } ∧ h2.SetOf (PySem.strKind prog w) s.heap.objs.size (fun k' => decide (k' ∈ met [] xs)) (met [] xs).length ∧
        ∀ b o, s.heap.get? b = some o → h2.get? b = some o) E) PySem.F.called_set.init.plain PySem.F.entry_set_init (check_set_init_1 tS ?_)) fun r2 s2 back2 => ?_
      · obtain ⟨ol, gl, cl, nl, dl⟩ := at_
        obtain ⟨ocls, odict, odata, oslots⟩ := ol
        simp only at cl dl
        subst cl; subst dl
        have gl' : (s.heap.push (bare led)).get? src = some { cls := .type "tuple", dict := odict, data := .seq items nl, slots := oslots } := Heap.get?_push_of_some _ gl
        have u1 := PySem.F.sub_tuple_set
        have u2 := PySem.F.sub_tuple_frozenset
        have u3 : (Value.type "tuple" == Value.type "dict") = false := by decide
        have at2 : (s.heap.push (bare led)).IsTuple src items := ⟨_, gl', rfl, nl, rfl⟩
        unfold Builtin.«set.__init__» noKeywords Builtin.Frozenset.updateFrom
        generalize hide : pyIter = PI
        wp_walk
        subst hide
        refine wpAny_pyIter_tuple at2 (wpAny_bind (wpAny_runValue ?_))
        have small : src < s.heap.objs.size := Heap.lt_size gl
        have calm3 : A.in1.in1.in1.handled = none := by simp [calm]
        have z1 : (s.heap.push (bare led)).objs.size = s.heap.objs.size + 1 := Heap.size_push ..
        have d1 : src ≠ (s.heap.push (bare led)).objs.size := by rw [z1]; exact Nat.ne_of_lt (Nat.lt_succ_of_lt small)
        have d2 : s.heap.objs.size ∉ [(s.heap.push (bare led)).objs.size, src] := by
          rw [z1]
          intro hm2
          rcases List.mem_cons.mp hm2 with e | hm2
          · exact Nat.ne_of_lt (Nat.lt_succ_self _) e
          · exact Nat.ne_of_gt small (List.mem_singleton.mp hm2)
        have sz : xs.length = items.size := by rw [← StrsAre.len_eq are, Array.length_toList]
        have vals : ∀ (i : Nat) (v : Value), items[i]? = some v → ∃ t, v = .str (xs.getD i Str.empty) t := fun i v hv => SS.strs_at are i v (by rw [Array.getElem?_toList]; exact hv)
        refine upd_loop (S := s.heap.objs.size) ((Walks.tuple calm3 _ src d1 items).toS) d2 sz vals (by omega) items.size 0 [] _ (Nat.zero_add _) (Nat.le_refl _) ⟨⟨_, Heap.get?_push_size _ rfl, rfl, rfl⟩, (at2.push _)⟩ ?first ?last
        case first =>
          exact SetOf_congr ((setObjOf_fresh (knd := PySem.strKind prog w) led).setOf (Heap.get?_push_of_some _ gS) (by decide)) (fun _ => rfl) rfl
        case last =>
          intro s' mv so
          obtain ⟨h', g', d', tk', os'⟩ := s'
          obtain rfl : g' = s.gens := mv.gens
          obtain rfl : d' = s.drawn := mv.drawn
          obtain rfl : os' = s.os := mv.os
          refine wpAny_pure (wpAny_pure ⟨rfl, h', tk', rfl, so, fun b o q => ?_⟩)
          have lb : b < s.heap.objs.size := Heap.lt_size q
          refine mv.heap b o (fun hm2 => ?_) (Heap.get?_push_of_some _ (Heap.get?_push_of_some _ q))
          rcases List.mem_cons.mp hm2 with e | hm2
          · exact Nat.ne_of_lt lb e
          · have e2 := List.mem_singleton.mp hm2
            rw [z1] at e2
            exact Nat.ne_of_lt (Nat.lt_succ_of_lt lb) e2
      · cases r2 with
        | error e => exact back2
        | ok fl2 =>
          cases fl2 with
          | next => exact back2.elim
          | brk => exact back2.elim
          | cont => exact back2.elim
          | ret r =>
            obtain ⟨rfl, h2, tk, rfl, so, kp⟩ := back2
            repeat any_goals first | wp_step | assumption
            exact k _ _ so kp
end
end Ssb

/-! Sets of texts as tracked things: set(xs), {text for ..}, their len. -/
namespace Ssb
open PySem PySem.Spec PyProof.Rows L2

/-- at a: the set of the texts of l -/
def Txs (P : Program) (w : World) (a : Addr) (l : List Str) : HO := .ext fun h => h.SetOf (PySem.strKind P w) a (fun k => decide (k ∈ l)) l.length
/-- l with x at its end, if it is not there -/
def put1 (l : List Str) (x : Str) : List Str := if x ∈ l then l else l ++ [x]
theorem put1_len (l : List Str) (x : Str) : (put1 l x).length ≤ l.length + 1 := by
  unfold put1
  by_cases h : x ∈ l
  · rw [if_pos h]; omega
  · rw [if_neg h, List.length_append]; exact Nat.le_refl _
section
variable {P : Program} {w : World} {X : Cx}
theorem txs_ok {H : Hp} {h : Heap} {a : Addr} {l : List Str} (r : h.SetOf (PySem.strKind P w) a (fun k => decide (k ∈ l)) l.length) : ObjOk P w H h a (Txs P w a l) := by
  refine ⟨r, ?_, fun g1 g2 p k => ?_⟩
  · obtain ⟨o, _, _, _, q, _⟩ := r; exact ⟨o, q⟩
  · obtain ⟨o, b1, b2, b3, q, r2⟩ := p; exact ⟨o, b1, b2, b3, k o q, r2⟩
theorem txs_at {pins : List (Addr × Obj)} {σ : L2.St} {H : Hp} {s : Shared} {a : Addr} {l : List Str} (I : Inv X pins σ H s) (e : H a = some (Txs X.prog X.w a l)) : s.heap.SetOf (PySem.strKind X.prog X.w) a (fun k => decide (k ∈ l)) l.length := by
  have z : ObjOk X.prog X.w H s.heap a (.ext fun h => h.SetOf (PySem.strKind X.prog X.w) a (fun k => decide (k ∈ l)) l.length) := I.hok a _ e
  exact z.1
/-- one text more -/
theorem txs_add {pins : List (Addr × Obj)} {σ : L2.St} {H : Hp} {s : Shared} {E : Value → Shared → Prop} {a : Addr} {l : List Str} {x : Str} {t : Tok} {Q : Value → Shared → Prop} (I : Inv X pins σ H s) (e : H a = some (Txs X.prog X.w a l)) (few : l.length + 1 < scanBound)
    (k : ∀ s2, Inv X pins σ (upd H a (Txs X.prog X.w a (put1 l x))) s2 → Q .none s2) : wpAny (model X.prog X.w) X.A (call (.builtin "set.add") [.ref a, .str x t]) Q E s := by
  refine PySem.call_set_add (knd := PySem.strKind X.prog X.w) (strKind_is _ _ _ _) rfl (txs_at I e) few fun h2 sb so => ?_
  have so2 : h2.SetOf (PySem.strKind X.prog X.w) a (fun k' => decide (k' ∈ put1 l x)) (put1 l x).length := SetOf_congr so (fun k' => met_in l x k') (met_size l x)
  have there : ∃ u, h2.get? a = some u := by
    obtain ⟨o, _, _, _, q, _⟩ := so2; exact ⟨o, q⟩
  exact k _ (I.write (t' := s.toks + 1) (x := a) (e := a) (by rw [e]; trivial) (.inl rfl) (fun b u hb q => (sb.2 b hb).trans q) there (txs_ok so2))

/-! ### set(xs) -/
def rSetS (K : PySem.W.Frag) (P : Program) (w : World) : List V → Hp → VK → Prop := fun vs H Q => ∃ (a : Addr) (xs : List Str), vs = [.ref a] ∧ (SqL K H a (xs.map V.str) ∨ SqT K H a (xs.map V.str)) ∧ xs.length + 1 < scanBound ∧
  ∀ p, H p = none → Q (.ref p) (upd H p (Txs P w p (met [] xs)))
theorem cr_setS (hc : X.calm = true) : CallR X (.type "set") (rSetS X.K X.prog X.w) := by
  intro pins s σ H vs us Q I r q
  obtain ⟨a, xs, rfl, sq, few, k⟩ := q
  rw [Vals.ref1 r]
  have new : H s.heap.objs.size = none := I.hok.fresh (Nat.le_refl _)
  have done : ∀ (h2 : Heap) (tk : Nat), h2.SetOf (PySem.strKind X.prog X.w) s.heap.objs.size (fun k' => decide (k' ∈ met [] xs)) (met [] xs).length → (∀ b o, s.heap.get? b = some o → h2.get? b = some o) → EP X pins σ Q (.ref s.heap.objs.size) { s with heap := h2, toks := tk } :=
    fun h2 tk so kp => ⟨.ref s.heap.objs.size, upd H s.heap.objs.size (Txs X.prog X.w s.heap.objs.size (met [] xs)), I.laid (t' := tk) kp (Nat.le_refl _) (txs_ok so), rfl, k _ new⟩
  rcases sq with sq | sq
  · obtain ⟨its, rv, pl, _⟩ := I.list sq
    exact set_list (I.ok.hd hc) pl.isList (by simpa using strsAre_of rv) few done
  · obtain ⟨its, rv, pl, _⟩ := I.tuple sq
    exact set_tuple (I.ok.hd hc) pl (by simpa using strsAre_of rv) few done
/-! ### len of it -/
def rLenTxs (P : Program) (w : World) : List V → Hp → VK → Prop := fun vs H Q => ∃ (a : Addr) (l : List Str), vs = [.ref a] ∧ H a = some (Txs P w a l) ∧ l.length < 1000000 ∧ Q (.int l.length) H
theorem call_lenTxs : CallR X (.builtin "len") (rLenTxs X.prog X.w) := by
  intro pins s σ H vs us Q I r q
  obtain ⟨a, l, rfl, e, few, k⟩ := q
  rw [Vals.ref1 r]
  obtain ⟨o, es, ep, t, ho, ex, dt, _, _, _, fits, n⟩ := txs_at I e
  refine PySem.call_len_set ho ex dt fits (by rw [n]; omega) ⟨.int l.length, H, I.tok _, ⟨_, by rw [n]⟩, k⟩
end

/-! ### {text for ..} -/
/-- the reading: D, the new set -/
def tTxs (P : Program) (w : World) (wi : TI) (g : TG) (tt : TT) (te : TE) (vs : List Nat) : TE := fun σ H Q => wi σ H fun J H1 => ∀ D, H1 D = none → ∃ W : Nat → Nat → Hp → Prop, (∃ m, W 0 m (upd H1 D (Txs P w D []))) ∧ ∀ i m H, W i m H →
  (J.stop i H ∧ Q (.ref D) H) ∨ (J.go i H ∧ ∃ Nx : Hp → Prop, (∀ H', Nx H' → ∃ m', m' < m ∧ W (i + 1) m' H') ∧ ∀ x H', J.yld i H x H' → g x (wipe σ vs) H' fun σ2 H2 => wipe σ2 vs = wipe σ vs ∧ tt σ2 H2 fun b H3 =>
    if b = true then te σ2 H3 fun y H4 => ∃ (z : Str) (l : List Str), y = .str z ∧ H4 D = some (Txs P w D l) ∧ l.length + 1 < scanBound ∧ Nx (upd H4 D (Txs P w D (put1 l z))) else Nx H3)
section
variable {X : Cx} {elt tg iter : Expr} {ifs : List Expr} {scope : Scope} {own : List (PySem.Str × Nat)} {pos pos' : Pos} {wi : TI} {g : TG} {tt : TT} {te : TE}
theorem pe_scT (hc : X.calm = true) (hN : X.N.Nodup) (hi : PI X tg iter wi) (ok : BlkOk X.N X.env.scope scope own)
    (hg : ∀ (u : Shared) (B : Hp) (C : Addr) (cl : List (PySem.Str × Addr)) (fp : List Addr), PG (X.blk u B scope (compEnvC scope cl C X.env) fp) tg g)
    (ht : ∀ (u : Shared) (B : Hp) (C : Addr) (cl : List (PySem.Str × Addr)) (fp : List Addr), PTs (X.blk u B scope (compEnvC scope cl C X.env) fp) ifs tt)
    (he : ∀ (u : Shared) (B : Hp) (C : Addr) (cl : List (PySem.Str × Addr)) (fp : List Addr), PE (X.blk u B scope (compEnvC scope cl C X.env) fp) elt te)
    (hf : ∀ x, foldedSetIterable iter X.env x = pure x := by intro _; rfl) :
    PE X (.SetComp elt [⟨tg, iter, ifs, 0⟩] scope pos) (tTxs X.prog X.w wi g tt te (own.map (·.2))) := by
  refine ⟨fun pins s σ H Q I red => ?_⟩
  rw [PpSet.eval_SetComp]
  have caught : ∀ y ∈ scope.names, y.2 = .free → ∃ c, X.env.cells.lookup y.1 = some c := fun y hy e => (ok.free y hy e).elim (fun k => I.ok.has _ (.inl k)) fun k => I.ok.has _ (.inr k)
  refine wpAny_comprehension_free rfl hf (closure_ok caught) ok.kind (fun y hy e => by rw [ok.uniq y hy, e]) (thn (hi.run pins s σ H _ I red) fun _ s1 r1 => thn r1 fun _ s2 r2 => ?_)
  obtain ⟨it, fp, at_, J, H2, rfl, I2, T, now, apart, rest⟩ := r2
  refine PpSet.newSet_ok (newEnv_comp ?_)
  have noD : H2 s2.heap.objs.size = none := I2.hok.fresh (Nat.le_refl _)
  obtain ⟨W, ⟨m0, w0⟩, turn⟩ := rest _ noD
  generalize eD : s2.heap.objs.size = D at noD w0 turn ⊢
  generalize e3 : ({ s2 with heap := s2.heap.push (bare (!X.w.params.followText "set-order")) } : Shared) = s3
  have g3 : s3.heap = s2.heap.push (bare (!X.w.params.followText "set-order")) := by rw [← e3]
  generalize eH3 : upd H2 D (Txs X.prog X.w D []) = H3 at w0
  have I3 : Inv X pins σ H3 s3 := by
    rw [← e3, ← eH3]
    refine I2.laid (t' := s2.toks) (fun b o q => Heap.get?_push_of_some _ q) (Nat.le_of_eq eD) (txs_ok ?_)
    rw [← eD]
    exact SetOf_congr ((setObjOf_fresh (knd := PySem.strKind X.prog X.w) _).setOf (Heap.get?_push_size _ rfl) (by decide)) (fun _ => rfl) rfl
  have low : ∀ b ∈ fp, b < s2.heap.objs.size := fun b hb => by
    obtain ⟨o, q, _⟩ := T.obj _ _ now b hb; exact Heap.lt_size q
  have fp3 : ∀ b ∈ fp, FpOk X pins H3 b ∧ b < s3.heap.objs.size := fun b hb => by
    refine ⟨⟨?_, (apart b hb).2⟩, by rw [g3, Heap.size_push]; exact Nat.lt_succ_of_lt (low b hb)⟩
    rw [← eH3, upd_ne (by rw [← eD]; exact Nat.ne_of_lt (low b hb))]
    exact (apart b hb).1
  have now3 : at_ 0 s3.heap := T.keep _ _ _ now fun b _ o q => by rw [g3]; exact Heap.get?_push_of_some _ q
  have B4 := block_start I3 ok hN fp3
  generalize eC : compEnvC scope (cellsFrom (s3.heap.objs.size + 1) scope.names (cloFrom X.env.cells scope.names [])) s3.heap.objs.size X.env = ce at B4
  have pG : PG (X.blk s3 H3 scope ce fp) tg g := by rw [← eC]; exact hg _ _ _ _ _
  have pT : PTs (X.blk s3 H3 scope ce fp) ifs tt := by rw [← eC]; exact ht _ _ _ _ _
  have pE : PE (X.blk s3 H3 scope ce fp) elt te := by rw [← eC]; exact he _ _ _ _ _
  have eL : ce.locals = s3.heap.objs.size := by rw [← eC]; rfl
  have fpN : ∀ b ∈ fp, H3 b = none := fun b hb => (fp3 b hb).1.1
  generalize e4 : ({ s3 with heap := pushCells (s3.heap.push { cls := .type "dict", data := .dict #[] }) scope.names } : Shared) = s4 at B4
  have now4 : at_ 0 s4.heap := T.keep _ _ _ now3 fun b _ o q => by rw [← e4]; exact pushCells_keeps _ _ _ _ (Heap.get?_push_of_some _ q)
  show codeAny _ _ (.compStart (.SetComp elt [⟨tg, iter, ifs, 0⟩] scope pos) 0 (.ref it) (.ref D) (compEnvC scope (cellsFrom (s3.heap.objs.size + 1) scope.names (cloFrom X.env.cells scope.names [])) s3.heap.objs.size X.env)) (compPost _ _ _ none _ (.ref D) s3.heap.objs.size) s4
  rw [eC]
  have fpOk : ∀ {σ' : L2.St} {H' : Hp} {s' : Shared}, Inv (X.blk s3 H3 scope ce fp) [] σ' H' s' → (∀ b ∈ fp, H' b = none) → ∀ b ∈ fp, FpOk (X.blk s3 H3 scope ce fp) [] H' b := fun {_ _ _} J' no b hb =>
    ⟨no b hb, (J'.ok.exf b hb).1, J'.ok.exfs b hb, .inl hb, fun x c q => (J'.ok.exf b hb).2 x c q, fun p hp => nomatch (show p ∈ ([] : List (Addr × Obj)) from hp)⟩
  refine PpSet.codeAny_compStart_set ?_ (T.self X.A 0 _ _ _ now4 ?_)
  all_goals
    refine PpSet.compLoopS_any (fun m u => ∃ i G, Inv (X.blk s3 H3 scope ce fp) [] (wipe σ (own.map (·.2))) G u ∧ at_ i u.heap ∧ (∀ b ∈ fp, G b = none) ∧ W i m G) ?_ m0 ⟨0, H3, B4, now4, fpN, w0⟩
    rintro m u ⟨i, G, B5, now5, no5, w5⟩
    rcases turn i m G w5 with ⟨stop, fin⟩ | ⟨go, Nx, less, step⟩
    · refine thnF (T.done (X.blk s3 H3 scope ce fp) rfl rfl rfl hc i [] u _ G (fun _ _ => False) B5 (fpOk B5 no5) now5 stop) fun r s6 ⟨er, B6⟩ => ?_
      subst er
      have I7 : Inv X pins σ G s6 := I3.call' (ch := fp) B6.os B6.base B6.hok B6.bare fun b hb => ⟨(fp3 b hb).1.2.2.2.1, (fp3 b hb).1.2.1, (fp3 b hb).1.2.2.2.2.1, (fp3 b hb).1.2.2.2.2.2⟩
      obtain ⟨mm, ns, _⟩ := B6.loc
      have ns : s6.heap.Ns ce.locals mm := ns
      have noC : G ce.locals = none := B6.free
      rw [eL] at ns noC
      obtain ⟨f0, f1, f2, f3, f4, f5⟩ := I3.fpOk (Nat.le_refl _) noC
      exact ⟨mm, ns, fun h'' sb => ⟨.ref D, G, I7.turned (t' := s6.toks) (fun b o hb q => (sb.2 b hb).trans q) f0 f1 f3 f4 f5, rfl, fin⟩⟩
    · refine thnF (T.item (X.blk s3 H3 scope ce fp) rfl rfl rfl hc i [] u _ G (fun _ _ => False) B5 (fpOk B5 no5) now5 go) fun r s6 ⟨v, er, r6⟩ => ?_
      subst er
      refine thnF r6 fun _ s7 ⟨x, G7, B7, rx, y7, now7, no7⟩ => ?_
      refine thnF (pG.run _ s7 _ G7 x v _ (B7.pinned (fpOk B7 no7) (T.obj _ _ now7)) rx (step x G7 y7)) fun _ s8 ⟨σ8, G8, B8, wp8, q8⟩ => ?_
      refine thnF (pT.run _ s8 σ8 G8 _ B8 q8) fun b s9 ⟨G9, B9, q9⟩ => ?_
      have close : ∀ {u' : Shared} {G' : Hp}, Inv (X.blk s3 H3 scope ce fp) ([] ++ pinsAt fp s7.heap) σ8 G' u' → Nx G' → ∃ m', m' < m ∧ ∃ i' G2, Inv (X.blk s3 H3 scope ce fp) [] (wipe σ (own.map (·.2))) G2 u' ∧ at_ i' u'.heap ∧ (∀ b ∈ fp, G2 b = none) ∧ W i' m' G2 := fun {u' G'} B' nx => by
        obtain ⟨m', lt, w'⟩ := less G' nx
        have held : ∀ b ∈ fp, ∀ o, s7.heap.get? b = some o → u'.heap.get? b = some o ∧ G' b = none := fun b hb o q =>
          ⟨(B'.pin (b, o) (List.mem_append_right _ (List.mem_append_right _ (mem_pinsAt hb q)))).1, (B'.pin (b, o) (List.mem_append_right _ (List.mem_append_right _ (mem_pinsAt hb q)))).2.1⟩
        refine ⟨m', lt, i + 1, G', (B'.unpinned (pins := [])).weak (by rw [← wp8, wipe_length]) (fun j z e => (wipe_some (by rw [wp8]; exact e)).1), T.keep _ _ _ now7 fun b hb o q => (held b hb o q).1, fun b hb => ?_, w'⟩
        obtain ⟨o, q, _⟩ := T.obj _ _ now7 b hb
        exact (held b hb o q).2
      cases b with
      | false =>
        simp only [Bool.false_eq_true, if_false] at q9 ⊢
        exact close B9 q9
      | true =>
        simp only [if_true] at q9 ⊢
        refine thnF (pE.run _ s9 σ8 G9 _ B9 q9) fun z s10 ⟨yv, G10, B10, r10, tx, l0, ey, at10, few, nx⟩ => ?_
        subst ey
        obtain ⟨tk, rfl⟩ := (show ∃ t, z = Value.str tx t from r10)
        exact txs_add (X := X.blk s3 H3 scope ce fp) B10 at10 few fun s11 B11 => close B11 nx
end
end Ssb

/-! Words: a def and its promise in one; data on the heap; loops over dicts. -/
namespace Ssb
open PySem PySem.Spec PyProof.Rows L2
open Evl (Ex Ev EvT EvL EvA EvU)

/-! ### a def of the module, a method of a class, and its promise -/
structure Fn (P : Program) (w : World) (K : PySem.W.Frag) (mg : Str → Option Value) (base : Heap) (nm : Str) (k : Nat) (ps : List Str) (sp : Sp) (f : Addr) (fd : FuncData) : Prop where
  ok : FnOk P w K mg base CX0 k f fd ps sp
  at_ : mg nm = some (.ref f)
  kp : PySem.W.keepIn K (.ref f) = true
  bd : Binds K fd ps []
structure Mt (P : Program) (w : World) (K : PySem.W.Frag) (mg : Str → Option Value) (base : Heap) (C : Addr) (nm : Str) (k : Nat) (ps : List Str) (sp : Sp) (f : Addr) (fd : FuncData) : Prop where
  ok : FnOk P w K mg base CX0 k f fd ps sp
  mt : Meth K C nm f
  bd : Binds K fd ps []
section
variable {X : Cx} {nm : Str} {k j : Nat} {ps : List Str} {sp : Sp} {f : Addr} {fd : FuncData} {p pos : Pos} {e : Expr} {es : List Expr} {t : TA}
theorem pcl (G : Fn X.prog X.w X.K X.mg X.base nm k ps sp f fd) (hr : Room j X.A) (ha : PA X (e :: es) t) (hj : k ≤ j := by first | decide | omega) (hg : Gl X nm := by rfl) (hdb : (nm == ("__debug__" : Str)) = false := by decide)
    (he : starEach (e :: es) X.env = (false, eval e X.env) :: starEach es X.env := by rfl) (hpl : (backTo pos (starEach es X.env)).any (·.1) = false := by rfl) : PE X (.Call (.Name nm p) (e :: es) [] pos) (tCall sp [] E0 t) :=
  pe_call G.ok (hr.mono hj) hg G.at_ G.kp G.bd .nil pass0 ha hdb he hpl
variable {o : Expr} {ta : TE} {apos : Pos} {C : Addr} {pl : Sem Bool}
theorem pmt (ho : PE X o ta) (c : Cls X.K C) (G : Mt X.prog X.w X.K X.mg X.base C nm k ps sp f fd) (hr : Room j X.A) (ha : PA X (e :: es) t) (hj : k ≤ j := by first | decide | omega)
    (he : starEach (e :: es) X.env = (false, eval e X.env) :: starEach es X.env := by rfl) (hpl : (backTo pos (starEach es X.env)).any (·.1) = false := by rfl)
    (ht : eval (.Call (.Attribute o nm apos) (e :: es) [] pos) X.env = (do
      let ov ← eval o X.env
      standAt apos.atName
      let (f, first) ← holding [ov] (getMethod ov nm pl)
      callWith pos f first (backTo pos (starEach (e :: es) X.env)) (backToKw pos (keywordEach [] X.env))) := by rfl) : PE X (.Call (.Attribute o nm apos) (e :: es) [] pos) (tMeth C nm sp [] E0 ta t) :=
  pe_meth ho c G.mt G.ok (hr.mono hj) G.bd .nil pass0 ha he hpl ht
theorem pmt0 (ho : PE X o ta) (c : Cls X.K C) (G : Mt X.prog X.w X.K X.mg X.base C nm k ps sp f fd) (hr : Room j X.A) (hj : k ≤ j := by first | decide | omega)
    (ht : eval (.Call (.Attribute o nm apos) [] [] pos) X.env = (do
      let ov ← eval o X.env
      standAt apos.atName
      let (f, first) ← holding [ov] (getMethod ov nm pl)
      callWith pos f first (backTo pos (starEach [] X.env)) (backToKw pos (keywordEach [] X.env))) := by rfl) : PE X (.Call (.Attribute o nm apos) [] [] pos) (tMeth C nm sp [] E0 ta tNil) :=
  pe_meth0 ho c G.mt G.ok (hr.mono hj) G.bd .nil pass0 ht
/-- a test that is never asked -/
def tNeverT : TT := fun _ _ _ => False
theorem pt_unseen : PT X e tNeverT := ⟨fun _ _ _ _ _ _ h => h.elim⟩
def tNeverE : TE := fun _ _ _ => False
theorem pe_unseen : PE X e tNeverE := ⟨fun _ _ _ _ _ _ h => h.elim⟩
end

/-! ### data, as they stand on the heap: lists and dicts at places of S, a dict never within itself -/
inductive D where
  | non | bl (b : Bool) | int (i : Int) | str (s : Str) | lst (l : List D) | tup (l : List D) | dic (l : List (Str × D))
def Rep (H : Hp) : Nat → (Addr → Prop) → D → V → Prop
  | 0, _, _, _ => False
  | _ + 1, _, .non, v => v = .non
  | _ + 1, _, .bl b, v => v = .bl b
  | _ + 1, _, .int i, v => v = .int i
  | _ + 1, _, .str s, v => v = .str s
  | n + 1, S, .lst l, v => ∃ a xs, v = .ref a ∧ S a ∧ H a = some (.lst xs) ∧ l.length ≤ 100000 ∧ Paired (fun d x => Rep H n S d x) l xs
  | n + 1, S, .tup l, v => ∃ a xs, v = .ref a ∧ H a = some (.tup xs) ∧ l.length ≤ 100000 ∧ Paired (fun d x => Rep H n S d x) l xs
  | n + 1, S, .dic l, v => ∃ a es, v = .ref a ∧ S a ∧ H a = some (.dK es) ∧ l.length ≤ 100000 ∧ Paired (fun (q : Str × D) (e : Key × V) => e.1 = Sum.inr q.1 ∧ Rep H n (fun b => S b ∧ b ≠ a) q.2 e.2) l es
theorem pair_imp {α β : Type} {F G : α → β → Prop} : ∀ {l : List α} {m : List β}, Paired F l m → (∀ a b, F a b → G a b) → Paired G l m
  | _, _, .nil, _ => .nil
  | _, _, .cons h t, k => .cons (k _ _ h) (pair_imp t k)
theorem pair_len {α β : Type} {F : α → β → Prop} : ∀ {l : List α} {m : List β}, Paired F l m → l.length = m.length
  | _, _, .nil => rfl
  | _, _, .cons _ t => congrArg (· + 1) (pair_len t)
theorem pair_at {α β : Type} {F : α → β → Prop} : ∀ {l : List α} {m : List β} {i : Nat} {a : α}, Paired F l m → l[i]? = some a → ∃ b, m[i]? = some b ∧ F a b
  | _, _, _, _, .nil, e => by simp at e
  | _, _, 0, _, .cons h _, e => by
    simp at e; subst e; exact ⟨_, rfl, h⟩
  | _, _, i + 1, _, .cons _ t, e => by
    obtain ⟨b, h1, h2⟩ := pair_at (i := i) t (by simpa using e)
    exact ⟨b, by simpa using h1, h2⟩
theorem pair_back {α β : Type} {F : α → β → Prop} : ∀ {l : List α} {m : List β} {i : Nat} {b : β}, Paired F l m → m[i]? = some b → ∃ a, l[i]? = some a ∧ F a b
  | _, _, _, _, .nil, e => by simp at e
  | _, _, 0, _, .cons h _, e => by
    simp at e; subst e; exact ⟨_, rfl, h⟩
  | _, _, i + 1, _, .cons _ t, e => by
    obtain ⟨b, h1, h2⟩ := pair_back (i := i) t (by simpa using e)
    exact ⟨b, by simpa using h1, h2⟩
theorem pair_app {α β : Type} {F : α → β → Prop} : ∀ {l l' : List α} {m m' : List β}, Paired F l m → Paired F l' m' → Paired F (l ++ l') (m ++ m')
  | _, _, _, _, .nil, t => t
  | _, _, _, _, .cons h r, t => .cons h (pair_app r t)
theorem pair_snoc {α β : Type} {F : α → β → Prop} {l : List α} {m : List β} {a : α} {b : β} (p : Paired F l m) (h : F a b) : Paired F (l ++ [a]) (m ++ [b]) := pair_app p (.cons h .nil)
/-- what is told at the places of S (and of tuples) is all that counts -/
theorem rep_to {H H' : Hp} : ∀ {n : Nat} {S : Addr → Prop} {d : D} {v : V}, (∀ b o, H b = some o → (S b ∨ ∃ xs, o = .tup xs) → H' b = some o) → Rep H n S d v → Rep H' n S d v
  | 0, _, _, _, _, h => h.elim
  | n + 1, S, d, v, k, h => by
    cases d with
    | non => exact h
    | bl b => exact h
    | int i => exact h
    | str s => exact h
    | lst l =>
      obtain ⟨a, xs, e, s, ha, hl, p⟩ := h
      exact ⟨a, xs, e, s, k a _ ha (.inl s), hl, pair_imp p fun d x r => rep_to k r⟩
    | tup l =>
      obtain ⟨a, xs, e, ha, hl, p⟩ := h
      exact ⟨a, xs, e, k a _ ha (.inr ⟨xs, rfl⟩), hl, pair_imp p fun d x r => rep_to k r⟩
    | dic l =>
      obtain ⟨a, es, e, s, ha, hl, p⟩ := h
      exact ⟨a, es, e, s, k a _ ha (.inl s), hl, pair_imp p fun q x r => ⟨r.1, rep_to (fun b o hb z => k b o hb (z.imp (·.1) id)) r.2⟩⟩
theorem rep_ex {H H' : Hp} {n : Nat} {S : Addr → Prop} {d : D} {v : V} (e : Ex H H') (h : Rep H n S d v) : Rep H' n S d v := rep_to (fun b o hb _ => e b o hb) h
theorem rep_S {H : Hp} : ∀ {n : Nat} {S S' : Addr → Prop} {d : D} {v : V}, (∀ b, S b → S' b) → Rep H n S d v → Rep H n S' d v
  | 0, _, _, _, _, _, h => h.elim
  | n + 1, S, S', d, v, k, h => by
    cases d with
    | non => exact h
    | bl b => exact h
    | int i => exact h
    | str s => exact h
    | lst l =>
      obtain ⟨a, xs, e, s, ha, hl, p⟩ := h
      exact ⟨a, xs, e, k a s, ha, hl, pair_imp p fun d x r => rep_S k r⟩
    | tup l =>
      obtain ⟨a, xs, e, ha, hl, p⟩ := h
      exact ⟨a, xs, e, ha, hl, pair_imp p fun d x r => rep_S k r⟩
    | dic l =>
      obtain ⟨a, es, e, s, ha, hl, p⟩ := h
      exact ⟨a, es, e, k a s, ha, hl, pair_imp p fun q x r => ⟨r.1, rep_S (fun b z => ⟨k b z.1, z.2⟩) r.2⟩⟩
theorem rep_up {H : Hp} : ∀ {n : Nat} {S : Addr → Prop} {d : D} {v : V}, Rep H n S d v → Rep H (n + 1) S d v
  | 0, _, _, _, h => h.elim
  | n + 1, S, d, v, h => by
    cases d with
    | non => exact h
    | bl b => exact h
    | int i => exact h
    | str s => exact h
    | lst l =>
      obtain ⟨a, xs, e, s, ha, hl, p⟩ := h
      exact ⟨a, xs, e, s, ha, hl, pair_imp p fun d x r => rep_up r⟩
    | tup l =>
      obtain ⟨a, xs, e, ha, hl, p⟩ := h
      exact ⟨a, xs, e, ha, hl, pair_imp p fun d x r => rep_up r⟩
    | dic l =>
      obtain ⟨a, es, e, s, ha, hl, p⟩ := h
      exact ⟨a, es, e, s, ha, hl, pair_imp p fun q x r => ⟨r.1, rep_up r.2⟩⟩
/-- behind a lock of a, which S does not hold -/
theorem rep_lock {H : Hp} {n : Nat} {S : Addr → Prop} {d : D} {v : V} {a : Addr} {es : List (Key × V)} {u : HO} (ha : H a = some (.dK es)) (hS : ∀ b, S b → b ≠ a) (h : Rep H n S d v) : Rep (upd H a u) n S d v :=
  rep_to (fun b o hb z => by
    have ne : b ≠ a := by
      rcases z with z | ⟨xs, rfl⟩
      · exact hS b z
      · intro e; rw [e, ha] at hb; cases hb
    rw [upd_ne ne]; exact hb) h

/-! ### what a dict tells -/
theorem lk_cons {α : Type} (k j : Str) (d : α) (l : List (Str × α)) : List.lookup k ((j, d) :: l) = if k = j then some d else List.lookup k l := by
  by_cases h : k = j
  · subst h; simp [List.lookup]
  · have e : (k == j) = false := by simpa using h
    rw [if_neg h]; simp [List.lookup, e]
theorem vV_cons (k : Key) (e : Key × V) (l : List (Key × V)) : valV (e :: l) k = if e.1 = k then some e.2 else valV l k := by
  unfold valV
  rw [List.find?_cons]
  by_cases h : e.1 = k
  · rw [decide_eq_true h, if_pos h]; rfl
  · rw [decide_eq_false h, if_neg h]
theorem pair_lk {F : D → V → Prop} : ∀ {l : List (Str × D)} {es : List (Key × V)}, Paired (fun (q : Str × D) (e : Key × V) => e.1 = Sum.inr q.1 ∧ F q.2 e.2) l es → ∀ {k : Str} {d : D}, l.lookup k = some d → ∃ v, valV es (Sum.inr k : Key) = some v ∧ F d v
  | _, _, .nil, k, d, h => by simp [List.lookup] at h
  | (j, d0) :: l, e :: es, .cons h t, k, d, hk => by
    rw [lk_cons] at hk
    rw [vV_cons]
    by_cases c : k = j
    · rw [if_pos c] at hk
      cases hk
      exact ⟨e.2, by rw [if_pos (by rw [h.1, c])], h.2⟩
    · rw [if_neg c] at hk
      obtain ⟨v, h1, h2⟩ := pair_lk t hk
      exact ⟨v, by rw [if_neg (by rw [h.1]; intro z; exact c (Sum.inr.inj z).symm)]; exact h1, h2⟩
theorem pair_no {F : D → V → Prop} : ∀ {l : List (Str × D)} {es : List (Key × V)}, Paired (fun (q : Str × D) (e : Key × V) => e.1 = Sum.inr q.1 ∧ F q.2 e.2) l es → ∀ {k : Str}, l.lookup k = none → valV es (Sum.inr k : Key) = none
  | _, _, .nil, k, h => rfl
  | (j, d0) :: l, e :: es, .cons h t, k, hk => by
    rw [lk_cons] at hk
    rw [vV_cons]
    by_cases c : k = j
    · rw [if_pos c] at hk; cases hk
    · rw [if_neg c] at hk
      rw [if_neg (by rw [h.1]; intro z; exact c (Sum.inr.inj z).symm)]
      exact pair_no t hk

/-! ### expressions that only make objects -/
/-- te gives a v of which P holds (P stays when objects are made) -/
def EvP (te : TE) (σ : L2.St) (H : Hp) (P : V → Hp → Prop) : Prop := ∀ H1, Ex H H1 → ∀ Q : VK, (∀ v H2, Ex H1 H2 → P v H2 → Q v H2) → te σ H1 Q
section
variable {K : PySem.W.Frag} {σ : L2.St} {H H' : Hp} {te ta tb tc : TE} {v x y z : V} {t u : TT}
theorem Ev.p {P : V → Hp → Prop} (h : Ev te σ H v) (hp : ∀ H1, Ex H H1 → P v H1) : EvP te σ H P := fun H1 e Q q => h H1 e Q fun H2 e2 => q v H2 e2 (hp H2 (e.trans e2))
theorem ev_chain {r r' : R2} {b1 b2 : Bool} (ha : Ev ta σ H x) (hb : Ev tb σ H y) (hc : Ev tc σ H z) (h1 : Evl.RV r x y H (.bl b1)) (h2 : Evl.RV r' y z H (.bl b2)) : Ev (tChain r r' ta tb tc) σ H (.bl (b1 && b2)) := fun H1 e Q q =>
  ha H1 e _ fun H2 e2 => hb H2 (e.trans e2) _ fun H3 e3 => h1 H3 ((e.trans e2).trans e3) _ fun H4 e4 => ⟨b1, rfl, by
    cases b1 with
    | true => exact hc H4 (((e.trans e2).trans e3).trans e4) _ fun H5 e5 => h2 H5 ((((e.trans e2).trans e3).trans e4).trans e5) Q fun H6 e6 => q H6 ((((e2.trans e3).trans e4).trans e5).trans e6)
    | false => exact q H4 ((e2.trans e3).trans e4)⟩
theorem ev_isi {n : String} {ty : Value} {b : Bool} (h : Ev te σ H x) (hty : ∀ H1, Ex H H1 → TyX K H1 x ty) (hk : PySem.W.kitOne K ty (.type n) = some b) : Ev (tCB (rIsi K) (tCons te (tCons (tC (.ty n)) tNil))) σ H (.bl b) := fun H1 e Q q =>
  h H1 e _ fun H2 e2 => ⟨x, .ty n, ty, .type n, b, rfl, .ty n, hty H2 (e.trans e2), hk, q H2 e2⟩
theorem ev_isi2 {n m : String} {ty : Value} {b : Bool} (h : Ev te σ H x) (hty : ∀ H1, Ex H H1 → TyX K H1 x ty) (hk : PySem.W.kitAny K ty [.type n, .type m] = some b) :
    Ev (tCB (rIsiT K) (tCons te (tCons (tTup (tCons (tC (.ty n)) (tCons (tC (.ty m)) tNil))) tNil))) σ H (.bl b) := fun H1 e Q q =>
  h H1 e _ fun H2 e2 => ⟨(by show 2 ≤ sizeLine; decide), fun p hp => ⟨x, p, [.ty n, .ty m], ty, [.type n, .type m], b, rfl, upd_same, .cons (.ty n) (.cons (.ty m) .nil), hty _ ((e.trans e2).trans (Ex.new hp)), hk, q _ (e2.trans (Ex.new hp))⟩⟩
theorem ev_all {bs : List Bool} (h : EvL te σ H (bs.map V.bl)) : Ev (tCB (rAll K) (tCons te tNil)) σ H (.bl (bs.all id)) := fun H1 e Q q =>
  h H1 e _ fun p H2 _ e2 hp => ⟨p, bs, rfl, Evl.sq_of hp, q H2 e2⟩
theorem ev_lenS {s : Str} (h : Ev te σ H (.str s)) (hs : s.length ≤ 100000) : Ev (tCB (fun xs H Q => ∃ x n, xs = [x] ∧ LenV K x H n ∧ Q (.int n) H) (tCons te tNil)) σ H (.int (s.length : Int)) := fun H1 e Q q =>
  h H1 e _ fun H2 e2 => ⟨.str s, s.length, rfl, ⟨Evl.sz_of hs, rfl⟩, q H2 e2⟩
theorem ev_lenL {a : Addr} {xs : List V} (h : Ev te σ H (.ref a)) (hx : SqL K H a xs ∨ SqT K H a xs) : Ev (tCB (fun xs H Q => ∃ x n, xs = [x] ∧ LenV K x H n ∧ Q (.int n) H) (tCons te tNil)) σ H (.int (xs.length : Int)) := fun H1 e Q q =>
  h H1 e _ fun H2 e2 => ⟨.ref a, xs.length, rfl, hx.imp (fun z => ⟨xs, Evl.ex_l (e.trans e2) z, rfl⟩) fun z => ⟨xs, Evl.ex_t (e.trans e2) z, rfl⟩, q H2 e2⟩
theorem ev_lenK {a : Addr} {es : List (Key × V)} (h : Ev te σ H (.ref a)) (hx : H a = some (.dK es)) : Ev (tCB (fun xs H Q => ∃ a kvs, xs = [V.ref a] ∧ H a = some (.dK kvs) ∧ Q (.int kvs.length) H) (tCons te tNil)) σ H (.int (es.length : Int)) := fun H1 e Q q =>
  h H1 e _ fun H2 e2 => ⟨a, es, rfl, (e.trans e2) a _ hx, q H2 e2⟩
theorem ev_lenSet {P : Program} {w : World} {a : Addr} {l : List Str} (h : Ev te σ H (.ref a)) (hx : SqL K H a (l.map V.str) ∨ SqT K H a (l.map V.str)) (few : l.length ≤ 1000) :
    Ev (tCB (rLenTxs P w) (tCons (tCB (rSetS K P w) (tCons te tNil)) tNil)) σ H (.int ((met [] l).length : Int)) := fun H1 e Q q =>
  h H1 e _ fun H2 e2 => ⟨a, l, rfl, hx.imp (Evl.ex_l (e.trans e2)) (Evl.ex_t (e.trans e2)), Nat.lt_of_le_of_lt (Nat.add_le_add_right few 1) (by decide), fun p hp => ⟨p, met [] l, rfl, upd_same, by have := met_len l []; simp only [List.length_nil] at this; omega, q _ (e2.trans (Ex.new hp))⟩⟩
theorem ev_get {a : Addr} {es : List (Key × V)} {k : Str} (h : Ev ta σ H (.ref a)) (hk : Ev tb σ H (.str k)) (hx : Rd H a (.dK es)) (hv : valV es (Sum.inr k : Key) = some v) : Ev (tDGet ta tb) σ H v := fun H1 e Q q =>
  h H1 e _ fun H2 e2 => hk H2 (e.trans e2) _ fun H3 e3 => ⟨a, v, rfl, .inl ⟨es, Sum.inr k, Evl.ex_rd ((e.trans e2).trans e3) hx, rfl, hv.symm⟩, q H3 (e2.trans e3)⟩
theorem ev_din {a : Addr} {es : List (Key × V)} {k : Str} (hk : Ev tb σ H (.str k)) (h : Ev ta σ H (.ref a)) (hx : Rd H a (.dK es)) : Ev (tDIn tb ta) σ H (.bl (valV es (Sum.inr k : Key)).isSome) := fun H1 e Q q =>
  hk H1 e _ fun H2 e2 => h H2 (e.trans e2) _ fun H3 e3 => ⟨a, valV es (Sum.inr k), rfl, .inl ⟨es, Sum.inr k, Evl.ex_rd ((e.trans e2).trans e3) hx, rfl, rfl⟩, q H3 (e2.trans e3)⟩
/-- a call whose answer is a plain value -/
theorem ev_fn {sp : Sp} {vs : List V} {ta : TA} (h : EvA ta σ H vs) (hs : ∀ H1, Ex H H1 → ∀ Q : VK, (∀ H2, Ex H1 H2 → Q z H2) → sp vs H1 Q E0) : Ev (tCall sp [] E0 ta) σ H z := fun H1 e Q q =>
  h H1 e _ fun H2 e2 => by
    show sp (vs ++ []) H2 Q E0
    rw [List.append_nil]
    exact hs H2 (e.trans e2) Q fun H3 e3 => q H3 (e2.trans e3)
/-- an argument list whose first item is a new list -/
theorem ev_fnL {sp : Sp} {xs : List V} (h : Ev te σ H x) (hl : EvL tb σ H xs) (hs : ∀ p H1, Ex H H1 → H1 p = some (.lst xs) → ∀ Q : VK, (∀ H2, Ex H1 H2 → Q z H2) → sp [x, .ref p] H1 Q E0) : Ev (tCall sp [] E0 (tCons te (tCons tb tNil))) σ H z := fun H1 e Q q =>
  h H1 e _ fun H2 e2 => hl H2 (e.trans e2) _ fun p H3 _ e3 hp => hs p H3 ((e.trans e2).trans e3) hp Q fun H4 e4 => q H4 ((e2.trans e3).trans e4)
end

/-! ### comprehensions that keep every item -/
section
variable {K : PySem.W.Frag} {σ : L2.St} {H : Hp} {te tl : TE} {vs : List Nat} {J : It} {n : Nat} {G : Hp → Prop} {g : TG}
/-- what the new list holds behind i turns, in a heap that has only grown since H0 -/
def Cm (H0 : Hp) (f : Nat → V) (Dl i : Nat) (H' : Hp) : Prop := H0 Dl = none ∧ Ex H0 H' ∧ H' Dl = some (.lst ((List.range i).map f))
theorem cm_next {H0 H' : Hp} {f : Nat → V} {Dl i : Nat} {σ2 : L2.St} (p : Cm H0 f Dl i H') (hi : i < 100000) (he : Ev te σ2 H0 (f i)) :
    te σ2 H' fun y H4 => ∃ acc, H4 Dl = some (.lst acc) ∧ acc.length < sizeLine ∧ Cm H0 f Dl (i + 1) (upd H4 Dl (.lst (acc ++ [y]))) := by
  obtain ⟨p1, p2, p3⟩ := p
  refine he H' p2 _ fun H4 e4 => ⟨_, e4 Dl _ p3, Evl.sz_lt (by simpa using hi), p1, Ex.mut (p2.trans e4) p1, ?_⟩
  rw [upd_same, List.range_succ, List.map_append]
  rfl
/-- over anything that hands on the items xs and leaves the heap as it is -/
theorem el_walk {xs : List V} {f : Nat → V} (w : Walk J xs.length G (YAt xs)) (hz : xs.length ≤ 100000) {H1 : Hp} (hG : ∀ H', Ex H1 H' → G H') {j : Nat} (hw : ∀ x, wipe ((wipe σ vs).set j (some x)) vs = wipe σ vs)
    (he : ∀ (i : Nat) (x : V), xs[i]? = some x → ∀ H2, Ex H1 H2 → Ev te ((wipe σ vs).set j (some x)) H2 (f i)) {Q : VK} (q : ∀ p H2, H1 p = none → Ex H1 H2 → H2 p = some (.lst ((List.range xs.length).map f)) → Q (.ref p) H2) (Dl : Addr) (hD : H1 Dl = none) :
    ∃ W : Nat → Nat → Hp → Prop, (∃ m, W 0 m (upd H1 Dl (.lst []))) ∧ ∀ i m H, W i m H → (J.stop i H ∧ Q (.ref Dl) H) ∨ (J.go i H ∧ ∃ Nx : Hp → Prop, (∀ H', Nx H' → ∃ m', m' < m ∧ W (i + 1) m' H') ∧ ∀ x H', J.yld i H x H' → gName j x (wipe σ vs) H' fun σ2 H2 =>
      wipe σ2 vs = wipe σ vs ∧ tYes σ2 H2 fun b H3 => if b = true then te σ2 H3 fun y H4 => ∃ acc, H4 Dl = some (.lst acc) ∧ acc.length < sizeLine ∧ Nx (upd H4 Dl (.lst (acc ++ [y]))) else Nx H3) := by
  refine lc_it (g := gName j) (tt := tYes) w (Cm H1 f Dl) ⟨hD, Ex.new hD, upd_same⟩ (fun i H' _ p => hG H' p.2.1) (fun i x H2 H' hi p y => ?_) fun H' p => q Dl H' hD p.2.1 p.2.2
  obtain ⟨rfl, hx⟩ := y
  exact ⟨hw x, cm_next p (by omega) (he i x hx H1 (Ex.refl _))⟩
end
end Ssb

/-! Comprehensions and loops over texts, lists, tuples, dicts (under their lock). -/
namespace Ssb
open PySem PySem.Spec PyProof.Rows L2
open Evl (Ex Ev EvT EvL EvA EvU)
section
variable {K : PySem.W.Frag} {σ : L2.St} {H : Hp} {te tl ta td tb : TE} {vs : List Nat} {j : Nat} {f : Nat → V}
/-- len, list(..), tuple(..), truth: the readings by their names -/
def rLenA (K : PySem.W.Frag) : List V → Hp → VK → Prop := fun xs H Q => ∃ x n, xs = [x] ∧ LenV K x H n ∧ Q (V.int n) H
def rListA (K : PySem.W.Frag) : List V → Hp → VK → Prop := fun xs H Q => ∃ p ys, xs = [V.ref p] ∧ (SqL K H p ys ∨ SqT K H p ys) ∧ ∀ l, H l = none → Q (.ref l) (upd H l (.lst ys))
def rTupA (K : PySem.W.Frag) : List V → Hp → VK → Prop := fun xs H Q => ∃ p ys, xs = [V.ref p] ∧ ((SqL K H p ys ∧ ∀ l, H l = none → Q (.ref l) (upd H l (.tup ys))) ∨ (SqT K H p ys ∧ Q (.ref p) H))
def tTruA (K : PySem.W.Frag) (ta : TE) : TT := fun σ H Q => ta σ H fun x H' => ∃ k, TruV K x H' k ∧ Q k H'
theorem ev_allT {n : Nat} (h : EvL te σ H ((List.range n).map fun _ => V.bl true)) : Ev (tCB (rAll K) (tCons te tNil)) σ H (.bl true) := by
  have e : ((List.range n).map fun _ => V.bl true) = ((List.range n).map fun _ => true).map V.bl := by rw [List.map_map]; rfl
  rw [e] at h
  refine Evl.ev_is (ev_all h) ?_
  congr 1
  rw [List.all_eq_true]
  intro b hb
  obtain ⟨_, _, rfl⟩ := List.mem_map.mp hb
  rfl
theorem el_lcS {s : Str} (h : Ev ta σ H (.str s)) (hz : s.length ≤ 100000) (hw : ∀ x, wipe ((wipe σ vs).set j (some x)) vs = wipe σ vs)
    (he : ∀ (i : Nat) (c : Nat), s.cps[i]? = some c → ∀ H2, Ex H H2 → Ev te ((wipe σ vs).set j (some (.str ⟨#[c]⟩))) H2 (f i)) : EvL (tLc (iStr ta) (gName j) tYes te vs) σ H ((List.range s.length).map f) := fun H1 e Q q =>
  h H1 e _ fun H2 e2 => ⟨s, rfl, fun Dl hD => by
    have w : Walk (Its s) (s.cps.toList.map fun c => V.str ⟨#[c]⟩).length (fun _ => True) (YAt (s.cps.toList.map fun c => V.str ⟨#[c]⟩)) := by
      have l : (s.cps.toList.map fun c => V.str ⟨#[c]⟩).length = s.cps.size := by simp
      rw [l]
      refine walk_str.mono (fun _ z => z) fun i H v H' hi _ y => ?_
      obtain ⟨e, c, hc, rfl⟩ := y
      exact ⟨e, by simp [hc]⟩
    refine el_walk (f := f) w (by rw [List.length_map]; exact hz) (fun _ _ => trivial) hw (fun i x hx H3 e3 => ?_) (fun p H3 hp e3 hl => ?_) Dl hD
    · rw [List.getElem?_map] at hx
      cases hc : s.cps.toList[i]? with
      | none => rw [hc] at hx; cases hx
      | some c =>
        rw [hc] at hx
        cases hx
        exact he i c (by simpa using hc) H3 ((e.trans e2).trans e3)
    · refine q p H3 (Evl.fresh_back e2 hp) (e2.trans e3) ?_
      rw [hl]
      simp [Str.length]⟩
theorem el_lcA {a : Addr} {xs : List V} (h : Ev tl σ H (.ref a)) (hx : SqL K H a xs) (hz : xs.length ≤ 100000) (hw : ∀ x, wipe ((wipe σ vs).set j (some x)) vs = wipe σ vs)
    (he : ∀ (i : Nat) (x : V), xs[i]? = some x → ∀ H2, Ex H H2 → Ev te ((wipe σ vs).set j (some x)) H2 (f i)) : EvL (tLc (iList K tl) (gName j) tYes te vs) σ H ((List.range xs.length).map f) := fun H1 e Q q =>
  h H1 e _ fun H2 e2 => ⟨a, rfl, ⟨xs, Evl.ex_l (e.trans e2) hx⟩, fun Dl hD =>
    el_walk (f := f) walk_list hz (fun H3 e3 => Evl.ex_l ((e.trans e2).trans e3) hx) hw (fun i x h3 H3 e3 => he i x h3 H3 ((e.trans e2).trans e3)) (fun p H3 hp e3 hl => q p H3 (Evl.fresh_back e2 hp) (e2.trans e3) hl) Dl hD⟩
theorem el_lcT {a : Addr} {xs : List V} (h : Ev tl σ H (.ref a)) (hx : SqT K H a xs) (hz : xs.length ≤ 100000) (hw : ∀ x, wipe ((wipe σ vs).set j (some x)) vs = wipe σ vs)
    (he : ∀ (i : Nat) (x : V), xs[i]? = some x → ∀ H2, Ex H H2 → Ev te ((wipe σ vs).set j (some x)) H2 (f i)) : EvL (tLc (iTup K tl) (gName j) tYes te vs) σ H ((List.range xs.length).map f) := fun H1 e Q q =>
  h H1 e _ fun H2 e2 => ⟨a, rfl, ⟨xs, Evl.ex_t (e.trans e2) hx⟩, fun Dl hD =>
    el_walk (f := f) walk_tup hz (fun H3 e3 => Evl.ex_t ((e.trans e2).trans e3) hx) hw (fun i x h3 H3 e3 => he i x h3 H3 ((e.trans e2).trans e3)) (fun p H3 hp e3 hl => q p H3 (Evl.fresh_back e2 hp) (e2.trans e3) hl) Dl hD⟩
/-! ### under a lock -/
theorem unlock {H H' : Hp} {d : Addr} {u u' : HO} (hd : H d = some u) (e : Ex (upd H d u') H') : Ex H (upd H' d u) := fun b o hb => by
  by_cases h : b = d
  · subst h; rw [upd_same]; rw [hd] at hb; exact hb
  · rw [upd_ne h]; exact e b o (by rw [upd_ne h]; exact hb)
theorem lock_keys {d : Addr} {o : Obj} {es : List (Key × V)} : Walk (Itk d o es) (es.map fun e => kV e.1).length (fun H => H d = some (.frz o (.dK es))) (YAt (es.map fun e => kV e.1)) := by
  rw [List.length_map]
  refine walk_keys.mono (fun _ z => z) fun i H x H' _ _ y => ?_
  obtain ⟨e, k, v, hk, rfl⟩ := y
  exact ⟨e, by rw [List.getElem?_map, hk]; rfl⟩
theorem lock_vals {d : Addr} {o : Obj} {es : List (Key × V)} : Walk (Itd d o es) (es.map fun e => e.2).length (fun H => H d = some (.frz o (.dK es))) (YAt (es.map fun e => e.2)) := by
  rw [List.length_map]
  refine walk_values.mono (fun _ z => z) fun i H x H' _ _ y => ?_
  obtain ⟨e, k, hk⟩ := y
  exact ⟨e, by rw [List.getElem?_map, hk]; rfl⟩
theorem el_lcK {d : Addr} {es : List (Key × V)} (h : ∀ H1, Ev td σ H1 (.ref d)) (hd : H d = some (.dK es)) (hz : es.length ≤ 100000) (hw : ∀ x, wipe ((wipe σ vs).set j (some x)) vs = wipe σ vs)
    (he : ∀ (i : Nat) (k : Key) (v : V), es[i]? = some (k, v) → ∀ od H1 H2, Ex H H1 → Ex (upd H1 d (.frz od (.dK es))) H2 → Ev te ((wipe σ vs).set j (some (kV k))) H2 (f i)) : EvL (tLockE (tLc (iKeys td) (gName j) tYes te vs)) σ H ((List.range es.length).map f) := fun H1 e Q q => by
  have hd1 := e d _ hd
  refine ⟨d, .dK es, hd1, trivial, fun od => h _ _ (Ex.refl _) _ fun H2 e2 => ⟨d, od, rfl, .inl ⟨es, e2 d _ upd_same, fun Dl hD => ?_⟩⟩⟩
  refine el_walk (f := f) (Q := fun v H' => H' d = some (.frz od (.dK es)) ∧ Q v (upd H' d (.dK es))) lock_keys (by simpa using hz) (fun H3 e3 => e3 d _ (e2 d _ upd_same)) hw (fun i x hx H3 e3 => ?_) (fun p H3 hp e3 hl => ⟨e3 d _ (e2 d _ upd_same), ?_⟩) Dl hD
  · rw [List.getElem?_map] at hx
    cases hc : es[i]? with
    | none => rw [hc] at hx; cases hx
    | some c =>
      rw [hc] at hx
      cases hx
      exact he i c.1 c.2 hc od H1 H3 e (e2.trans e3)
  · have np : p ≠ d := fun z => by
      have := e2 d _ upd_same
      rw [z, this] at hp; cases hp
    refine q p _ ?_ (unlock hd1 (e2.trans e3)) ?_
    · have := Evl.fresh_back e2 hp
      rw [upd_ne np] at this; exact this
    · rw [upd_ne np, hl, List.length_map]
theorem el_lcV {d : Addr} {es : List (Key × V)} (h : ∀ H1, Ex H H1 → ∀ od, Ev td σ (upd H1 d (.frz od (.dK es))) (.ref d)) (hd : H d = some (.dK es)) (hz : es.length ≤ 100000) (hw : ∀ x, wipe ((wipe σ vs).set j (some x)) vs = wipe σ vs)
    (he : ∀ (i : Nat) (k : Key) (v : V), es[i]? = some (k, v) → ∀ od H1 H2, Ex H H1 → Ex (upd H1 d (.frz od (.dK es))) H2 → Ev te ((wipe σ vs).set j (some v)) H2 (f i)) : EvL (tLockE (tLc (iVals td) (gName j) tYes te vs)) σ H ((List.range es.length).map f) := fun H1 e Q q => by
  have hd1 := e d _ hd
  refine ⟨d, .dK es, hd1, trivial, fun od => h H1 e od _ (Ex.refl _) _ fun H2 e2 => ⟨d, od, es, rfl, e2 d _ upd_same, fun Dl hD => ?_⟩⟩
  refine el_walk (f := f) (Q := fun v H' => H' d = some (.frz od (.dK es)) ∧ Q v (upd H' d (.dK es))) lock_vals (by simpa using hz) (fun H3 e3 => e3 d _ (e2 d _ upd_same)) hw (fun i x hx H3 e3 => ?_) (fun p H3 hp e3 hl => ⟨e3 d _ (e2 d _ upd_same), ?_⟩) Dl hD
  · rw [List.getElem?_map] at hx
    cases hc : es[i]? with
    | none => rw [hc] at hx; cases hx
    | some c =>
      rw [hc] at hx
      cases hx
      exact he i c.1 c.2 hc od H1 H3 e (e2.trans e3)
  · have np : p ≠ d := fun z => by
      have := e2 d _ upd_same
      rw [z, this] at hp; cases hp
    refine q p _ ?_ (unlock hd1 (e2.trans e3)) ?_
    · have := Evl.fresh_back e2 hp
      rw [upd_ne np] at this; exact this
    · rw [upd_ne np, hl, List.length_map]
/-! ### a for under a lock: Pv by the lock's object, the turn, the slots, the heap -/
variable {D : Ends} {ts : TS} {g : TG}
def shut (D : Ends) (d : Addr) (u : HO) (od : Obj) (N : L2.St → Hp → Prop) : Ends :=
  { nx := N, ct := N, bk := fun σ' H' => H' d = some (.frz od u) ∧ D.nx σ' (upd H' d u), rt := fun v H' => H' d = some (.frz od u) ∧ D.rt v (upd H' d u) }
theorem for_lock {d : Addr} {es : List (Key × V)} {J : Obj → It} {ti : TI} {xs : Nat → Option V} (hd : H d = some (.dK es)) (hi : ∀ od R, R (J od) (upd H d (.frz od (.dK es))) → ti σ (upd H d (.frz od (.dK es))) R)
    {Y : Nat → Hp → V → Hp → Prop} (w : ∀ od, Walk (J od) es.length (fun H => H d = some (.frz od (.dK es))) Y) (Pv : Obj → Nat → L2.St → Hp → Prop) (h0 : ∀ od, Pv od 0 σ (upd H d (.frz od (.dK es)))) (hG : ∀ od i σ' H', i ≤ es.length → Pv od i σ' H' → H' d = some (.frz od (.dK es)))
    (hs : ∀ od i x σ' H' H2, i < es.length → Pv od i σ' H' → Y i H' x H2 → g x σ' H2 fun σ2 H3 => ts (shut D d (.dK es) od (Pv od (i + 1))) σ2 H3) (hn : ∀ od σ' H', Pv od es.length σ' H' → D.nx σ' (upd H' d (.dK es))) :
    tLock (tFor ti g ts) D σ H := by
  refine ⟨d, .dK es, hd, trivial, fun od => hi od _ ?_⟩
  exact for_it (w od) (Pv od) (h0 od) (fun i σ' H' hi p => hG od i σ' H' hi p) (fun i x σ' H' H2 hi p y => hs od i x σ' H' H2 hi p y) fun σ' H' p => ⟨hG od _ σ' H' (Nat.le_refl _) p, hn od σ' H' p⟩
end
end Ssb

/-! Comprehensions whose target is unpacked: lists, sets of texts. -/
namespace Ssb
open PySem PySem.Spec PyProof.Rows L2
open Evl (Ex Ev EvT EvL EvA EvU)
/-- the target takes x: the slots are σ2 behind it -/
def Unp (g : TG) (vs : List Nat) (σ σ2 : L2.St) (x : V) (H : Hp) : Prop := wipe σ2 vs = wipe σ vs ∧ ∀ Kont : L2.St → Hp → Prop, Kont σ2 H → g x (wipe σ vs) H Kont
section
variable {K : PySem.W.Frag} {σ : L2.St} {H : Hp} {te tl : TE} {vs : List Nat} {g : TG} {f : Nat → V}
theorem el_lcG {a : Addr} {xs : List V} (h : Ev tl σ H (.ref a)) (hx : SqL K H a xs) (hz : xs.length ≤ 100000) (he : ∀ (i : Nat) (x : V), xs[i]? = some x → ∀ H2, Ex H H2 → ∃ σ2, Unp g vs σ σ2 x H2 ∧ ∀ H3, Ex H H3 → Ev te σ2 H3 (f i)) :
    EvL (tLc (iList K tl) g tYes te vs) σ H ((List.range xs.length).map f) := fun H1 e Q q =>
  h H1 e _ fun H2 e2 => ⟨a, rfl, ⟨xs, Evl.ex_l (e.trans e2) hx⟩, fun Dl hD => by
    refine lc_list (K := K) (a := a) (xs := xs) (Cm H2 f Dl) ⟨hD, Ex.new hD, upd_same⟩ (fun i H' _ p => Evl.ex_l ((e.trans e2).trans p.2.1) hx) (fun i x H' hi p => ?_) fun H' p => q Dl H' (Evl.fresh_back e2 hD) (e2.trans p.2.1) p.2.2
    obtain ⟨σ2, ⟨hw, hk⟩, ev⟩ := he i x hi H' ((e.trans e2).trans p.2.1)
    exact hk _ ⟨hw, cm_next p (by have := (List.getElem?_eq_some_iff.mp hi).1; omega) (ev H2 (e.trans e2))⟩⟩
theorem yes_go {F G : Hp → Prop} (h : F H) : tYes σ H (fun b H3 => if b = true then F H3 else G H3) := by
  show (if true = true then F H else G H)
  rw [if_pos rfl]
  exact h
theorem ev_fld {a C dx : Addr} {fs : List (Str × V)} {v : V} {fn : Str} (h : Ev te σ H (.ref a)) (ho : H a = some (.ins C dx fs)) (c : Cls K C) (n : NoAttr K C fn) (l : fs.lookup fn = some v) : Ev (tFld K te fn) σ H v := fun H1 e Q q =>
  h H1 e _ fun H2 e2 => ⟨a, C, dx, fs, v, rfl, (e.trans e2) _ _ ho, c, n, l, q H2 e2⟩
theorem ev_sum {n : Nat} {c : Nat → Int} (h : EvL te σ H ((List.range n).map fun i => V.int (c i))) : Ev (tCB (rSum K) (tCons te tNil)) σ H (.int ((List.range n).map c).sum) := fun H1 e Q q =>
  h H1 e _ fun p H2 _ e2 hp => ⟨p, (List.range n).map c, rfl, by rw [List.map_map]; exact Evl.sq_of hp, q H2 e2⟩
/-- a pure answer handed on as an argument, a new tuple behind it -/
theorem rv_notN {x : V} : Evl.RV (fun x y H Q => y = .non ∧ Q (.bl (!decide (x = .non))) H) x .non H (.bl (!decide (x = .non))) := fun H1 _ _ q => ⟨rfl, q H1 (Ex.refl _)⟩
theorem rv_isN {x : V} : Evl.RV (fun x y H Q => y = .non ∧ Q (.bl (decide (x = .non))) H) x .non H (.bl (decide (x = .non))) := fun H1 _ _ q => ⟨rfl, q H1 (Ex.refl _)⟩
theorem met_snoc : ∀ (l acc : List Str) (x : Str), met acc (l ++ [x]) = put1 (met acc l) x
  | [], acc, x => rfl
  | y :: l, acc, x => met_snoc l _ x
/-- {name for .. in xs} -/
theorem ex_scG {P : Program} {w : World} {a : Addr} {xs : List V} {nms : List Str} (h : Ev tl σ H (.ref a)) (hx : SqL K H a xs) (hn : nms.length = xs.length) (few : xs.length ≤ 1000)
    (he : ∀ (i : Nat) (x : V), xs[i]? = some x → ∃ s, nms[i]? = some s ∧ ∀ H2, Ex H H2 → ∃ σ2, Unp g vs σ σ2 x H2 ∧ ∀ H3, Ex H H3 → Ev te σ2 H3 (.str s)) :
    Ev (tCB (rLenTxs P w) (tCons (tTxs P w (iList K tl) g tYes te vs) tNil)) σ H (.int ((met [] nms).length : Int)) := fun H1 e Q q =>
  h H1 e _ fun H2 e2 => ⟨a, rfl, ⟨xs, Evl.ex_l (e.trans e2) hx⟩, fun Dl hD => by
    have ml := met_len nms []
    simp only [List.length_nil] at ml
    refine ⟨fun i m H' => m = xs.length - i ∧ i ≤ xs.length ∧ Ex H2 H' ∧ H' Dl = some (Txs P w Dl (met [] (nms.take i))), ⟨xs.length, by simp, Nat.zero_le _, Ex.new hD, upd_same⟩, ?_⟩
    rintro i m H' ⟨rfl, hi, e3, hd⟩
    have sq := Evl.ex_l ((e.trans e2).trans e3) hx
    by_cases hlt : i < xs.length
    · refine .inr ⟨⟨xs, xs[i], sq, by simp [hlt]⟩, fun H' => Ex H2 H' ∧ H' Dl = some (Txs P w Dl (met [] (nms.take (i + 1)))), fun H' p' => ⟨xs.length - (i + 1), by omega, rfl, hlt, p'⟩, fun x H'' y => ?_⟩
      obtain ⟨rfl, y⟩ := y
      obtain ⟨s, hs, he2⟩ := he i x (y xs sq)
      obtain ⟨σ2, ⟨hw, hk⟩, ev⟩ := he2 _ ((e.trans e2).trans e3)
      refine hk _ ⟨hw, ev H2 (e.trans e2) _ e3 _ fun H4 e4 => ⟨s, met [] (nms.take i), rfl, e4 _ _ hd, ?_, Ex.mut (e3.trans e4) hD, ?_⟩⟩
      · have := met_len (nms.take i) []
        simp only [List.length_nil, List.length_take] at this
        exact Nat.lt_of_le_of_lt (show (met [] (nms.take i)).length + 1 ≤ 1001 by omega) (by decide)
      · rw [upd_same, List.take_add_one, hs]
        show _ = some (Txs P w Dl (met [] (nms.take i ++ [s])))
        rw [met_snoc]
    · have ei : i = xs.length := by omega
      subst ei
      refine .inl ⟨⟨xs, sq, Nat.le_refl _⟩, Dl, met [] nms, rfl, ?_, by omega, q H' (e2.trans e3)⟩
      rw [hd, ← hn, List.take_length]⟩
end
end Ssb

/-! Own errors over Exception whose __init__ keeps one attribute: made, raised. -/
namespace Ssb
open PySem PySem.Spec L2 PyProof.Rows

abbrev exBm : List Value := [.type "Exception", .type "BaseException", .type "object"]
/-- what the written part tells of such a class -/
structure OexE (K : PySem.W.Frag) (C : Addr) : Prop where
  over : PySem.W.excOver K C exBm = true
  made : PySem.W.excInitIn K C exBm "Exception.__new__" = true
  hd : PySem.W.hasDictIn K C = true
  sa : PySem.W.findIn K (.ref C) "__setattr__" = some (some (.builtin "object.__setattr__"))
  exC : PySem.W.subIn K (.ref C) (.type "BaseException") = some true
  tyC : PySem.W.typeIn K (.ref C) = some (.type "type")
  kC : PySem.W.keepIn K (.ref C) = true
section
variable {X : Cx} {pins : List (Addr × Obj)} {σ : L2.St} {H : Hp} {s : Shared} {a C : Addr} {f : Str} {y : V} {u : Value} {Q : Unit → Shared → Prop} {E : Value → Shared → Prop} {A : Around}
/-- the invariant behind the first attribute -/
theorem ost_inv {hp h' : Heap} {g : Array GenState} {d : Drawn} {t t' : Nat} {os : OsState} {dx t1 : Addr} (I : Inv X pins σ H ⟨hp, g, d, t, os⟩) (e : H a = some (exo a C none)) (ry : RelV y u) (dn : hp.objs.size ≤ dx) (dne : dx ≠ a) (k : ∀ b o, b ≠ a → hp.get? b = some o → h'.get? b = some o)
    (hx : h'.get? a = some ({ cls := .ref C, dict := some dx, data := .fields #[.ref t1, .none, .none, .none, .bool false, .none] } : Obj)) (hn : h'.Ns1 dx (fun z => if z = f then some u else none)) :
    H dx = none ∧ Inv X pins σ (upd (upd H dx (exd dx [(f, y)])) a (exo a C (some dx))) ⟨h', g, d, t', os⟩ := by
  have hnd : H dx = none := I.hok.fresh dn
  have old : ∀ b o, hp.get? b = some o → b ≠ dx := fun b o q => Nat.ne_of_lt (Nat.lt_of_lt_of_le (Heap.lt_size q) dn)
  have nota : ∀ b, H b = none → b ≠ a := fun b n z => by rw [z, e] at n; cases n
  refine ⟨hnd, I.un (t' := t') ⟨fun b o q n _ _ => k b o (nota b n) q, fun b o q n _ _ => ⟨o.slots, k b o (nota b n) q⟩, fun b o q n _ => (by rw [upd_ne (nota b n), upd_ne (old b o q)]; exact n), fun b o q _ => ?_,
    fun b xs q => (by rw [upd_ne (at_ne e q exo_tup), upd_ne (ne_of_none q hnd)]; exact q), fun b o v q => (by rw [upd_ne (at_ne e q exo_frz), upd_ne (ne_of_none q hnd)]; exact q), fun b ps q => ⟨#[], (by rw [upd_ne (at_ne e q exo_tbl), upd_ne (ne_of_none q hnd), q]; simp)⟩⟩ fun b o q => ?_⟩
  · by_cases hb : b = a
    · exact ⟨_, hb ▸ hx⟩
    · exact ⟨o, k b o hb q⟩
  · by_cases hb : b = a
    · subst hb; rw [upd_same] at q; cases q; exact exo_ok hx
    rw [upd_ne hb] at q
    by_cases hd : b = dx
    · subst hd; rw [upd_same] at q; cases q; exact exd_ok hn (relO_put (fs := []) ry fun g => True.intro)
    rw [upd_ne hd] at q
    refine (I.hok b o q).stay (fun c v hc z => k c v (hc.elim (fun hc => by rw [hc]; exact hb) fun hc => at_ne e hc exo_own) z) (fun c hc => ?_) (fun c xs hc => ?_)
    · rw [upd_ne (at_ne e hc exo_own), upd_ne (ne_of_none hc hnd)]; exact hc
    · rw [upd_ne (at_ne e hc exo_tup), upd_ne (ne_of_none hc hnd)]; exact hc
/-- self.f = y, the first attribute -/
theorem ost_newE (T : OexE X.K C) (I : Inv X pins σ H s) (e : H a = some (exo a C none)) (hno : PySem.W.findIn X.K (.ref C) f = some none) (ry : RelV y u)
    (h : ∀ dx s', H dx = none → dx ≠ a → Inv X pins σ (upd (upd H dx (exd dx [(f, y)])) a (exo a C (some dx))) s' → Q () s') : wpAny (model X.prog X.w) A (setAttr (.ref a) f u) Q E s := by
  obtain ⟨t1, ho⟩ := exo_at I.hok e
  obtain ⟨hp, g, d, t, os⟩ := s
  obtain ⟨cd, hc, hd'⟩ := PySem.W.any_some T.hd
  have hxs : a ≠ hp.objs.size := Nat.ne_of_lt (Heap.lt_size ho)
  refine PySem.W.set_plain I.kIn (od := none) ⟨ho, rfl, rfl, trivial⟩ T.sa (PySem.W.osa_openX (od := none) PySem.F.store_Exception I.kIn ⟨ho, rfl, rfl, trivial⟩ T.over (r := none) (by unfold PySem.W.takerIn; rw [hno]; rfl) fun b => ?_)
  refine wpAny_bind (wpAny_pure (wpAny_bind (PySem.W.instanceDict_exc (t := t1) (c2 := .none) ho (PySem.W.looks_clsIn I.kIn hc) hd' ?_)))
  refine PySem.HandSPX.store_in_new ?_ fun h' tk' hn' hs => ?_
  · exact ⟨_, #[], _, (Heap.get?_update_ne _ _ _ _ hxs.symm).trans (Heap.get?_push_at rfl rfl), rfl, fun e he => absurd he (by simp), fun _ => rfl⟩
  · have k : ∀ b o, b ≠ a → hp.get? b = some o → h'.get? b = some o := fun b o nb ho' => (hs.2 b (Nat.ne_of_lt (Heap.lt_size ho'))).trans ((Heap.get?_update_ne _ _ _ _ nb).trans (Heap.get?_push_of_some _ ho'))
    have hx : h'.get? a = some ({ cls := .ref C, dict := some hp.objs.size, data := .fields #[.ref t1, .none, .none, .none, .bool false, .none] } : Obj) := (hs.2 a hxs).trans (Heap.get?_update_self _ (Heap.get?_push_of_some _ ho) rfl)
    obtain ⟨n, J⟩ := ost_inv (t' := tk') I e ry (Nat.le_refl _) hxs.symm k hx hn'
    exact h _ _ n hxs.symm J
end
/-! ### readings and rules -/
/-- self.f = e within such an __init__ -/
def tOsE (K : PySem.W.Frag) (f : Str) (to te : TE) : TS := fun D σ H => te σ H fun y H1 => to σ H1 fun x H2 => ∃ a C : Addr, x = .ref a ∧ OexE K C ∧ PySem.W.findIn K (.ref C) f = some none ∧
  H2 a = some (exo a C none) ∧ ∀ dx, H2 dx = none → dx ≠ a → D.nx σ (upd (upd H2 dx (exd dx [(f, y)])) a (exo a C (some dx)))
section
variable {X : Cx} {o e : Expr} {es : List Expr} {to te : TE} {ta : TA} {f : Str} {p p' pos : Pos}
theorem ps_osE (ho : PE X o to) (he : PE X e te) (hs : swapsWith e (some (.Attribute o f p')) pos.line X.env = pure false := by rfl) : PS X (.Assign [.Attribute o f p'] e pos) (tOsE X.K f to te) :=
  ⟨fun pins s σ H D I h => plainObj_wpAny_Assign_Attribute (thn (he.run pins s σ H _ I h) fun v s1 ⟨y, H1, I1, r1, q1⟩ => thn (ho.run pins s1 σ H1 _ I1 q1) fun u s2 ⟨x, H2, I2, r2, a, C, ex, T, hno, ea, q⟩ => by
    subst ex
    cases (show u = Value.ref a from r2)
    exact ost_newE T I2 ea hno r1 fun dx s' n ne J => ⟨σ, _, J, q dx n ne⟩) hs⟩
/-- C(e, ..) as what is raised; its __init__ keeps sp -/
theorem pmk_oexE {x : Str} {C fI : Addr} {k j : Nat} {fd : FuncData} {ps : List Str} {sp : Sp} (T : OexE X.K C) (G : Mt X.prog X.w X.K X.mg X.base C "__init__" k ps sp fI fd) (tI : PySem.W.typeIn X.K (.ref fI) = some (.type "function")) (hr : Room j X.A) (hm : X.mg x = some (.ref C)) (ha : PA X (e :: es) ta) (hj : k + 1 ≤ j := by first | decide | omega)
    (hg : Gl X x := by rfl) (hdb : (x == ("__debug__" : Str)) = false := by decide) (he : starEach (e :: es) X.env = (false, eval e X.env) :: starEach es X.env := by rfl) (hpl : (backTo pos (starEach es X.env)).any (·.1) = false := by rfl) : PMk X (.Call (.Name x p) (e :: es) [] pos) (tMkO C sp [] ta) := by
  intro pins s σ H Q I h
  refine wpAny_Call_Name_kw (ld_glob I hg hm ?_ hdb)
  refine PySem.W.callWith_K (h₀ := X.base) I.ok.mod.kin T.kC (thn (ha.run pos pins s σ H _ I h) fun us s1 ⟨vs, H1, I1, r1, hz, q1⟩ => ⟨I1.kIn, ?_⟩) he hpl
  show wpAny _ _ (call (.ref C) us) _ _ _
  obtain ⟨hp, g, dr, tk, os⟩ := s1
  obtain ⟨nm, N, qn, bs, bm, hdct, sn, sub, ab, col, dd, k0, k1, k2, k3, k5, hC, hT⟩ := PySem.W.excInit_of I1.kIn T.made
  have hn : H1 (hp.objs.size + 1) = none := I1.hok.fresh (Nat.le_succ _)
  have hq := q1 (hp.objs.size + 1) hn
  rw [List.append_nil] at hq
  have kk : ∀ b o, hp.get? b = some o → ((hp.push (PySem.W.kdv_tup us)).push (PySem.HandSPX.excO C hp.objs.size)).get? b = some o := fun b o z => Heap.get?_push_of_some _ (Heap.get?_push_of_some _ z)
  have hget : ((hp.push (PySem.W.kdv_tup us)).push (PySem.HandSPX.excO C hp.objs.size)).get? (hp.objs.size + 1) = some (PySem.HandSPX.excO C hp.objs.size) := by heap_get
  have I2 := I1.laid (t' := tk) (o := exo (hp.objs.size + 1) C none) kk (Nat.le_succ _) (exo_ok hget)
  have r2 : Vals (V.ref (hp.objs.size + 1) :: vs) (Value.ref (hp.objs.size + 1) :: us) := .cons rfl r1
  have hl : (Value.ref (hp.objs.size + 1) :: us ++ []).length = ps.length := by rw [List.append_nil, ← r2.length, G.ok.len _ _ _ _ hq]
  have hb := G.bd ⟨(hp.push (PySem.W.kdv_tup us)).push (PySem.HandSPX.excO C hp.objs.size), g, dr, tk, os⟩ (Value.ref (hp.objs.size + 1) :: us) I2.kIn hl
  rw [List.append_nil] at hb
  have hus : us.length ≤ sizeLine := by rw [← Paired.length r1, sizeLine_eq]; omega
  refine wpAny_call (PySem.HandSPX.call_own PySem.F.excBase_Exception hT hC (PySem.W.looks_findIn I1.kIn G.mt.at_) (fun self => PySem.W.bind_fn I1.kIn self tI) hus
    (codeAny_mono (G.ok.run _ X.stack _ _ ⟨Value.ref (hp.objs.size + 1) :: us, []⟩ (Value.ref (hp.objs.size + 1) :: us) _ _ E0 ((hr.mono hj).make C us []) (I2.env0.make C us []) hb r2 hq) fun r s' hq' => ?_))
  cases r with
  | error er => exact hq'.elim
  | ok fl =>
    cases fl with
    | ret u =>
      obtain ⟨v, H2, os2, bare2, un2, hok2, rv, ev, d, fs, ea, ed, hd1, q2⟩ := hq'
      subst ev
      obtain ⟨h2, g2, d2, t2, os'⟩ := s'
      exact ⟨rv, mk_end (raises_own T.exC T.tyC) I1 (Nat.le_succ _) kk un2 hok2 os2 bare2 ea ed hd1 q2⟩
    | next => exact hq'.elim
    | brk => exact hq'.elim
    | cont => exact hq'.elim
end
end Ssb

/-! try .. except C as e, where the caught error stays known behind the suite. -/
namespace Ssb
open PySem PySem.Spec L2 PyProof.Rows
/-- at a: an error that was caught, of this class, with this dict -/
def exk (a : Addr) (cls : Value) (d : Option Addr) : HO := .ext fun h => ∃ oe vs, h.get? a = some oe ∧ Zc cls d oe ∧ oe.data = .fields vs
theorem exk_ok {P : Program} {w : World} {H : Hp} {h : Heap} {a : Addr} {cls : Value} {d : Option Addr} {oe : Obj} {vs : Array Value} (e : h.get? a = some oe) (z : Zc cls d oe) (f : oe.data = .fields vs) : ObjOk P w H h a (exk a cls d) :=
  ⟨⟨oe, vs, e, z, f⟩, ⟨oe, e⟩, fun _ _ ⟨o2, v2, e2, z2, f2⟩ k => ⟨o2, v2, k _ e2, z2, f2⟩⟩
theorem exk_at {P : Program} {w : World} {H : Hp} {h : Heap} {a : Addr} {cls : Value} {d : Option Addr} (hok : HOk P w H h) (e : H a = some (exk a cls d)) : ∃ oe vs, h.get? a = some oe ∧ Zc cls d oe ∧ oe.data = .fields vs := by
  have x : ObjOk P w H h a (.ext fun h => ∃ oe vs, h.get? a = some oe ∧ Zc cls d oe ∧ oe.data = .fields vs) := hok a _ e
  exact x.1
section
variable {X : Cx} {pins : List (Addr × Obj)} {σ : L2.St} {H : Hp} {s : Shared}
theorem adopt {a : Addr} {oe : Obj} {vs : Array Value} {cls : Value} {d : Option Addr} (I : Inv X ((a, oe) :: pins) σ H s) (hd : oe.data = .fields vs) (hz : Zc cls d oe) (n0 : ∀ b o, X.s_0.heap.get? b = some o → b ∉ X.ex → b ≠ a) (np : ∀ p ∈ X.pn ++ pins, p.1 ≠ a) : Inv X pins σ (upd H a (exk a cls d)) s := by
  obtain ⟨ge, na, nL, nF, nC⟩ := I.pin (a, oe) (List.mem_append_right _ List.mem_cons_self)
  have keep : ∀ {b : Addr} {o : HO}, H b = some o → (upd H a (exk a cls d)) b = some o := fun {b o} hb => by
    rw [upd_ne (fun z => by rw [z, na] at hb; cases hb)]; exact hb
  have B := I.base
  refine ⟨I.ok, I.os, I.bare, ⟨B.keep, B.slot, fun b o q n x => (by rw [upd_ne (n0 b o q x)]; exact B.free b o q n x), B.there, fun b xs q => keep (B.tups b xs q), fun b o u q => keep (B.frzs b o u q), fun b ps q => (B.tbls b ps q).imp fun _ h => keep h⟩, I.loc, I.cell, ?_, fun x c hc => ?_, fun p hp => ?_, fun b o q => ?_, I.len⟩
  · rw [upd_ne (Ne.symm nL)]; exact I.free
  · obtain ⟨v, oc, e1, e2⟩ := I.cell x c hc
    have : c ≠ a := fun z => by
      rw [z] at e1
      have e3 := Option.some.inj (ge.symm.trans e1)
      have e3 : oe = oc := e3
      rw [← e3] at e2
      exact nC _ (by simpa using e2)
    rw [upd_ne this]; exact I.freeC x c hc
  · obtain ⟨e1, e2, e3⟩ := I.pin p (by
      rcases List.mem_append.mp hp with h | h
      · exact List.mem_append_left _ h
      · exact List.mem_append_right _ (List.mem_cons_of_mem _ h))
    exact ⟨e1, by rw [upd_ne (np p hp)]; exact e2, e3⟩
  · by_cases hb : b = a
    · subst hb; rw [upd_same] at q; cases q; exact exk_ok ge hz hd
    · rw [upd_ne hb] at q
      exact (I.hok b o q).stay (fun _ _ _ z => z) (fun _ hc => keep hc) fun _ _ hc => keep hc
end
/-- what the clause asks of an error of the body: as wAs, but behind the suite a is known -/
def wKeep (K : PySem.W.Frag) (c : Value) (i : Nat) (ts : Addr → Value → Option Addr → TS) (Wout : WX) (D : Ends) : WX := fun cls d σ H => ∃ b, PySem.W.exmOne K cls c = some b ∧
  (b = true → ∀ a, H a = none → ts a cls d { nx := fun σ' H' => D.nx (σ'.set i none) (upd H' a (exk a cls d)), rt := fun v H' => D.rt v (upd H' a (exk a cls d)), bk := fun σ' H' => D.bk (σ'.set i none) (upd H' a (exk a cls d)), ct := fun σ' H' => D.ct (σ'.set i none) (upd H' a (exk a cls d)) } (σ.set i (some (.ref a))) H) ∧ (b = false → Wout cls d σ H)
section
variable {X : Cx} {x n : Str} {c : Value} {i : Nat} {body suite : List Stmt} {b₀ : Stmt} {np pos pos' : Pos} {tb : WX → TS} {ts : Addr → Value → Option Addr → TS} {Wout : WX}
theorem ps_try_keep (hs : X.stack = X.env :: X.outer) (hf : X.env.frame = some X.env.locals) (hN : X.N.Nodup) (hi : X.N[i]? = some n) (hln : X.env.kindOf n = some .local) (hc : Names X x c) (tk : Takes X Wout)
    (hb : ∀ (W : WX) (pn : List (Addr × Obj)) (xe : Value → Shared → Prop), Takes (X.tr pn xe) W → PassesOwn (model X.prog X.w) X.A X.env xe → PSs (X.tr pn xe) body (tb W))
    (hsu : ∀ (a : Addr) (oe : Obj) (cls : Value) (d : Option Addr) (pn : List (Addr × Obj)), Zc cls d oe → (∃ vs, oe.data = .fields vs) → PSs (X.suite a ((a, oe) :: pn)) (b₀ :: suite) (ts a cls d)) :
    PS X (.Try body [.ExceptHandler (some (.Name x np)) (some n) (b₀ :: suite) pos'] [] [] pos) (fun D σ H => tb (wKeep X.K c i ts Wout D) D σ H) := by
  refine ⟨fun pins s σ H D I h => ?_⟩
  have ok := I.ok
  have fr0 : X.A.frames = some (X.env :: X.outer) := by rw [ok.frames, hs]
  refine wpAny_Try_except (wpAny_mono ((hb (wKeep X.K c i ts Wout D) (X.pn ++ pins) (fun e s₁ => wpAny (model X.prog X.w) X.A (noteFrame e X.env) (fun _ s₂ => wpAny (model X.prog X.w) X.A (setFlight e none) (fun _ s₃ => wpAny (model X.prog X.w) X.A (handleBy e X.env [.ExceptHandler (some (.Name x np)) (some n) (b₀ :: suite) pos']) (SP X pins D) X.xe s₃) X.xe s₂) X.xe s₁) (fun u s' xx => ?_) PassesOwn.looking).run [] s σ H D (I.toTry _) h) (fun f s1 hsp => ?_) (fun e s1 he => he))
  · obtain ⟨a, B, sI, pins', σ1, HH, cls, d, rfl, J0, nb, up, sky, na, os, ag, b, hb1, hyes, hno⟩ := xx
    have J : Inv X pins σ1 HH sI := J0.ofTry ok
    rw [show (X.tr (X.pn ++ pins) _).stack = X.env :: X.outer from hs] at sky
    refine Sky.land Zc.steady fr0 hf sky fun h3 fl3 up3 => ?_
    have J3 : Inv X pins σ1 HH { s' with heap := h3 } := J.landed nb fl3.1 (up.trans up3) os ag
    obtain ⟨oe3, vs3, he3, hz3, hd3⟩ := fl3.there
    have nfr : a ∉ frs (X.env :: X.outer) := fun hm => by
      obtain ⟨_, o', e', hnf⟩ := fl3.2.2.1.mem hm
      rw [he3] at e'; cases e'; exact hnf _ hd3
    have nL : a ≠ X.env.locals := fun z => nfr (List.mem_filterMap.mpr ⟨X.env, List.mem_cons_self, (by rw [hf, z])⟩)
    have nF : a ∉ X.fs := fun hm => (List.mem_filterMap.mp hm).elim fun e he => nfr (List.mem_filterMap.mpr ⟨e, List.mem_cons_of_mem _ he.1, he.2⟩)
    -- the error is younger than all that stood
    have young : sI.heap.get? a = none := by
      cases hg : sI.heap.get? a with
      | none => rfl
      | some o =>
        have := nb a o hg (by rw [show (X.tr (X.pn ++ pins) _).stack = X.env :: X.outer from hs]; exact nfr)
        rw [fl3.2.1] at this; cases this
    have n0 : ∀ b o, X.s_0.heap.get? b = some o → b ∉ X.ex → b ≠ a := fun b o q hx z => by
      obtain ⟨o', h'⟩ := J.base.there b o q hx
      rw [z, young] at h'; cases h'
    have np0 : ∀ p ∈ X.pn ++ pins, p.1 ≠ a := fun p hp z => by
      have := (J.pin p hp).1
      rw [z, young] at this; cases this
    have S3 := J3.suite he3 hd3 na nL nF
    have LM := PySem.W.exm_one (M := model X.prog X.w) J3.kIn (show PySem.W.Looks (model X.prog X.w) h3 (typeOf (.ref a)) cls from fun A Q E s k q => wpAny_typeOf_ref (k _ _ he3) (by rw [hz3.1]; exact q)) hb1
    refine wpAny_handleBy_cons (codeAny_handlers_test ?_) (by intro q; cases q)
    have test : ∀ {Q : Value → Shared → Prop} {E : Value → Shared → Prop}, Q c { s' with heap := h3 } → wpAny (model X.prog X.w) (X.A.mark (some (.ref a))) (eval (.Name x np) X.env) Q E { s' with heap := h3 } := fun {Q E} q => by
      obtain ⟨hg, hdb, hm | ⟨hm, hv, hnn⟩⟩ := hc
      · exact ld_glob S3 hg hm q hdb
      · exact ld_blt S3 hg hm hv q hnn hdb
    refine test (LM.here ?_)
    cases b with
    | true =>
      refine codeAny_handlers_suite_as (HandSPX.lands_againZ fl3 fun h4 fl4 up4 => ?_)
      have J4 : Inv X pins σ1 HH { s' with heap := h4 } := J.landed nb fl4.1 ((up.trans up3).trans up4) os ag
      obtain ⟨oe4, vs4, he4, hz4, hd4⟩ := fl4.there
      refine store_ok (X := X.suite a ((a, oe4) :: (X.pn ++ pins))) (v := .ref a) (J4.suite he4 hd4 na nL nF) hN hi (.inl hln) rfl (fun s5 S5 => ?_) (.inr hln)
      refine wpAny_mono ((hsu a oe4 cls d (X.pn ++ pins) hz4 ⟨_, hd4⟩).run [] s5 _ HH _ S5 (hyes rfl a na)) (fun f s6 hsp => ?_) (fun _ _ z => False.elim z)
      have fin : ∀ {σ6 : L2.St} {H6 : Hp} {Q : Shared → Prop}, Inv (X.suite a ((a, oe4) :: (X.pn ++ pins))) [] σ6 H6 s6 → (∀ s7, Inv X pins (σ6.set i none) (upd H6 a (exk a cls d)) s7 → Q s7) →
          wpAny (model X.prog X.w) X.A (do bindName X.env n .none; unbindBehindTheSuite X.env n pos') (fun _ s7 => Q s7) X.xe s6 := fun {σ6 H6 Q} S6 hq => by
        have I6 : Inv X ((a, oe4) :: pins) σ6 H6 s6 := ⟨ok, S6.os, S6.bare, S6.base, S6.loc, S6.cell, S6.free, S6.freeC, fun p hp => S6.pin p (by
          rw [List.append_nil]
          rcases List.mem_append.mp hp with h | h
          · exact List.mem_cons_of_mem _ (List.mem_append_left _ h)
          · rcases List.mem_cons.mp h with h | h
            · rw [h]; exact List.mem_cons_self
            · exact List.mem_cons_of_mem _ (List.mem_append_right _ h)), S6.hok, S6.len⟩
        exact gone_ok I6 hN hi hln fun s7 J7 => hq s7 (adopt J7 hd4 hz4 n0 np0)
      cases f with
      | ret u => obtain ⟨v6, σ6, H6, S6, r6, q6⟩ := hsp; exact fin S6 fun s7 J7 => ⟨_, _, _, J7, r6, q6⟩
      | next => obtain ⟨σ6, H6, S6, q6⟩ := hsp; exact fin S6 fun s7 J7 => ⟨_, _, J7, q6⟩
      | brk => obtain ⟨σ6, H6, S6, q6⟩ := hsp; exact fin S6 fun s7 J7 => ⟨_, _, J7, q6⟩
      | cont => obtain ⟨σ6, H6, S6, q6⟩ := hsp; exact fin S6 fun s7 J7 => ⟨_, _, J7, q6⟩
    | false =>
      show wpAny _ X.A (handleBy (.ref a) X.env []) _ _ _
      obtain ⟨k1, k2, k3, oe, vs, T, oT, ts', he, hz, hd, h1, hr⟩ := id fl3
      refine wpAny_handleBy_nil ?_
      unfold PySem.passOn
      refine wpAny_bind (wpAny_field he hd h1 ?_)
      rw [if_neg (show ¬ ((Value.ref T == Value.none) = true) by simp)]
      have go : wpAny (model X.prog X.w) X.A (setFlight (.ref a) X.env.frame) (fun _ s4 => wpAny (model X.prog X.w) X.A (throw (.ref a) : Sem Flow) (SP X pins D) X.xe s4) X.xe { s' with heap := h3 } := by
        rw [hf]
        exact HandSPX.setFlight_upZ fl3 fun h4 hh4 up4 => wpAny_throw (tk _ _ ⟨a, B, sI, pins, σ1, HH, cls, d, rfl, J, nb, (up.trans up3).trans up4, .inr (.inr (by rw [hs]; exact hh4)), na, os, ag, hno rfl⟩)
      first
        | exact wpAny_bind go
        | exact wpAny_bind (wpAny_pure (wpAny_bind go))
  · cases f with
    | ret u => obtain ⟨v, σ1, HH, J, r, q⟩ := hsp; exact ⟨v, σ1, HH, J.ofTry ok, r, q⟩
    | next => obtain ⟨σ1, HH, J, q⟩ := hsp; exact wpAny_execs_nil ⟨σ1, HH, J.ofTry ok, q⟩
    | brk => obtain ⟨σ1, HH, J, q⟩ := hsp; exact ⟨σ1, HH, J.ofTry ok, q⟩
    | cont => obtain ⟨σ1, HH, J, q⟩ := hsp; exact ⟨σ1, HH, J.ofTry ok, q⟩
end
end Ssb

/-! A caught error that is kept: its attribute, isinstance of it. -/
namespace Ssb
open PySem PySem.Spec L2 PyProof.Rows
/-- what the class says, so that isinstance asks its instances rightly -/
structure ExK (K : PySem.W.Frag) (C : Addr) : Prop where
  xf : XfC K C
  cl : (PySem.W.clsIn K C).isSome = true
  ha : PySem.W.findIn K (.ref C) "__class__" = some (some (.builtin "object.__class__"))
  hn : PySem.W.specialIn K (.builtin "object.__class__") "__get__" = some (some (.builtin "getset_descriptor.__get__"))
  ht : PySem.W.takesIn K (.builtin "object.__class__") = some true
  hm : PySem.W.mroIn K C (.type "object") = some true
theorem exk_cl {K : PySem.W.Frag} {C : Addr} (h : PySem.W.hasDictIn K C = true) : (PySem.W.clsIn K C).isSome = true := by
  obtain ⟨cd, hc, _⟩ := PySem.W.any_some h
  rw [hc]; rfl
section
variable {X : Cx} {pins : List (Addr × Obj)} {σ : L2.St} {H : Hp} {s : Shared}
/-- the kept error as an instance of its class -/
theorem kept_inst {a C d : Addr} {fs : List (Str × V)} (I : Inv X pins σ H s) (e : H a = some (exk a (.ref C) (some d))) (ed : H d = some (.xd fs)) : ∃ (oe od : Obj) (mA : Str → Option Value), PySem.W.InstAt s.heap a oe C (some od) ∧ (∀ f, PySem.W.lookIn f od = some (mA f)) ∧ ∀ f, RelO (fs.lookup f) (mA f) := by
  obtain ⟨oe, vs, he, hz, hf⟩ := exk_at I.hok e
  obtain ⟨mA, hns, hr⟩ := (show ObjOk X.prog X.w H s.heap d (.xd fs) from I.hok d _ ed)
  obtain ⟨od, ho, hl⟩ := lookIn_ns hns
  exact ⟨oe, od, mA, ⟨he, hz.1, (by unfold PySem.W.notCls; rw [hf] <;> rfl), (by rw [hz.2]; exact ho)⟩, hl, hr⟩
/-- e.f, e a kept error -/
def tFldE (C : Addr) (f : Str) (te : TE) : TE := fun σ H Q => te σ H fun x H1 => ∃ (a d : Addr) (fs : List (Str × V)) (v : V), x = .ref a ∧ H1 a = some (exk a (.ref C) (some d)) ∧ H1 d = some (.xd fs) ∧ fs.lookup f = some v ∧ Q v H1
theorem pe_fldE {C : Addr} {e : Expr} {te : TE} {pos : Pos} {n : Str} (T : XfC X.K C) (hno : PySem.W.findIn X.K (.ref C) n = some none) (he : PE X e te) (hb : attributeBase e n X.env (eval e X.env) = eval e X.env := by rfl) : PE X (.Attribute e n pos) (tFldE C n te) := by
  refine ⟨fun pins s σ H Q I h => attr_of hb (thn (he.run pins s σ H _ I h) fun u s1 ⟨x, H1, I1, rx, a, d, fs, v, ex, ea, ed, l, q⟩ => ?_)⟩
  subst ex
  cases (show u = Value.ref a from rx)
  obtain ⟨oe, od, mA, J, hl, hr⟩ := kept_inst I1 ea ed
  obtain ⟨u, hu, ru⟩ := RelO.some_of (v := v) (o := mA n) (by rw [← l]; exact hr n)
  exact HandSPX.exc_get I1.kIn J T.ga T.gg T.exC (PySem.W.findObj_own T.hdC hno rfl (by rw [hl, hu])) (handed_of ru) ⟨v, H1, I1.tok _, ru, q⟩
/-- isinstance(e, c), e a kept error -/
def rIsiE (K : PySem.W.Frag) : List V → Hp → VK → Prop := fun xs H Q => ∃ (a C d : Addr) (fs : List (Str × V)) (c : V) (u : Value) (b : Bool), xs = [.ref a, c] ∧ ClsV c u ∧ ExK K C ∧ H a = some (exk a (.ref C) (some d)) ∧ H d = some (.xd fs) ∧ PySem.W.kitOne K (.ref C) u = some b ∧ Q (.bl b) H
theorem call_isiE : CallR X (.builtin "isinstance") (rIsiE X.K) := by
  intro pins s σ H xs us Q I r h
  obtain ⟨a, C, d, fs, c, u, b, rfl, k, T, ea, ed, e, q⟩ := h
  obtain ⟨u1, u2, rfl, r1, r2⟩ := vals2 r
  cases k.eq r2
  cases (show u1 = Value.ref a from r1)
  obtain ⟨oe, od, mA, J, hl, hr⟩ := kept_inst I ea ed
  exact PySem.W.kia_one (PySem.W.kitx_exc (od := some od) T.cl T.xf.ga T.xf.gg T.xf.exC T.ha T.hn T.ht T.hm) I.kIn J e (fun z => nomatch z) fun tk => ⟨.bl b, H, I.tok tk, rfl, q⟩
end
end Ssb

/-! Defs and methods that may raise, called where what is raised is asked for at the caller's slots. -/
namespace Ssb
open PySem PySem.Spec L2 PyProof.Rows
structure FnX (P : Program) (w : World) (K : PySem.W.Frag) (mg : Str → Option Value) (base : Heap) (nm : Str) (k : Nat) (ps : List Str) (sp : Sp) (f : Addr) (fd : FuncData) : Prop where
  ok : FnOk P w K mg base (L2.CX P w) k f fd ps sp
  at_ : mg nm = some (.ref f)
  kp : PySem.W.keepIn K (.ref f) = true
  bd : Binds K fd ps []
structure MtX (P : Program) (w : World) (K : PySem.W.Frag) (mg : Str → Option Value) (base : Heap) (C : Addr) (nm : Str) (k : Nat) (ps : List Str) (sp : Sp) (f : Addr) (fd : FuncData) : Prop where
  ok : FnOk P w K mg base (L2.CX P w) k f fd ps sp
  mt : Meth K C nm f
  bd : Binds K fd ps []
section
variable {X : Cx} {W : WX} {nm : Str} {k j : Nat} {ps : List Str} {sp : Sp} {f : Addr} {fd : FuncData} {p pos apos : Pos} {e o : Expr} {es : List Expr} {ta : TE} {t : TA} {C : Addr} {pl : Sem Bool}
theorem passes_at (tk : Takes X W) (σ : L2.St) : PassesAt (L2.CX X.prog X.w) X σ (fun cls d H => W cls d σ H) := fun pins H s e s' I c => tk _ _ (XE.of_call I (fun _ _ _ h => h) c)
/-- f(e, ..) -/
theorem pclX (G : FnX X.prog X.w X.K X.mg X.base nm k ps sp f fd) (tk : Takes X W) (hr : Room j X.A) (ha : PA X (e :: es) t) (hj : k ≤ j := by first | decide | omega) (hg : Gl X nm := by rfl) (hdb : (nm == ("__debug__" : Str)) = false := by decide)
    (he : starEach (e :: es) X.env = (false, eval e X.env) :: starEach es X.env := by rfl) (hpl : (backTo pos (starEach es X.env)).any (·.1) = false := by rfl) : PE X (.Call (.Name nm p) (e :: es) [] pos) (tCallSD sp [] (fun σ cls d H => W cls d σ H) t) :=
  pe_callSD G.ok (hr.mono hj) hg G.at_ G.kp G.bd .nil (passes_at tk) ha hdb he hpl
/-- the reading of o.m(e, ..) -/
def tMethS (C : Addr) (m : Str) (sp : Sp) (W : WX) (ta : TE) (t : TA) : TE := fun σ H Q => ta σ H fun x H1 => ∃ a dx fs, x = .ref a ∧ H1 a = some (.ins C dx fs) ∧ fs.lookup m = none ∧ t σ H1 fun vs H2 => sp (x :: vs) H2 Q fun cls d H' => W cls d σ H'
theorem pmtX (ho : PE X o ta) (c : Cls X.K C) (G : MtX X.prog X.w X.K X.mg X.base C nm k ps sp f fd) (tk : Takes X W) (hr : Room j X.A) (ha : PA X (e :: es) t) (hj : k ≤ j := by first | decide | omega)
    (he : starEach (e :: es) X.env = (false, eval e X.env) :: starEach es X.env := by rfl) (hpl : (backTo pos (starEach es X.env)).any (·.1) = false := by rfl)
    (ht : eval (.Call (.Attribute o nm apos) (e :: es) [] pos) X.env = (do
      let ov ← eval o X.env
      standAt apos.atName
      let (f, first) ← holding [ov] (getMethod ov nm pl)
      callWith pos f first (backTo pos (starEach (e :: es) X.env)) (backToKw pos (keywordEach [] X.env))) := by rfl) : PE X (.Call (.Attribute o nm apos) (e :: es) [] pos) (tMethS C nm sp W ta t) := by
  refine ⟨fun pins s σ H Q I h => PySem.W.methodCall_KW (pl := pl) (thn (ho.run pins s σ H _ I h) fun u s1 ⟨x, H1, I1, rx, a, dx, fs, ex, ea, l, q⟩ => ?_) ht⟩
  subst ex
  cases (show u = Value.ref a from rx)
  refine getmeth_ok I1 ea c G.mt l (PySem.W.callWith_K (first := [.ref a]) (h₀ := X.base) I.ok.mod.kin G.mt.kp (thn (ha.run pos pins s1 σ H1 _ I1 q) fun us s2 ⟨vs, H2, I2, r, q2⟩ => ⟨I2.kIn, ?_⟩) he hpl)
  exact run_fnSD (E := fun σ cls d H => W cls d σ H) (dvs := []) (us := .ref a :: us) (vs := .ref a :: vs) G.ok (hr.mono hj) G.bd .nil (passes_at tk σ) I2 (.cons rfl r) (by rw [List.append_nil]; exact q2)
end
end Ssb

/-! list(reversed(a list)) as one expression. -/
namespace Ssb
open PySem PySem.Spec PyProof.Rows L2 RT
section
variable {pr : Program} {wd : World} {Ar : Around} {Er : Value → Shared → Prop} {st : Shared}
/-- a fresh list taking what the walker over l, from its end, hands out -/
theorem ext_rev {R : Result → Shared → Prop} {it l S : Addr} {vs : Array Value} (hh : Ar.handled = none) (hit : st.heap.IsRevIter it l ((vs.size : Int) - 1)) (hl : st.heap.IsList l vs) (n1 : l ≠ it) (n2 : S ≠ it) (n3 : S ≠ l) (hn : vs.size ≤ sizeLine)
    (res : Value) (c₀ : Nat) (hS : st.heap.get? S = some { cls := .type "list", data := .seq #[] c₀ })
    (k : ∀ (h' : Heap) (tk : Nat) (acc : Array Value) (c' : Nat), (∀ b o, b ≠ S → b ≠ it → st.heap.get? b = some o → h'.get? b = some o) → h'.get? S = some { cls := .type "list", dict := none, data := .seq acc c', slots := #[] } →
      ItemsOf (fun i v => vs[vs.size - 1 - i]? = some v) acc vs.size → R (.ok (.ret res)) { st with heap := h', toks := tk }) :
    wpAny (model pr wd) Ar.in1 (Builtin.List.listExtendWith (.ref S) (.ref it) res) (fun fin z => match fin with | .done f => R (.ok f) z | .again c' => c'.quiet = true ∧ codeAny (model pr wd) Ar c' R z) (fun e z => R (.error e) z) st := by
  have W := (Walks.listRev (prog := pr) (w := wd) (A := Ar.in1) hh it l n1 vs).toS
  have out : S ∉ [it, l] := by simp [n2, n3]
  have ht : st.TypeIs (.ref it) "list_reverseiterator" := hit.typeIs
  have ns : Builtin.List.listSameRef (.ref S) (.ref it) = false := by simp [Builtin.List.listSameRef, n2]
  unfold Builtin.List.listExtendWith
  refine wpAny_bind (wpAny_typeOf ht ?_)
  rw [if_neg (by rw [ns]; decide)]
  refine wpAny_bind (wpAny_pyIter_revIter hit (wpAny_bind (wpAny_holding ?_)))
  unfold Builtin.List.listLengthHint
  refine wpAny_bind (wpAny_specialOf ht nolen_lri ?_)
  show wpAny _ _ (specialOf (.ref it) (Str.ofString "__length_hint__") >>= _) _ _ _
  refine wpAny_bind (wpAny_specialOf ht hint_lri ?_)
  generalize hid : ("list_reverseiterator.__length_hint__" : String) = hintName
  wp_delta
  rw [show splitId hintName = some ("list_reverseiterator", "__length_hint__") from by rw [← hid]; decide +kernel]
  subst hid
  refine wpAny_bind (wpAny_isInstance (b := true) ht (by rw [isSubtype_type]; kernel_rfl) (wpAny_pure ?_))
  rw [if_neg (by decide)]
  have e0 : (vs.size : Int) - 1 = (vs.size : Int) - 1 - ((0 : Nat) : Int) := by omega
  rw [e0] at hit
  refine wpAny_pure ⟨plainId_quiet F.plain_extend_loop _, codeAny_extend_loopS W hn S out res vs.size 0 _ _ _ rfl (Nat.zero_le _) ⟨Nat.zero_le _, hit, hl⟩ hS (ItemsOf.nil _) fun z acc c' mv hz hi => ?_⟩
  rw [Moved.eq_with mv]
  exact k z.heap z.toks acc c' (fun b o b1 b2 e => mv.heap b o (by simp [b1, b2]) e) hz hi
theorem list_init_rev {R : Result → Shared → Prop} {it l S : Addr} {vs : Array Value} (hh : Ar.handled = none) (hit : st.heap.IsRevIter it l ((vs.size : Int) - 1)) (hl : st.heap.IsList l vs) (n1 : l ≠ it) (n2 : S ≠ it) (n3 : S ≠ l) (hn : vs.size ≤ sizeLine)
    (hS : st.heap.get? S = some { cls := .type "list", data := .seq #[] })
    (k : ∀ (h' : Heap) (tk : Nat) (acc : Array Value) (c' : Nat), (∀ b o, b ≠ S → b ≠ it → st.heap.get? b = some o → h'.get? b = some o) → h'.get? S = some { cls := .type "list", dict := none, data := .seq acc c', slots := #[] } →
      ItemsOf (fun i v => vs[vs.size - 1 - i]? = some v) acc vs.size → R (.ok (.ret .none)) { st with heap := h', toks := tk }) :
    wpAny (model pr wd) Ar.in1 (Builtin.«list.__init__» ⟨[.ref S, .ref it], []⟩) (fun fin z => match fin with | .done f => R (.ok f) z | .again c' => c'.quiet = true ∧ codeAny (model pr wd) Ar c' R z) (fun e z => R (.error e) z) st := by
  show wpAny _ _ (Builtin.List.listItems (.ref S) >>= fun old => Builtin.List.listUpdate (.ref S) (fun _ => #[]) >>= fun _ => letGo old.toList.reverse >>= fun _ => Builtin.List.listExtendWith (.ref S) (.ref it) .none) _ _ st
  refine wpAny_bind ?_
  unfold Builtin.List.listItems
  refine wpAny_bind (wpAny_seqItems hS rfl (wpAny_pure (wpAny_bind ?_)))
  show wpAny _ _ (updateSeq S fun _ => #[]) _ _ _
  have kept : ∀ b o, b ≠ S → st.heap.get? b = some o → (st.heap.update S (Obj.mapSeq fun _ => (#[] : Array Value))).get? b = some o := fun b o hb e => (Heap.get?_update_other _ _ (Ne.symm hb)).trans e
  refine wpAny_updateSeq hS rfl (wpAny_bind (wpAny_letGo ?_))
  exact ext_rev hh (hit.at fun o e => kept it o (Ne.symm n2) e) (hl.at fun o e => kept l o (Ne.symm n3) e) n1 n2 n3 hn .none _ (Heap.get?_update_self (Obj.mapSeq fun _ => (#[] : Array Value)) hS rfl) fun h' tk acc c' q => k h' tk acc c' fun b o b1 b2 e => q b o b1 b2 (kept b o b1 e)
theorem call_list_rev {Q : Value → Shared → Prop} {it l : Addr} {vs : Array Value} (hh : Ar.handled = none) (hit : st.heap.IsRevIter it l ((vs.size : Int) - 1)) (hl : st.heap.IsList l vs) (n1 : l ≠ it) (hn : vs.size ≤ sizeLine)
    (k : ∀ (h' : Heap) (tk : Nat) (acc : Array Value) (c' : Nat), (∀ b o, b ≠ it → st.heap.get? b = some o → h'.get? b = some o) → h'.get? st.heap.objs.size = some { cls := .type "list", dict := none, data := .seq acc c', slots := #[] } →
      ItemsOf (fun i v => vs[vs.size - 1 - i]? = some v) acc vs.size → Q (.ref st.heap.objs.size) { st with heap := h', toks := tk }) : wpAny (model pr wd) Ar (call (.type "list") [.ref it]) Q Er st := by
  obtain ⟨oi, hoi, _⟩ := id hit
  obtain ⟨ol, hol, _⟩ := id hl
  refine callType_codes (Q₁ := fun u z => u = .ref st.heap.objs.size ∧ z = { st with heap := st.heap.push { cls := .type "list", data := .seq #[] } }) F.called_list (F.typeCall_list_1 _) F.entry_list_init (code_list_new _ ⟨rfl, rfl⟩) ?_
  rintro u z ⟨rfl, rfl⟩
  have hS : (st.heap.push { cls := .type "list", data := .seq #[] }).get? st.heap.objs.size = some { cls := .type "list", data := .seq #[] } := Heap.get?_push_size _ rfl
  refine ⟨⟨_, hS, rfl⟩, F.args_list_init_2 _ _, list_init_rev (Ar := Ar.in1) (it := it) (l := l) (vs := vs) hh (hit.at fun o e => Heap.get?_push_of_some _ e) (hl.push _) n1 (Nat.ne_of_gt (Heap.lt_size hoi)) (Nat.ne_of_gt (Heap.lt_size hol)) hn hS fun h' tk acc c' q hz hi => ⟨rfl, ?_⟩⟩
  exact k h' tk acc c' (fun b o hb e => q b o (Nat.ne_of_lt (Heap.lt_size e)) hb (Heap.get?_push_of_some _ e)) hz hi
end
/-- list(reversed(e)), e a list -/
def tLstRev (K : PySem.W.Frag) (te : TE) : TE := fun σ H Q => te σ H fun x H1 => ∃ (a : Addr) (xs : List V), x = .ref a ∧ SqL K H1 a xs ∧ ∀ p, H1 p = none → Q (.ref p) (upd H1 p (.lst xs.reverse))
section
variable {X : Cx}
theorem pe_lstRev {e : Expr} {te : TE} {q1 q2 c1 c2 : Pos} (hc : X.calm = true) (g1 : Gl X "list") (m1 : X.mg "list" = none) (g2 : Gl X "reversed") (m2 : X.mg "reversed" = none) (he : PE X e te)
    (h1 : starEach [e] X.env = (false, eval e X.env) :: starEach [] X.env := by rfl)
    (h2 : starEach [.Call (.Name "reversed" q2) [e] [] c2] X.env = (false, eval (.Call (.Name "reversed" q2) [e] [] c2) X.env) :: starEach [] X.env := by rfl) :
    PE X (.Call (.Name "list" q1) [.Call (.Name "reversed" q2) [e] [] c2] [] c1) (tLstRev X.K te) := by
  refine ⟨fun pins s σ H Q I h => ?_⟩
  refine Call_ (ld_blt I g1 m1 boot_list (PyProof.Rows.callWith_type1 (args_cons ?_ h2) h2 rfl))
  refine Call_ (ld_blt I g2 m2 PyProof.Rows.boot_reversed (PyProof.Rows.callWith_type1 (args_cons ?_ h1) h1 rfl))
  refine thn (he.run pins s σ H _ I h) fun u s1 ⟨v, H1, I1, r1, a, xs, ev, hq, q⟩ => args_nil ?_
  subst ev
  obtain rfl : u = Value.ref a := r1
  obtain ⟨its, rv, pl, hz⟩ := I1.list hq
  have il := pl.isList
  obtain ⟨ol, hol, _⟩ := id il
  refine call_reversed_list il (args_nil ?_)
  have I2 : Inv X pins σ H1 { s1 with heap := s1.heap.push (revObj a ((its.toArray.size : Int) - 1)) } := I1.kept (t' := s1.toks) fun b o e => Heap.get?_push_of_some _ e
  obtain ⟨f0, f1, f2, f3, f4, f5⟩ := I1.fpOk (H' := H1) (b := s1.heap.objs.size) (Nat.le_refl _) (I1.hok.fresh (Nat.le_refl _))
  have small : its.toArray.size ≤ sizeLine := by rw [List.size_toArray, ← rv.length]; exact hz
  refine call_list_rev (st := { s1 with heap := s1.heap.push (revObj a ((its.toArray.size : Int) - 1)) }) (it := s1.heap.objs.size) (l := a) (vs := its.toArray) (I1.ok.hd hc) ⟨_, Heap.get?_push_size _ rfl, rfl, rfl⟩ (il.push _) (Nat.ne_of_lt (Heap.lt_size hol)) small fun h' tk acc c' hk hz' hi => ?_
  have all : ∀ b o, s1.heap.get? b = some o → h'.get? b = some o := fun b o e => hk b o (Nat.ne_of_lt (Heap.lt_size e)) (Heap.get?_push_of_some _ e)
  have lo : s1.heap.objs.size ≤ (s1.heap.push (revObj a ((its.toArray.size : Int) - 1))).objs.size := by
    show s1.heap.objs.size ≤ (s1.heap.objs.push _).size
    rw [Array.size_push]; omega
  exact ⟨.ref _, upd H1 _ (.lst xs.reverse), I1.laid (t' := tk) all lo (show ObjOk X.prog X.w _ _ _ (.lst xs.reverse) from ⟨by rw [List.length_reverse]; exact hz, acc.toList, c', vals_rev rv hi, by rw [Array.toArray_toList]; exact hz'⟩), rfl, q _ (I1.hok.fresh lo)⟩
end
end Ssb

/-! f"{i:x}" of an int. -/
namespace Ssb
open PySem PySem.Spec PyProof.Rows Builtin Float
/-- an int in hex signs -/
def hexT (a : Int) : Str := ⟨((if a < 0 then [45] else []) ++ (Nat.toDigits 16 a.natAbs).map Char.toNat).toArray⟩
def fX : FormatSpec := { fill := 32, align := 62, type := some 120 }
theorem fX_ok : parseFormatSpec ("x" : Str).cps.toList "int" 62 = .ok fX := by kernel_rfl
section
variable {prog : Program} {w : World} {A : Around} {E : Value → Shared → Prop} {s : Shared}
theorem hexT_len (a : Int) : (hexT a).length ≤ 1 + (Nat.toDigits 16 a.natAbs).length := by
  show (((if a < 0 then [45] else []) ++ (Nat.toDigits 16 a.natAbs).map Char.toNat).toArray).size ≤ _
  rw [List.size_toArray, List.length_append, List.length_map]
  split <;> simp
theorem hex_field {f : FormatSpec} (hw : f.width = none) (hgr : f.grouping = none) (hsg : f.sign = none) (hfi : f.fill = 32) (hli : f.align = 62) (neg : Bool) (ds : List Nat) : intField' f neg [] ds [] 4 = ⟨((if neg = true then [45] else []) ++ ds).toArray⟩ := by
  have e : (if ds.isEmpty = true then ([] : List Nat) else List.replicate ((0 : Int).toNat - ds.length) 48 ++ ds) = ds := by
    cases ds with
    | nil => rfl
    | cons d ds => simp
  unfold intField'
  simp only [hw, hgr, hsg, hfi, hli]
  rw [if_neg (show ¬ ((32 : Nat) == 48 && (62 : Nat) == 61) = true by decide), e, if_neg (show ¬ ((62 : Nat) == 60) = true by decide), if_neg (show ¬ ((62 : Nat) == 94) = true by decide), if_neg (show ¬ ((62 : Nat) == 61) = true by decide)]
  have hp : ∀ k m : Nat, (-1 - ((k : Int) + (([] : List Nat).length : Int) + (([] : List Nat).length : Int)) - (m : Int)).toNat = 0 := fun k m => by
    rw [Int.toNat_eq_zero]
    simp only [List.length_nil]
    omega
  simp only [hp]
  cases neg <;> simp
theorem formatField_hex {a : Int} {t : Tok} {Q : Value → Shared → Prop} (hd : (Nat.toDigits 16 a.natAbs).length ≤ 100000) (h : Q (.str (hexT a) (s.toks + 1)) { s with toks := s.toks + 1 + 1 }) : wpAny (model prog w) A (formatField (.int a t) "x") Q E s := by
  have hlen : (hexT a).length ≤ sizeLine := by
    have := hexT_len a
    rw [sizeLine_eq]; omega
  have hne : (("x" : Str).length == 0) = false := by kernel_rfl
  have hasc : ((("x" : Str).cps.toList.drop 1).any (· ≥ 128) || (("x" : Str).cps.getD 0 0 ≥ 128 && !([60, 62, 61, 94] : List Nat).contains (("x" : Str).cps.getD 1 0))) = false := by kernel_rfl
  have hp := fX_ok
  show wpAny _ _ (holding [.int a t] (pyFormat (.int a t) ("x" : Str))) Q E s
  generalize hx : ("x" : Str) = spec at hne hasc hp ⊢
  have hsz : spec.length ≤ sizeLine := by rw [← hx]; decide
  refine wpAny_holding ?_
  unfold pyFormat
  refine wpAny_bind (wpAny_mkStr ?_ hsz)
  refine wpAny_bind (m := callSpecial? (.int a t) (Str.ofString "__format__") [.str spec s.toks]) (wpAny_callSpecial?_slot (name := Str.ofString "__format__") (typeIs_int _ a t) slot_int_format ?_)
  refine wpAny_call (codeAny_call_builtin slot_int_format.plain entry_int_format (slot_int_format.check _ _ _ _ _ _ _ _ (typeIs_int _ a t) (args_int_format _ _) ?_))
  unfold Builtin.«int.__format__»
  simp only [selfAndOne, noKeywords, Int.intOfSelf, asInt?, asStr?, List.isEmpty_nil, if_true, pure_bind, bind_pure, bind_assoc, hne, hasc, Bool.false_eq_true, if_false,
    show (Value.str spec s.toks == Value.none) = false from rfl]
  refine wpAny_bind (wpAny_typeNameOf (T := "str") (typeIs_str _ _ _) (by decide) fun _ => ?_)
  first | refine wpAny_bind (wpAny_typeNameOfCut_int ?_) | refine wpAny_bind (wpAny_typeNameOf_int ?_)
  simp only [hp]
  have hty : ∀ d, fX.type.getD d = 120 := fun _ => rfl
  have hpr : fX.precision = none := rfl
  have hz : fX.noNeg0 = false := rfl
  have hal : fX.alt = false := rfl
  have hw : fX.width = none := rfl
  have hgr : fX.grouping = none := rfl
  have hsg : fX.sign = none := rfl
  have hfi : fX.fill = 32 := rfl
  have hli : fX.align = 62 := rfl
  clear hp
  generalize fX = f at hty hpr hz hal hw hgr hsg hfi hli ⊢
  simp only [hty]
  rw [if_pos (by decide)]
  show wpAny _ _ (if _ then _ else _) _ _ _
  rw [if_neg (by simp [hpr])]
  show wpAny _ _ (if _ then _ else _) _ _ _
  rw [if_neg (by simp [hz])]
  show wpAny _ _ (if _ then _ else _) _ _ _
  rw [if_neg (by decide)]
  show wpAny _ _ (if _ then _ else _) _ _ _
  rw [if_neg (by decide)]
  show wpAny _ _ (if _ then _ else _) _ _ _
  rw [if_neg (by simp [hw])]
  show wpAny _ _ (retStr _) _ _ _
  unfold retStr
  have ez : intField' f (decide (a < 0)) [] ((Nat.toDigits 16 a.natAbs).map Char.toNat) [] 4 = hexT a := by
    rw [hex_field hw hgr hsg hfi hli]
    unfold hexT
    by_cases c : a < 0
    · rw [if_pos (decide_eq_true c), if_pos c]
    · rw [if_neg (by rw [decide_eq_false c]; exact Bool.false_ne_true), if_neg c]
  have hl2 : (intField' f (decide (a < 0)) [] ((Nat.toDigits 16 a.natAbs).map fun c => c.toNat) [] 4).length ≤ sizeLine := by
    have := hlen
    rw [← ez] at this
    exact this
  have hq2 : Q (.str (intField' f (decide (a < 0)) [] ((Nat.toDigits 16 a.natAbs).map fun c => c.toNat) [] 4) (s.toks + 1)) { s with toks := s.toks + 1 + 1 } := by
    have := h
    rw [← ez] at this
    exact this
  clear h hlen ez
  refine wpAny_bind (wpAny_mkStr (wpAny_pure ?_) ?hs2)
  case hs2 =>
    simp only [hal, Bool.false_eq_true, if_false, show ((120 : Nat) == 88) = false by decide, show ((16 : Nat) == 10) = false by decide]
    conv => lhs; arg 1; whnf
    simp only [intField', hgr, hsg] at hl2 ⊢
    exact hl2
  dsimp only
  refine wpAny_bind (wpAny_isInstance (typeIs_str _ _ _) isSubtype_str_str (wpAny_pure ?_))
  simp only [hal, Bool.false_eq_true, if_false, show ((120 : Nat) == 88) = false by decide, show ((16 : Nat) == 10) = false by decide]
  conv => arg 1; arg 1; whnf
  simp only [intField', hgr, hsg] at hq2 ⊢
  exact hq2
end
end Ssb

/-! list.index with a start; a slice assigned; a field in hex. -/
namespace PySem
namespace SeqAt
open AutoSeq1 (wpAny_loadPart')
open MeetsSeq MeetsSeq2 MeetsSeq3 SeqRoads2
theorem list_indexFrom (l : Addr) (items : Array Value) (n : Nat) (dd : Option Addr) (sl : Array (Option Value)) (x : Value) (e : Value → Bool) (a : Nat) (ta : Tok) (j : Nat) (hj : j < items.size) (haj : a ≤ j) (hsmall : (j : Int) < 2 ^ 63 - 1)
    (hit : e items[j] = true) (hno : ∀ m (hm : m < items.size), a ≤ m → m < j → e items[m] = false) :
    Meets (Builtin.«list.index» ⟨[.ref l, x, .int a ta], []⟩)
      (fun A R s => s.heap.get? l = some { cls := .type "list", dict := dd, data := .seq items n, slots := sl } ∧ (∀ y, y ∈ items → EqAt A.in1 s y x (e y)) ∧ R (.ok (.ret (.int j s.toks))) { s with toks := s.toks + 1 }) := by
  intro prog w A R s h
  obtain ⟨hp, g, d, tk, os⟩ := s; obtain ⟨hl, he, h⟩ := h
  wp_walk using wpAny_loadPart' hl
  have a1 : ((fun i : Int => if i < 0 then max 0 (i + (items.size : Int)) else i) ((some (a : Int)).getD 0)) = (a : Int) := by
    show (if (a : Int) < 0 then max 0 ((a : Int) + (items.size : Int)) else (a : Int)) = (a : Int)
    rw [if_neg (by omega)]
  have a2 : ((fun i : Int => if i < 0 then max 0 (i + (items.size : Int)) else i) ((none : Option Int).getD (2 ^ 63 - 1))) = 2 ^ 63 - 1 := by simp
  rw [a1, a2]
  exact ⟨plainId_quiet plain_index_loop _, codeAny_builtin entry_index_loop (by
    rw [Around.under_plainId plain_index_loop _]
    exact index_loopAt l items n dd sl x e (2 ^ 63 - 1) j hj hsmall hit _ a rfl haj hno prog w A R _ ⟨hl, he, h⟩)⟩
end SeqAt
end PySem
namespace Ssb
open PySem PySem.Spec PyProof.Rows L2
section
variable {X : Cx}
/-- xs.index(y, a) -/
def rIndexF (K : PySem.W.Frag) : V → List V → Hp → VK → Prop := fun x xs H Q => ∃ (l : Addr) (ys : List V) (y : V) (a j : Nat) (z : V), x = V.ref l ∧ xs = [y, .int a] ∧ SqL K H l ys ∧ flatV y = true ∧ ys.all flatV = true ∧ a ≤ j ∧ ys[j]? = some z ∧ eqV z y = true ∧
  (∀ (m : Nat) (z' : V), a ≤ m → m < j → ys[m]? = some z' → eqV z' y = false) ∧ Q (.int (j : Nat)) H
theorem mt_indexF : MtR X "list.index" (rIndexF X.K) := by
  intro pins s σ H x xs v us Q I rx rxs h
  obtain ⟨l, ys, y, a, j, z, rfl, rfl, hs, fy, fys, haj, hz, hzj, hno, q⟩ := h
  cases rx
  cases rxs with
  | cons ry rt =>
    rename_i uy ut
    cases rt with
    | cons ra rt2 =>
    rename_i ua ut2
    cases rt2
    obtain ⟨ta, rfl⟩ := ra
    obtain ⟨its, rv, ⟨⟨cls, dd, data, sl⟩, n, ho, hc, hdn, hd⟩, hlen⟩ := I.list hs
    simp only at hc hd
    subst hc hd
    obtain ⟨u, hu, ru⟩ := rv.get hz
    obtain ⟨hjl, hje⟩ := List.getElem?_eq_some_iff.mp hu
    have hvl := rv.length
    have hj : j < its.toArray.size := by simpa using hjl
    have hsl := sizeLine_eq
    refine call_meets PySem.F.slot_list_index ⟨_, ho, rfl⟩ PySem.F.entry_list_index (PySem.F.args_list_index_3 _ _ _)
      (SeqAt.list_indexFrom l its.toArray n dd sl uy (eqU y) a ta j hj haj (by omega) ?_ ?_) ⟨ho, fun u' hu' => mem_eqAt ry fy rv fys u' (by simpa using hu'), ?_⟩
    · have e1 : its.toArray[j] = u := by simpa using hje
      rw [e1, eqU_of ru (flat_at fys hz)]
      exact hzj
    · intro m hm ham hmj
      have hml : m < its.length := by simpa using hm
      have hmy : m < ys.length := by omega
      have hy' : ys[m]? = some ys[m] := List.getElem?_eq_getElem hmy
      obtain ⟨u2, hu2, ru2⟩ := rv.get hy'
      obtain ⟨_, hme⟩ := List.getElem?_eq_some_iff.mp hu2
      have e1 : its.toArray[m] = u2 := by simpa using hme
      rw [e1, eqU_of ru2 (flat_at fys hy')]
      exact hno m _ ham hmj hy'
    · exact ⟨.int (j : Nat), H, I.tok _, ⟨_, rfl⟩, q⟩
/-- {x:x} of an int -/
def tHex (te : TE) : TE := fun σ H Q => te σ H fun x H1 => ∃ i : Int, x = .int i ∧ (Nat.toDigits 16 i.natAbs).length ≤ 100000 ∧ Q (.str (hexT i)) H1
theorem pe_hex {e : Expr} {te : TE} {pos p2 : Pos} {p1 : Nat} {p3 : Pos} (he : PE X e te) : PE X (.FormattedValue e (-1) (some (.JoinedStr [.Constant (.str "x") p1 p3] p2)) pos) (tHex te) := by
  refine ⟨fun pins s σ H Q I h => ?_⟩
  refine wpAny_FormattedValue_spec (thn (he.run pins s σ H _ I h) fun v s1 ⟨x, H1, I1, r1, q1⟩ => ?_)
  obtain ⟨i, rfl, hz, q⟩ := q1
  obtain ⟨t, rfl⟩ := r1
  have p0 : PE X (.JoinedStr [.Constant (.str "x") p1 p3] p2) (tC (.str "x")) := pe_joined1 pe_str
  refine thn (p0.run pins s1 σ H1 (fun v H2 => v = .str "x" ∧ H2 = H1) I1 ⟨rfl, rfl⟩) fun v2 s2 ⟨x2, H2, I2, r2, q2⟩ => ?_
  obtain ⟨rfl, rfl⟩ := q2
  obtain ⟨t2, rfl⟩ := r2
  exact ⟨_, _, rfl, formatField_hex hz ⟨.str (hexT i), H2, I2.tok _, ⟨_, rfl⟩, q⟩⟩
theorem signs_at {z : Str} : ∀ {us : List Value} {cs : List Nat} {k : Nat}, us.length = cs.length → (∀ (j : Nat) (v : Value), us[j]? = some v → SignAt z (k + j) v) → (∀ j, cs[j]? = z.cps[k + j]?) → Vals (cs.map fun c => V.str ⟨#[c]⟩) us
  | [], [], _, _, _, _ => .nil
  | [], _ :: _, _, h, _, _ => by simp at h
  | _ :: _, [], _, h, _, _ => by simp at h
  | u :: us, c :: cs, k, hl, h, hc => by
    obtain ⟨d, t, e1, e2⟩ := h 0 u rfl
    have e3 := hc 0
    rw [e1] at e3
    have e4 : c = d := Option.some.inj e3
    subst e4
    rw [List.map_cons]
    refine .cons ⟨t, e2⟩ (signs_at (z := z) (k := k + 1) (by simpa using hl) (fun j v e => ?_) fun j => ?_)
    · have := h (j + 1) v (by simpa using e)
      rw [show k + (j + 1) = k + 1 + j by omega] at this
      exact this
    · have := hc (j + 1)
      rw [show k + (j + 1) = k + 1 + j by omega] at this
      rw [← this]; rfl
/-- list(a text) -/
def rListStr : List V → Hp → VK → Prop := fun xs H Q => ∃ z : Str, xs = [.str z] ∧ z.length ≤ sizeLine ∧ ∀ p, H p = none → Q (.ref p) (upd H p (.lst (z.cps.toList.map fun c => V.str ⟨#[c]⟩)))
theorem call_listS (hcalm : X.calm = true) : CallR X (.type "list") rListStr := by
  intro pins s σ H xs us Q I r q
  obtain ⟨z, ex, hz, q⟩ := q
  subst ex
  obtain ⟨u, eu, rx⟩ := vals1 r
  subst eu
  obtain ⟨t, rfl⟩ := rx
  refine call_list_str (I.ok.hd hcalm) z t (fun h' tk acc c' hk hD hacc => ?_) hz
  have hv : Vals (z.cps.toList.map fun c => V.str ⟨#[c]⟩) acc.toList := by
    refine signs_at (z := z) (k := 0) (by rw [Array.length_toList, Array.length_toList]; exact hacc.1) (fun j v e => ?_) fun j => by rw [Nat.zero_add, Array.getElem?_toList]
    rw [Nat.zero_add]
    exact hacc.2 j v (by rw [← Array.getElem?_toList]; exact e)
  exact ⟨.ref s.heap.objs.size, upd H s.heap.objs.size (.lst (z.cps.toList.map fun c => V.str ⟨#[c]⟩)), I.laid (t' := tk) hk (Nat.le_refl _)
    (show ObjOk X.prog X.w _ _ _ (.lst _) from ⟨by rw [List.length_map]; exact hz, acc.toList, c', hv, by rw [Array.toArray_toList]; exact hD⟩), rfl, q _ (I.hok.fresh (Nat.le_refl _))⟩
end
end Ssb

/-! xs[a:a + 1] = [..]. -/
namespace Ssb
open PySem PySem.Spec PyProof.Rows L2
open AutoSeq1 (wpAny_loadPart')
open MeetsSeq MeetsSeq2 MeetsSeq3 SeqRoads2 Builtin
/-- the ends of xs[a:a + 1] where a is the list's length or less -/
theorem ends_at {a n : Nat} (ha : a ≤ n) : sliceBounds (some (a : Int)) (some ((a : Int) + 1)) none n = ((a : Int), ((min (a + 1) n : Nat) : Int), 1) := by
  unfold sliceBounds
  have h1 : ¬ ((a : Int) < 0) := by omega
  have h2 : ¬ ((a : Int) + 1 < 0) := by omega
  simp only [Option.getD_none, h1, h2, if_false, show (1 : Int) > 0 from by decide, if_true, Prod.mk.injEq, and_true]
  omega
theorem meets_put (l b sl : Addr) (items new : Array Value) (n n2 : Nat) (a : Nat) (ta tb : Tok) (ha : a ≤ items.size) (hne : l ≠ b) (hsz : items.size + new.size ≤ sizeLine) :
    Meets (Builtin.«list.__setitem__» ⟨[.ref l, .ref sl, .ref b], []⟩)
      (fun A R s => s.heap.get? l = some { cls := .type "list", data := .seq items n } ∧ s.heap.get? b = some { cls := .type "list", data := .seq new n2 } ∧ s.heap.IsSliceOf sl (.int a ta) (.int ((a : Int) + 1) tb) .none ∧
        R (.ok (.ret .none)) { s with heap := s.heap.update l (Obj.mapSeq fun xs => xs.extract 0 a ++ new ++ xs.extract (min (a + 1) items.size) xs.size) }) := by
  intro prog w A R s h
  obtain ⟨hl, hb, hs, h⟩ := h
  obtain ⟨os, ho, hc, hd⟩ := id hs
  have ty : s.TypeIs (.ref sl) "slice" := ⟨os, ho, hc⟩
  have one : Builtin.List.listSubscript? (.ref sl) = Builtin.List.listSubscript? (.ref sl) := rfl
  wp_walk using wpAny_loadPart' hl, wpAny_loadPart' hb
  rw [slice_no_index]
  wp_walk
  rw [hd]
  wp_walk using wpAny_loadPart' hl, wpAny_loadPart' hb
  rw [hd]
  wp_walk using wpAny_loadPart' hl, wpAny_loadPart' hb
  rw [PySem.F.slot_int_index.lookup]
  wp_walk using wpAny_loadPart' hl, wpAny_loadPart' hb
  rw [hd]
  wp_walk using wpAny_loadPart' hl, wpAny_loadPart' hb
  rw [PySem.F.slot_int_index.lookup]
  wp_walk using wpAny_loadPart' hl, wpAny_loadPart' hb
  have same : ¬ Builtin.List.listSameRef (.ref l) (.ref b) = true := by simp [Builtin.List.listSameRef, hne]
  rw [if_neg same]
  wp_walk using wpAny_loadPart' hl, wpAny_loadPart' hb
  have tl : ¬ Builtin.List.listTooLong (items.size + new.size) = true := by rw [notLongL hsz]; exact Bool.false_ne_true
  rw [if_neg tl]
  have z1 : (Max.max 0 (Min.min (if (a : Int) < 0 then (a : Int) + (items.size : Int) else (a : Int)) (items.size : Int))) = (a : Int) := by
    rw [if_neg (by omega)]; omega
  have z2 : (Max.max 0 (Min.min (if (a : Int) + 1 < 0 then (a : Int) + 1 + (items.size : Int) else (a : Int) + 1) (items.size : Int))) = ((min (a + 1) items.size : Nat) : Int) := by
    rw [if_neg (by omega)]; omega
  rw [z1, z2, show (Max.max (a : Int) ((min (a + 1) items.size : Nat) : Int)).toNat = min (a + 1) items.size by omega, Int.toNat_natCast]
  wp_walk using wpAny_loadPart' hl, wpAny_loadPart' hb
  have pl : (Obj.mapSeq (fun xs => xs.extract 0 a ++ new ++ xs.extract (min (a + 1) items.size)) { cls := .type "list", data := .seq items n }).data.pastItsLine = none :=
    pastItsLine_seq (by show (items.extract 0 a ++ new ++ items.extract (min (a + 1) items.size)).size ≤ _; simp only [Array.size_append, Array.size_extract]; omega)
  rw [pl]
  wp_walk
  exact h
section
variable {X : Cx}
/-- o[a:a + 1] = [..], a the list's length or less -/
def gSlice1 (to tl th : TE) : TG := fun v σ H Q => to σ H fun o H1 => tl σ H1 fun x H2 => th σ H2 fun y H3 => ∃ (l b : Addr) (xs ys : List V) (a : Nat), o = .ref l ∧ v = .ref b ∧ x = .int (a : Int) ∧ y = .int ((a : Int) + 1) ∧ H3 l = some (.lst xs) ∧ H3 b = some (.lst ys) ∧ l ≠ b ∧ a ≤ xs.length ∧ xs.length + ys.length ≤ sizeLine ∧
  Q σ (upd H3 l (.lst (xs.take a ++ ys ++ xs.drop (a + 1))))
theorem pg_slice1 {o lo hi : Expr} {to tl th : TE} {p2 pos : Pos} (ho : PE X o to) (hl : PE X lo tl) (hh : PE X hi th) : PG X (.Subscript o (.Slice (some lo) (some hi) none p2) pos) (gSlice1 to tl th) := by
  refine ⟨fun pins s σ H v u Q I r h => ?_⟩
  rw [arm_assign_Subscript]
  refine wpAny_bind (wpAny_holding (thn (ho.run pins s σ H _ I h) fun ov s1 ⟨x, H1, I1, r1, q1⟩ => ?_))
  refine wpAny_bind (wpAny_holding (wpAny_Slice ?_))
  rw [evalPart_some, evalPart_some, evalPart_none]
  refine thn (hl.run pins s1 σ H1 _ I1 q1) fun vl s2 ⟨xl, H2, I2, pl, q2⟩ => thn (hh.run pins s2 σ H2 _ I2 q2) fun vu s3 ⟨xh, H3, I3, pu, q3⟩ => wpAny_pure ?_
  obtain ⟨l, b, xs, ys, a, rfl, rfl, rfl, rfl, hx, hb, hne, ha, hz, q⟩ := q3
  cases r1
  cases r
  obtain ⟨ta, rfl⟩ := pl
  obtain ⟨tb, rfl⟩ := pu
  have I4 : Inv X pins σ H3 { s3 with heap := s3.heap.push { cls := .type "slice", data := .fields #[.int (a : Int) ta, .int ((a : Int) + 1) tb, .none] } } := I3.kept (t' := s3.toks) fun b ob q => Heap.get?_push_of_some _ q
  obtain ⟨_, its, n, rv, hl, e⟩ := I4.lstM hx
  obtain ⟨_, its2, n2, rv2, hl2, e2⟩ := I4.lstM hb
  refine wpAny_bind (wpAny_standAt (wpAny_bind (wpAny_holding ?_)))
  have IL := PySem.IsL.isList e
  refine wpAny_holding (wpAny_bind (wpAny_sequenceKey IL.typeIs (by decide) (wpAny_bind (wpAny_callSpecial?_slot (name := "__setitem__") IL.typeIs slot_list_setitem (call_meets slot_list_setitem IL.typeIs entry_list_setitem (args_list_setitem _ _ _)
    (meets_put l b _ its.toArray its2.toArray n n2 a ta tb (by rw [List.size_toArray]; omega) hne (by rw [List.size_toArray, List.size_toArray]; omega)) ⟨e, e2, Heap.IsSliceOf.new .., ?_⟩)))))
  refine wpAny_pure (wpAny_release ⟨σ, _, I4.lset (its' := its.take a ++ its2 ++ its.drop (a + 1)) (t' := _) hx e ?_ (Vals.append (Vals.append (rv.take _) rv2) (rv.drop _)) ?_, q⟩)
  · have := splice_eq its its2 a (min (a + 1) its.length)
    have dm : its.drop (min (a + 1) its.length) = its.drop (a + 1) := by
      rcases Nat.le_total (a + 1) its.length with c | c
      · rw [Nat.min_eq_left c]
      · rw [Nat.min_eq_right c, List.drop_eq_nil_of_le (Nat.le_refl _), List.drop_eq_nil_of_le c]
    rw [dm] at this
    rw [List.size_toArray] at this ⊢
    exact this
  · rw [List.length_append, List.length_append, List.length_take, List.length_drop]
    omega
end
end Ssb

/-! name = {k: v for ..}, the name a local. -/
namespace Ssb
open PySem PySem.Spec PyProof.Rows L2
abbrev Blk (X : Cx) (scope : Scope) (F : Cx → Prop) : Prop := ∀ (s : Shared) (H : Hp) (C : Addr) (cl : List (Str × Addr)) (fp : List Addr), F (X.blk s H scope (compEnvC scope cl C X.env) fp)
section
variable {X : Cx} {i : Nat} {y : Str} {py pos spos : Pos} {kx vx tg iter : Expr} {ifs : List Expr} {scope : Scope} {own : List (Str × Nat)} {wi : TI} {g : TG} {tt : TT} {tk tv : TE}
theorem ps_setDc (hc : X.calm = true) (hN : X.N.Nodup) (hy : X.N[i]? = some y) (hyl : X.env.scope.names.lookup y = some .local) (hsw : swapsWith (.DictComp kx vx [⟨tg, iter, ifs, 0⟩] scope pos) (some (.Name y py)) spos.line X.env = pure true)
    (hi : PI X tg iter wi) (ok : BlkOk X.N X.env.scope scope own) (hg : Blk X scope fun B => PG B tg g) (ht : Blk X scope fun B => PTs B ifs tt) (hk : Blk X scope fun B => PE B kx tk) (he : Blk X scope fun B => PE B vx tv)
    (hs : ∀ x, foldedSetIterable iter X.env x = pure x := by intro _; rfl) : PS X (.Assign [.Name y py] (.DictComp kx vx [⟨tg, iter, ifs, 0⟩] scope pos) spos) (tAsg (tDc wi g tt tk tv (own.map (·.2))) (gName i)) := by
  refine ⟨fun pins s σ H D I h => ?_⟩
  rw [exec_Assign_Name_used _ _ _ _ hsw]
  have h : tDc wi g tt tk tv (own.map (·.2)) σ H (fun x H1 => gName i x σ H1 D.nx) := h
  refine wpAny_bind (wpAny_standAt (wpAny_bind ?_))
  show wpAny _ X.A (do let _ ← comprehension (.DictComp kx vx [⟨tg, iter, ifs, 0⟩] scope pos) scope X.env (firstIterPos [⟨tg, iter, ifs, 0⟩] pos) newDict false (eval iter X.env) (some (assign (.Name y py) X.env))) _ _ s
  refine wpAny_bind (thn (dc_core (Qf := fun _ s' => SP X pins D .next s') hc hN I hi ok hg ht hk he hs h fun L C s' m H' I' q hn f => ?_) fun _ s' hq => wpAny_pure (wpAny_pure hq))
  show wpAny _ _ (assign (.Name y py) X.env (.ref L)) _ _ _
  refine wpAny_assign_Name (store_ok2 (v := V.ref L) I' hN hy (.inl hyl) rfl (fun s2 I2 ⟨a, sb, ha⟩ => ?_) (.inr hyl))
  obtain ⟨z0, z1, z3, z4, z5⟩ : _ ∧ _ ∧ _ ∧ _ ∧ _ := ⟨f.1, f.2.1, f.2.2.2.1, f.2.2.2.2.1, f.2.2.2.2.2⟩
  have ne : C ≠ a := by
    rcases ha with z | z
    · rw [z]; exact z1
    · exact fun e => z4 y a z e.symm
  exact ⟨m, hn.sameBut sb ne, fun h3 sb3 => ⟨_, H', I2.turned (t' := s2.toks) (fun b o hb e => (sb3.2 b hb).trans e) z0 z1 z3 z4 z5, q⟩⟩
theorem sw_trueD {gs : List Comprehension} {l : Nat} {env : Env} (hk : env.scope.kind = .function) (hy : env.scope.names.lookup y = some .local) (hl : (py.line == pos.line) = true) (ha : (scope.names.any fun (n, k) => n == y && (k == .local || k == .cell)) = false) :
    swapsWith (.DictComp kx vx gs scope pos) (some (.Name y py)) l env = pure true := by
  have e1 : env.kindOf y = some .local := hy
  have e2 : env.blockKind = .function := by
    unfold Env.blockKind
    rw [hk]; rfl
  unfold swapsWith
  simp only [e2, e1, ha, Expr.pos, hl]
  rfl
end
end Ssb

/-! x in a tuple of any data; a sign n times. -/
namespace Ssb
open PySem PySem.Spec PyProof.Rows L2
section
variable {X : Cx}
/-- x in (..), x not in (..): deep -/
def rInU (K : PySem.W.Frag) (neg : Bool) : R2 := fun x y H Q => ∃ d ds, Dp K H x d ∧ Dp K H y (.tuple ds) ∧ SeqAt.shaped d = true ∧ SeqAt.shaped (.tuple ds) = true ∧ Q (.bl (if neg then !ds.any (fun z => PyData.eqv z d) else ds.any fun z => PyData.eqv z d)) H
theorem op_inU (hu : X.A.units + 65 < cLine) : OpR X (compareOp .In) (rInU X.K false) := by
  rintro pins s σ H x y v u Q I rx ry ⟨d, ds, hd, he, sd, se, q⟩
  obtain ⟨bs, r2⟩ := Dp.reads I (.tuple ds) y u he ry
  obtain ⟨as, r1⟩ := Dp.reads I d x v hd rx
  exact SeqAt.in_tuple_reads r2 r1 (SeqAt.canLay_of_shaped se) (SeqAt.canLay_of_shaped sd) (room_in_shaped sd hu) ⟨.bl _, H, I, rfl, q⟩
theorem op_notInU (hu : X.A.units + 65 < cLine) : OpR X (compareOp .NotIn) (rInU X.K true) := by
  rintro pins s σ H x y v u Q I rx ry ⟨d, ds, hd, he, sd, se, q⟩
  obtain ⟨bs, r2⟩ := Dp.reads I (.tuple ds) y u he ry
  obtain ⟨as, r1⟩ := Dp.reads I d x v hd rx
  exact SeqAt.notIn_tuple_reads r2 r1 (SeqAt.canLay_of_shaped se) (SeqAt.canLay_of_shaped sd) (room_in_shaped sd hu) ⟨.bl _, H, I, rfl, q⟩
/-- "c" * n -/
def rMulS : R2 := fun x y H Q => ∃ (c : Nat) (n : Int), x = .str ⟨#[c]⟩ ∧ y = .int n ∧ 1 ≤ n ∧ n ≤ 1000 ∧ Q (.str ⟨(List.replicate n.toNat c).toArray⟩) H
theorem rep_sign (c : Nat) : ∀ (n : Nat) (acc : Array Nat), (List.replicate n #[c]).foldl (· ++ ·) acc = acc ++ (List.replicate n c).toArray
  | 0, acc => by simp
  | n + 1, acc => by
    rw [List.replicate_succ, List.foldl_cons, rep_sign c n, List.replicate_succ]
    apply Array.toList_inj.mp
    simp
theorem op_mulS : OpR X (binaryOp .Mult) rMulS := by
  rintro pins s σ H x y v u Q I rx ry ⟨c, n, rfl, rfl, n1, n2, q⟩
  obtain ⟨t, rfl⟩ := rx
  obtain ⟨t2, rfl⟩ := ry
  obtain ⟨k, rfl⟩ := Int.eq_ofNat_of_zero_le (show 0 ≤ n by omega)
  rw [Int.toNat_natCast] at q
  have l1 : (⟨#[c]⟩ : Str).length = 1 := rfl
  refine P.mul_str (by simp; omega) (fun _ _ => ?_) (fun _ _ => ?_) ?_
  · rw [l1]
    have : 1 ≤ ((2 : Int) ^ 63 - 1) / (k : Int) := (Int.le_ediv_iff_mul_le (by omega)).mpr (by omega)
    omega
  · rw [l1, Nat.one_mul, Int.toNat_natCast]
    unfold Builtin.Str.tooLong
    rw [sizeLine_eq]
    exact decide_eq_false (by omega)
  · rw [if_neg (by omega)]
    by_cases h1 : k = 1
    · subst h1
      rw [if_pos (by rfl)]
      exact ⟨.str _, H, I, ⟨t, rfl⟩, q⟩
    · rw [if_neg (by rw [l1]; simp; omega), Int.toNat_natCast, rep_sign, Array.empty_append]
      exact ⟨by show (List.replicate k c).toArray.size ≤ _; rw [List.size_toArray, List.length_replicate, sizeLine_eq]; omega, .str _, H, I.tok _, ⟨_, rfl⟩, q⟩
end
end Ssb

/-! tuples of the module: a constant that is a tuple of tuples of texts and ints -/
namespace Ssb
open PySem PySem.Spec PyProof.Rows L2
def lkTup (K : PySem.W.Frag) (a : Addr) (xs : List V) : Prop := ∃ (o : Obj) (its : Array Value) (n : Nat), K.lookup a = some o ∧ o.cls = .type "tuple" ∧ o.data = .seq its n ∧ its.size ≤ sizeLine ∧ Vals xs its.toList
theorem lkTup.sq {K : PySem.W.Frag} {a : Addr} {xs : List V} (h : lkTup K a xs) (H : Hp) : SqT K H a xs := .inr h
/-- the datum of the module at v -/
def RepK (K : PySem.W.Frag) : Nat → D → V → Prop
  | _ + 1, .int i, v => v = .int i
  | _ + 1, .str s, v => v = .str s
  | n + 1, .tup l, v => ∃ a xs, v = .ref a ∧ lkTup K a xs ∧ Paired (fun d x => RepK K n d x) l xs
  | _, _, _ => False
def TupK (K : PySem.W.Frag) (a : Addr) (l : List D) : Prop := ∃ xs, lkTup K a xs ∧ Paired (fun d x => RepK K 3 d x) l xs
theorem tup_mk {K : PySem.W.Frag} {a a1 a2 a3 : Addr} {s1 s2 s3 : Str} {i1 i2 i3 : Int} {k1 k2 k3 t1 t2 t3 : Tok} {d0 d1 d2 d3 : Option Addr} {n0 n1 n2 n3 : Nat} {l0 l1 l2 l3 : Array (Option Value)}
    (h0 : K.lookup a = some ⟨.type "tuple", d0, .seq #[.ref a1, .ref a2, .ref a3] n0, l0⟩)
    (h1 : K.lookup a1 = some ⟨.type "tuple", d1, .seq #[.str s1 k1, .int i1 t1] n1, l1⟩)
    (h2 : K.lookup a2 = some ⟨.type "tuple", d2, .seq #[.str s2 k2, .int i2 t2] n2, l2⟩)
    (h3 : K.lookup a3 = some ⟨.type "tuple", d3, .seq #[.str s3 k3, .int i3 t3] n3, l3⟩) : TupK K a [.tup [.str s1, .int i1], .tup [.str s2, .int i2], .tup [.str s3, .int i3]] :=
  have two : ∀ {b : Addr} {s : Str} {i : Int} {k t : Tok} {d : Option Addr} {n : Nat} {l : Array (Option Value)}, K.lookup b = some ⟨.type "tuple", d, .seq #[.str s k, .int i t] n, l⟩ → RepK K 3 (.tup [.str s, .int i]) (.ref b) := fun h =>
    ⟨_, [.str _, .int _], rfl, ⟨_, _, _, h, rfl, rfl, by show 2 ≤ sizeLine; decide, .cons ⟨_, rfl⟩ (.cons ⟨_, rfl⟩ .nil)⟩, .cons rfl (.cons rfl .nil)⟩
  ⟨[.ref a1, .ref a2, .ref a3], ⟨_, _, _, h0, rfl, rfl, by show 3 ≤ sizeLine; decide, .cons rfl (.cons rfl (.cons rfl .nil))⟩, .cons (two h1) (.cons (two h2) (.cons (two h3) .nil))⟩
end Ssb

/-! a text against a dict; (x, n) in a tuple of (text, int)s, x of any kind -/
namespace Ssb
open PySem PySem.Spec PyProof.Rows L2 PySem.SeqAt
open AutoSeq1 (wpAny_loadPart')
open MeetsSeq
theorem str_eq_declines_dict (b : Str) (u : Tok) (l : Addr) (c : Value) (es : Array DictEntry) (ep : Nat) (dd : Option Addr) (sl : Array (Option Value)) :
    Meets (Builtin.«str.__eq__» ⟨[.str b u, .ref l], []⟩) (fun _ R s => s.heap.get? l = some { cls := c, dict := dd, data := .dict es ep, slots := sl } ∧ R (.ok (.ret .notImplemented)) s) :=
  .of_wp fun prog w A R s h => by obtain ⟨hp, g, d, tk, os⟩ := s; obtain ⟨hl, h⟩ := h; wp_walk using wpAny_loadPart' hl, wpAny_load hl; exact ⟨_, rfl, h⟩
theorem dict_eq_declines_str (l : Addr) (es : Array DictEntry) (ep : Nat) (dd : Option Addr) (sl : Array (Option Value)) (b : Str) (u : Tok) :
    Meets (Builtin.«dict.__eq__» ⟨[.ref l, .str b u], []⟩) (fun _ R s => s.heap.get? l = some { cls := .type "dict", dict := dd, data := .dict es ep, slots := sl } ∧ R (.ok (.ret .notImplemented)) s) :=
  .of_wp fun prog w A R s h => by
    obtain ⟨hl, h⟩ := h
    unfold Builtin.«dict.__eq__»
    refine wpAny_bind ?_
    unfold Builtin.Dict.dictSlotArgs
    refine wpAny_bind (wpAny_notOrdered_dict ⟨_, hl, rfl⟩ ?_)
    show wpAny _ _ (pure (Value.ref l, Value.str b u)) _ _ s
    refine wpAny_pure ?_
    obtain ⟨hp, g, d, tk, os⟩ := s
    have f1 := F.sub_str_dict
    wp_walk using wpAny_loadPart' hl, wpAny_load hl
    exact ⟨_, rfl, h⟩
section
variable {A : Around} {s : Shared}
theorem RcAt.str_dict {l : Addr} {es : Array DictEntry} {ep : Nat} {dd : Option Addr} {sl : Array (Option Value)} (b : Str) (u : Tok) (ho : s.heap.get? l = some { cls := .type "dict", dict := dd, data := .dict es ep, slots := sl }) (hu : A.units < cLine) : RcAt A s (.str b u) (.ref l) false := fun prog w E Q h =>
  rc_eq_decline_or (k := false) (typeIs_str s b u) ⟨_, ho, rfl⟩ (by decide) F.sub_dict_str F.slot_str_eq F.slot_dict_eq_refl
    (fun _ hq => call_meets F.slot_str_eq (typeIs_str s b u) F.entry_str_eq (F.args_str_eq_2 _ _) (str_eq_declines_dict b u l (.type "dict") es ep dd sl) ⟨ho, hq⟩)
    (fun _ hq => call_meets F.slot_dict_eq_refl ⟨_, ho, rfl⟩ F.entry_dict_eq (F.args_dict_eq_2 _ _) (dict_eq_declines_str l es ep dd sl b u) ⟨ho, hq⟩)
    (fun _ hq => wpAny_of_eq (rfl : isSame (.str b u) (.ref l) = pure false) hq) (.inr hu) h
theorem EqAt.str_dict {l : Addr} {es : Array DictEntry} {ep : Nat} {dd : Option Addr} {sl : Array (Option Value)} (b : Str) (u : Tok) (ho : s.heap.get? l = some { cls := .type "dict", dict := dd, data := .dict es ep, slots := sl }) (hu : A.units < cLine) : EqAt A s (.str b u) (.ref l) false := fun prog w E Q h => by
  unfold eqBool
  refine wpAny_holding ?_
  refine wpAny_ite_split (fun hab => absurd (eq_of_beq hab) nofun) (fun _ => ?_)
  exact wpAny_bind (RcAt.str_dict b u ho hu prog w E _ (wpAny_truthy_bool h))
end
/-- of any kind: flat, or a list, a tuple, a dict -/
inductive Kd (H : Hp) : V → Prop
  | flat {x : V} : flatV x = true → Kd H x
  | lst {a : Addr} {xs : List V} : H a = some (.lst xs) → Kd H (.ref a)
  | tup {a : Addr} {xs : List V} : H a = some (.tup xs) → Kd H (.ref a)
  | dic {a : Addr} {es : List (Key × V)} : H a = some (.dK es) → Kd H (.ref a)
section
variable {X : Cx} {pins : List (Addr × Obj)} {σ : L2.St} {H : Hp} {sh : Shared}
theorem eqAt_str (I : Inv X pins σ H sh) {A : Around} {x : V} {v : Value} {s0 : Str} {t : Tok} (h : Kd H x) (rx : RelV x v) (hu : A.units < cLine) : SeqAt.EqAt A sh (.str s0 t) v (decide (x = .str s0)) := by
  cases h with
  | flat f =>
    have := eqAt_V (A := A) (s := sh) (y := .str s0) (u := .str s0 t) ⟨t, rfl⟩ rx rfl f
    have e : eqV (.str s0) x = decide (x = .str s0) := by
      cases x with
      | str z => show (s0 == z) = _; rw [Bool.eq_iff_iff, beq_iff_eq, decide_eq_true_eq]; exact ⟨fun e => by rw [e], fun e => by cases e; rfl⟩
      | non => rfl
      | bl b => rfl
      | int i => rfl
      | _ => cases f
    rw [← e]; exact this
  | lst ha =>
    cases rx
    obtain ⟨its, _, ⟨o, n, e, c, _, d⟩, _⟩ := I.list (.of ha)
    exact EqAt.str_list s0 t ⟨o, e, c, n, d⟩ hu
  | tup ha =>
    cases rx
    obtain ⟨its, _, p, _⟩ := I.tuple (.of ha)
    exact EqAt.str_tuple s0 t p hu
  | dic ha =>
    cases rx
    obtain ⟨_, ya, va, ra, da⟩ := (show ObjOk X.prog X.w H sh.heap _ (.dK _) from I.hok _ _ ha)
    obtain ⟨⟨cls, dd, data, sl⟩, es, ep, ho, hc, hdat, _⟩ := id da
    have hcls : cls = .type "dict" := hc.1
    simp only at hdat
    subst hcls hdat
    exact EqAt.str_dict s0 t ho hu
end
theorem lk_inj {K : PySem.W.Frag} {a : Addr} {xs ys : List V} (h : lkTup K a xs) (h2 : lkTup K a ys) : xs = ys := by
  obtain ⟨o, its, n, e, _, d, _, r⟩ := h
  obtain ⟨o', its', n', e', _, d', _, r'⟩ := h2
  rw [e] at e'; cases e'; rw [d] at d'; cases d'
  exact r.inj r'
theorem vals_refs : ∀ {cs : List Addr} {us : List Value}, Vals (cs.map V.ref) us → us = cs.map Value.ref
  | [], us, h => by cases h; rfl
  | c :: cs, us, h => by
    cases h with
    | cons a b => cases a; rw [vals_refs b]; rfl
theorem any_refs {e : Value → Bool} {g : Str × Int → Bool} {R : Str × Int → Addr → Prop} : ∀ {fs : List (Str × Int)} {cs : List Addr}, Paired R fs cs → (∀ p c, c ∈ cs → R p c → e (.ref c) = g p) → (cs.map Value.ref).any e = fs.any g
  | _, _, .nil, _ => rfl
  | _, _, .cons h t, k => by
    rw [List.map_cons, List.any_cons, List.any_cons, k _ _ List.mem_cons_self h, any_refs t fun p c hc r => k p c (List.mem_cons_of_mem _ hc) r]
/-- (x, n) in the module's tuple of (text, int)s -/
def rInF (K : PySem.W.Frag) : R2 := fun x y H Q => ∃ (a : Addr) (v0 : V) (n : Int) (c : Addr) (cs : List Addr) (fs : List (Str × Int)), x = .ref a ∧ H a = some (.tup [v0, .int n]) ∧ Kd H v0 ∧ y = .ref c ∧ lkTup K c (cs.map V.ref) ∧
  Paired (fun p a => lkTup K a [.str p.1, .int p.2]) fs cs ∧ Q (.bl (fs.any fun p => decide (v0 = .str p.1) && decide (p.2 = n))) H
theorem op_inF {X : Cx} (hu : X.A.units + 65 < cLine) : OpR X (compareOp .In) (rInF X.K) := by
  rintro pins s σ H x y v u Q I rx ry ⟨a, v0, n, c, cs, fs, rfl, ha, kd, rfl, hc, hfs, q⟩
  cases rx; cases ry
  obtain ⟨its, r1, p1, _⟩ := I.tuple (.of ha)
  obtain ⟨us, r2, p2, _⟩ := I.tuple (hc.sq H)
  have eus := vals_refs r2
  subst eus
  have hits : ∃ w0 t, its = [w0, .int n t] ∧ RelV v0 w0 := by
    cases r1 with
    | cons r0 r =>
      cases r with
      | cons r1 r => cases r; obtain ⟨t, rfl⟩ := r1; exact ⟨_, t, rfl, r0⟩
  obtain ⟨w0, t, rfl, r0⟩ := hits
  have key : ∀ (p : Str × Int) (b : Addr), lkTup X.K b [.str p.1, .int p.2] → SeqAt.EqAt X.A.in1 s (.ref b) (.ref a) (decide (v0 = .str p.1) && decide (p.2 = n)) := fun p b hb => by
    by_cases e : b = a
    · subst e
      have := I.tuple_inj (hb.sq H) (.of ha)
      simp only [List.cons.injEq, V.int.injEq, and_true] at this
      rw [← this.1, this.2, decide_eq_true rfl, decide_eq_true rfl]
      exact SeqAt.EqAt.same _
    · obtain ⟨ws, r3, p3, _⟩ := I.tuple (hb.sq H)
      have hws : ∃ t1 t2, ws = [.str p.1 t1, .int p.2 t2] := by
        cases r3 with
        | cons r0 r =>
          cases r with
          | cons r1 r => cases r; obtain ⟨t1, rfl⟩ := r0; obtain ⟨t2, rfl⟩ := r1; exact ⟨t1, t2, rfl⟩
      obtain ⟨t1, t2, rfl⟩ := hws
      have := SeqAt.RcAt.tuples (A := X.A.in1) (e := fun j => if j = 0 then decide (v0 = .str p.1) else decide (p.2 = n)) p3 p1 (by show X.A.units + 1 < cLine; omega) fun j h1 h2 => by
        have h1 : j < 2 := h1
        match j, h1 with
        | 0, _ => exact eqAt_str I kd r0 (by show X.A.units + 1 + 1 < cLine; omega)
        | 1, _ =>
          have := SeqAt.EqAt.int_int (A := X.A.in1.in1) (s := s) p.2 t2 n t
          rw [show (p.2 == n) = decide (p.2 = n) by rw [Bool.eq_iff_iff, beq_iff_eq, decide_eq_true_eq]] at this
          exact this
      have h2 := SeqAt.EqAt.of_refs e this
      have e2 : ((List.range (min #[Value.str p.1 t1, Value.int p.2 t2].size #[w0, Value.int n t].size)).all (fun j => if j = 0 then decide (v0 = .str p.1) else decide (p.2 = n)) && #[Value.str p.1 t1, Value.int p.2 t2].size == #[w0, Value.int n t].size) = (decide (v0 = .str p.1) && decide (p.2 = n)) := by
        show ((List.range 2).all _ && true) = _
        simp [List.range_succ]
      rw [e2] at h2
      exact h2
  classical
  let e : Value → Bool := fun z => decide (∃ (p : Str × Int) (b : Addr), z = Value.ref b ∧ lkTup X.K b [.str p.1, .int p.2] ∧ (decide (v0 = .str p.1) && decide (p.2 = n)) = true)
  have he : ∀ (p : Str × Int) (b : Addr), lkTup X.K b [.str p.1, .int p.2] → e (.ref b) = (decide (v0 = .str p.1) && decide (p.2 = n)) := fun p b hb => by
    show decide _ = _
    rw [Bool.eq_iff_iff, decide_eq_true_eq]
    refine ⟨fun ⟨p2, b2, eb, h2, h3⟩ => ?_, fun h => ⟨p, b, rfl, hb, h⟩⟩
    cases eb
    have := lk_inj hb h2
    simp only [List.cons.injEq, V.str.injEq, V.int.injEq, and_true] at this
    rw [this.1, this.2]; exact h3
  refine SeqAt.in_tupleAt (e := e) p2 (fun z hz => ?_) ?_
  · have hz : z ∈ cs.map Value.ref := by simpa using hz
    obtain ⟨b, hb, rfl⟩ := List.mem_map.mp hz
    obtain ⟨i, hi⟩ := List.mem_iff_getElem?.mp hb
    obtain ⟨p, _, hp⟩ := pair_back hfs hi
    rw [he p b hp]
    exact key p b hp
  · have := any_refs (e := e) (g := fun p => decide (v0 = .str p.1) && decide (p.2 = n)) hfs fun p b _ hp => he p b hp
    rw [List.any_toArray, this]
    exact ⟨.bl _, H, I, rfl, q⟩
/-- the forms of a constant -/
theorem TupK.forms {K : PySem.W.Frag} {c : Addr} {fs : List (Str × Int)} (h : TupK K c (fs.map fun p => .tup [.str p.1, .int p.2])) : ∃ cs : List Addr, lkTup K c (cs.map V.ref) ∧ Paired (fun p a => lkTup K a [.str p.1, .int p.2]) fs cs := by
  obtain ⟨xs, hx, pr⟩ := h
  have : ∀ {fs : List (Str × Int)} {xs : List V}, Paired (fun d x => RepK K 3 d x) (fs.map fun p => D.tup [.str p.1, .int p.2]) xs → ∃ cs : List Addr, xs = cs.map V.ref ∧ Paired (fun p a => lkTup K a [.str p.1, .int p.2]) fs cs := by
    intro fs
    induction fs with
    | nil => intro xs h; cases h; exact ⟨[], rfl, .nil⟩
    | cons p fs ih =>
      intro xs h
      cases h with
      | cons h t =>
        obtain ⟨cs, rfl, pc⟩ := ih t
        obtain ⟨a, ys, rfl, ha, py⟩ := h
        refine ⟨a :: cs, rfl, .cons ?_ pc⟩
        cases py with
        | cons h1 t1 =>
          cases t1 with
          | cons h2 t2 =>
            cases t2
            have h1 : _ = V.str p.1 := h1
            have h2 : _ = V.int p.2 := h2
            subst h1 h2
            exact ha
  obtain ⟨cs, rfl, pc⟩ := this pr
  exact ⟨cs, hx, pc⟩
end Ssb

/-! try: .. except C0: .. except C as e: .. (C0 does not fit; e is not kept behind the suite). -/
namespace Ssb
open PySem PySem.Spec L2 PyProof.Rows
section
variable {X : Cx} {x0 x n : Str} {c0 c : Value} {i : Nat} {body suite suite0 : List Stmt} {b0 b₀ : Stmt} {np0 np pos pos0 pos' : Pos} {tb : WX → TS} {ts : Addr → Value → Option Addr → TS} {Wout : WX}
/-- the first clause is asked and does not fit -/
def wSkp (K : PySem.W.Frag) (c0 : Value) (W : WX) : WX := fun cls d σ H => PySem.W.exmOne K cls c0 = some false ∧ W cls d σ H
theorem ps_try_as2 (hs : X.stack = X.env :: X.outer) (hf : X.env.frame = some X.env.locals) (hN : X.N.Nodup) (hi : X.N[i]? = some n) (hln : X.env.kindOf n = some .local) (hc0 : Names X x0 c0) (hc : Names X x c) (tk : Takes X Wout)
    (hb : ∀ (W : WX) (pn : List (Addr × Obj)) (xe : Value → Shared → Prop), Takes (X.tr pn xe) W → PassesOwn (model X.prog X.w) X.A X.env xe → PSs (X.tr pn xe) body (tb W))
    (hsu : ∀ (a : Addr) (oe : Obj) (cls : Value) (d : Option Addr) (pn : List (Addr × Obj)), Zc cls d oe → (∃ vs, oe.data = .fields vs) → PSs (X.suite a ((a, oe) :: pn)) (b₀ :: suite) (ts a cls d)) :
    PS X (.Try body [.ExceptHandler (some (.Name x0 np0)) none (b0 :: suite0) pos0, .ExceptHandler (some (.Name x np)) (some n) (b₀ :: suite) pos'] [] [] pos) (fun D σ H => tb (wSkp X.K c0 (wAs X.K c i ts Wout D)) D σ H) := by
  refine ⟨fun pins s σ H D I h => ?_⟩
  have ok := I.ok
  have fr0 : X.A.frames = some (X.env :: X.outer) := by rw [ok.frames, hs]
  refine wpAny_Try_except (wpAny_mono ((hb (wSkp X.K c0 (wAs X.K c i ts Wout D)) (X.pn ++ pins) (fun e s₁ => wpAny (model X.prog X.w) X.A (noteFrame e X.env) (fun _ s₂ => wpAny (model X.prog X.w) X.A (setFlight e none) (fun _ s₃ => wpAny (model X.prog X.w) X.A (handleBy e X.env [.ExceptHandler (some (.Name x0 np0)) none (b0 :: suite0) pos0, .ExceptHandler (some (.Name x np)) (some n) (b₀ :: suite) pos']) (SP X pins D) X.xe s₃) X.xe s₂) X.xe s₁) (fun u s' xx => ?_) PassesOwn.looking).run [] s σ H D (I.toTry _) h) (fun f s1 hsp => ?_) (fun e s1 he => he))
  · obtain ⟨a, B, sI, pins', σ1, HH, cls, d, rfl, J0, nb, up, sky, na, os, ag, hb0, b, hb1, hyes, hno⟩ := xx
    have J : Inv X pins σ1 HH sI := J0.ofTry ok
    rw [show (X.tr (X.pn ++ pins) _).stack = X.env :: X.outer from hs] at sky
    refine Sky.land Zc.steady fr0 hf sky fun h3 fl3 up3 => ?_
    have J3 : Inv X pins σ1 HH { s' with heap := h3 } := J.landed nb fl3.1 (up.trans up3) os ag
    obtain ⟨oe3, vs3, he3, hz3, hd3⟩ := fl3.there
    have nfr : a ∉ frs (X.env :: X.outer) := fun hm => by
      obtain ⟨_, o', e', hnf⟩ := fl3.2.2.1.mem hm
      rw [he3] at e'; cases e'; exact hnf _ hd3
    have nL : a ≠ X.env.locals := fun z => nfr (List.mem_filterMap.mpr ⟨X.env, List.mem_cons_self, (by rw [hf, z])⟩)
    have nF : a ∉ X.fs := fun hm => (List.mem_filterMap.mp hm).elim fun e he => nfr (List.mem_filterMap.mpr ⟨e, List.mem_cons_of_mem _ he.1, he.2⟩)
    have young : sI.heap.get? a = none := by
      cases hg : sI.heap.get? a with
      | none => rfl
      | some o =>
        have := nb a o hg (by rw [show (X.tr (X.pn ++ pins) _).stack = X.env :: X.outer from hs]; exact nfr)
        rw [fl3.2.1] at this; cases this
    have n0 : ∀ b o, X.s_0.heap.get? b = some o → b ∉ X.ex → b ≠ a := fun b o q hx z => by
      obtain ⟨o', h'⟩ := J.base.there b o q hx
      rw [z, young] at h'; cases h'
    have np0 : ∀ p ∈ X.pn ++ pins, p.1 ≠ a := fun p hp z => by
      have := (J.pin p hp).1
      rw [z, young] at this; cases this
    have S3 := J3.suite he3 hd3 na nL nF
    have looks : PySem.W.Looks (model X.prog X.w) h3 (typeOf (.ref a)) cls := fun A Q E s k q => wpAny_typeOf_ref (k _ _ he3) (by rw [hz3.1]; exact q)
    have LM := PySem.W.exm_one (M := model X.prog X.w) J3.kIn looks hb1
    have LM0 := PySem.W.exm_one (M := model X.prog X.w) J3.kIn looks hb0
    have ask : ∀ {y : Str} {cy : Value} {npy : Pos}, Names X y cy → ∀ {Q : Value → Shared → Prop} {E : Value → Shared → Prop}, Q cy { s' with heap := h3 } → wpAny (model X.prog X.w) (X.A.mark (some (.ref a))) (eval (.Name y npy) X.env) Q E { s' with heap := h3 } := fun {y cy npy} hy {Q E} q => by
      obtain ⟨hg, hdb, hm | ⟨hm, hv, hnn⟩⟩ := hy
      · exact ld_glob S3 hg hm q hdb
      · exact ld_blt S3 hg hm hv q hnn hdb
    refine wpAny_handleBy_cons (codeAny_handlers_test (ask hc0 (LM0.here ?_))) (by intro q; cases q)
    show wpAny _ X.A (handleBy (.ref a) X.env [.ExceptHandler (some (.Name x np)) (some n) (b₀ :: suite) pos']) _ _ _
    refine wpAny_handleBy_cons (codeAny_handlers_test (ask hc (LM.here ?_))) (by intro q; cases q)
    cases b with
    | true =>
      refine codeAny_handlers_suite_as (HandSPX.lands_againZ fl3 fun h4 fl4 up4 => ?_)
      have J4 : Inv X pins σ1 HH { s' with heap := h4 } := J.landed nb fl4.1 ((up.trans up3).trans up4) os ag
      obtain ⟨oe4, vs4, he4, hz4, hd4⟩ := fl4.there
      refine store_ok (X := X.suite a ((a, oe4) :: (X.pn ++ pins))) (v := .ref a) (J4.suite he4 hd4 na nL nF) hN hi (.inl hln) rfl (fun s5 S5 => ?_) (.inr hln)
      refine wpAny_mono ((hsu a oe4 cls d (X.pn ++ pins) hz4 ⟨_, hd4⟩).run [] s5 _ HH _ S5 (hyes rfl a na)) (fun f s6 hsp => ?_) (fun _ _ z => False.elim z)
      have fin : ∀ {σ6 : L2.St} {H6 : Hp} {Q : Shared → Prop}, Inv (X.suite a ((a, oe4) :: (X.pn ++ pins))) [] σ6 H6 s6 → (∀ s7, Inv X pins (σ6.set i none) H6 s7 → Q s7) →
          wpAny (model X.prog X.w) X.A (do bindName X.env n .none; unbindBehindTheSuite X.env n pos') (fun _ s7 => Q s7) X.xe s6 := fun {σ6 H6 Q} S6 hq => gone_ok (S6.unsuite ok) hN hi hln hq
      cases f with
      | ret u => obtain ⟨v6, σ6, H6, S6, r6, q6⟩ := hsp; exact fin S6 fun s7 J7 => ⟨_, _, _, J7, r6, q6⟩
      | next => obtain ⟨σ6, H6, S6, q6⟩ := hsp; exact fin S6 fun s7 J7 => ⟨_, _, J7, q6⟩
      | brk => obtain ⟨σ6, H6, S6, q6⟩ := hsp; exact fin S6 fun s7 J7 => ⟨_, _, J7, q6⟩
      | cont => obtain ⟨σ6, H6, S6, q6⟩ := hsp; exact fin S6 fun s7 J7 => ⟨_, _, J7, q6⟩
    | false =>
      show wpAny _ X.A (handleBy (.ref a) X.env []) _ _ _
      obtain ⟨k1, k2, k3, oe, vs, T, oT, ts', he, hz, hd, h1, hr⟩ := id fl3
      refine wpAny_handleBy_nil ?_
      unfold PySem.passOn
      refine wpAny_bind (wpAny_field he hd h1 ?_)
      rw [if_neg (show ¬ ((Value.ref T == Value.none) = true) by simp)]
      have go : wpAny (model X.prog X.w) X.A (setFlight (.ref a) X.env.frame) (fun _ s4 => wpAny (model X.prog X.w) X.A (throw (.ref a) : Sem Flow) (SP X pins D) X.xe s4) X.xe { s' with heap := h3 } := by
        rw [hf]
        exact HandSPX.setFlight_upZ fl3 fun h4 hh4 up4 => wpAny_throw (tk _ _ ⟨a, B, sI, pins, σ1, HH, cls, d, rfl, J, nb, (up.trans up3).trans up4, .inr (.inr (by rw [hs]; exact hh4)), na, os, ag, hno rfl⟩)
      first
        | exact wpAny_bind go
        | exact wpAny_bind (wpAny_pure (wpAny_bind go))
  · cases f with
    | ret u => obtain ⟨v, σ1, HH, J, r, q⟩ := hsp; exact ⟨v, σ1, HH, J.ofTry ok, r, q⟩
    | next => obtain ⟨σ1, HH, J, q⟩ := hsp; exact wpAny_execs_nil ⟨σ1, HH, J.ofTry ok, q⟩
    | brk => obtain ⟨σ1, HH, J, q⟩ := hsp; exact ⟨σ1, HH, J.ofTry ok, q⟩
    | cont => obtain ⟨σ1, HH, J, q⟩ := hsp; exact ⟨σ1, HH, J.ofTry ok, q⟩
end
end Ssb

/-! try: .. except C1 as e: .. except C2 as e: .. except C0: .. (one of the first two fits). -/
namespace Ssb
open PySem PySem.Spec L2 PyProof.Rows
section
variable {X : Cx} {x0 x1 x n : Str} {c1 c : Value} {i : Nat} {body suite suite1 suite0 : List Stmt} {b0 b₀ b₁ : Stmt} {nq0 np1 np pos pos0 pos1 pos' : Pos} {tb : WX → TS} {ts ts1 : Addr → Value → Option Addr → TS} {Wout : WX}
/-- the first of two clauses that fits -/
def wTwo (K : PySem.W.Frag) (c1 c : Value) (i : Nat) (ts1 ts : Addr → Value → Option Addr → TS) (D : Ends) : WX := fun cls d σ H => ∃ b, PySem.W.exmOne K cls c1 = some b ∧
  (b = true → ∀ a, H a = none → ts1 a cls d { nx := fun σ' H' => D.nx (σ'.set i none) H', rt := D.rt, bk := fun σ' H' => D.bk (σ'.set i none) H', ct := fun σ' H' => D.ct (σ'.set i none) H' } (σ.set i (some (.ref a))) H) ∧
  (b = false → PySem.W.exmOne K cls c = some true ∧ ∀ a, H a = none → ts a cls d { nx := fun σ' H' => D.nx (σ'.set i none) H', rt := D.rt, bk := fun σ' H' => D.bk (σ'.set i none) H', ct := fun σ' H' => D.ct (σ'.set i none) H' } (σ.set i (some (.ref a))) H)
theorem ps_try_as3 (hs : X.stack = X.env :: X.outer) (hf : X.env.frame = some X.env.locals) (hN : X.N.Nodup) (hi : X.N[i]? = some n) (hln : X.env.kindOf n = some .local) (hc1 : Names X x1 c1) (hc : Names X x c)
    (hb : ∀ (W : WX) (pn : List (Addr × Obj)) (xe : Value → Shared → Prop), Takes (X.tr pn xe) W → PassesOwn (model X.prog X.w) X.A X.env xe → PSs (X.tr pn xe) body (tb W))
    (hsu1 : ∀ (a : Addr) (oe : Obj) (cls : Value) (d : Option Addr) (pn : List (Addr × Obj)), Zc cls d oe → (∃ vs, oe.data = .fields vs) → PSs (X.suite a ((a, oe) :: pn)) (b₁ :: suite1) (ts1 a cls d))
    (hsu : ∀ (a : Addr) (oe : Obj) (cls : Value) (d : Option Addr) (pn : List (Addr × Obj)), Zc cls d oe → (∃ vs, oe.data = .fields vs) → PSs (X.suite a ((a, oe) :: pn)) (b₀ :: suite) (ts a cls d)) :
    PS X (.Try body [.ExceptHandler (some (.Name x1 np1)) (some n) (b₁ :: suite1) pos1, .ExceptHandler (some (.Name x np)) (some n) (b₀ :: suite) pos', .ExceptHandler (some (.Name x0 nq0)) none (b0 :: suite0) pos0] [] [] pos) (fun D σ H => tb (wTwo X.K c1 c i ts1 ts D) D σ H) := by
  refine ⟨fun pins s σ H D I h => ?_⟩
  have ok := I.ok
  have fr0 : X.A.frames = some (X.env :: X.outer) := by rw [ok.frames, hs]
  refine wpAny_Try_except (wpAny_mono ((hb (wTwo X.K c1 c i ts1 ts D) (X.pn ++ pins) (fun e s₁ => wpAny (model X.prog X.w) X.A (noteFrame e X.env) (fun _ s₂ => wpAny (model X.prog X.w) X.A (setFlight e none) (fun _ s₃ => wpAny (model X.prog X.w) X.A (handleBy e X.env [.ExceptHandler (some (.Name x1 np1)) (some n) (b₁ :: suite1) pos1, .ExceptHandler (some (.Name x np)) (some n) (b₀ :: suite) pos', .ExceptHandler (some (.Name x0 nq0)) none (b0 :: suite0) pos0]) (SP X pins D) X.xe s₃) X.xe s₂) X.xe s₁) (fun u s' xx => ?_) PassesOwn.looking).run [] s σ H D (I.toTry _) h) (fun f s1 hsp => ?_) (fun e s1 he => he))
  · obtain ⟨a, B, sI, pins', σ1, HH, cls, d, rfl, J0, nb, up, sky, na, os, ag, b, hb1, hyes, hno⟩ := xx
    have J : Inv X pins σ1 HH sI := J0.ofTry ok
    rw [show (X.tr (X.pn ++ pins) _).stack = X.env :: X.outer from hs] at sky
    refine Sky.land Zc.steady fr0 hf sky fun h3 fl3 up3 => ?_
    have J3 : Inv X pins σ1 HH { s' with heap := h3 } := J.landed nb fl3.1 (up.trans up3) os ag
    obtain ⟨oe3, vs3, he3, hz3, hd3⟩ := fl3.there
    have nfr : a ∉ frs (X.env :: X.outer) := fun hm => by
      obtain ⟨_, o', e', hnf⟩ := fl3.2.2.1.mem hm
      rw [he3] at e'; cases e'; exact hnf _ hd3
    have nL : a ≠ X.env.locals := fun z => nfr (List.mem_filterMap.mpr ⟨X.env, List.mem_cons_self, (by rw [hf, z])⟩)
    have nF : a ∉ X.fs := fun hm => (List.mem_filterMap.mp hm).elim fun e he => nfr (List.mem_filterMap.mpr ⟨e, List.mem_cons_of_mem _ he.1, he.2⟩)
    have young : sI.heap.get? a = none := by
      cases hg : sI.heap.get? a with
      | none => rfl
      | some o =>
        have := nb a o hg (by rw [show (X.tr (X.pn ++ pins) _).stack = X.env :: X.outer from hs]; exact nfr)
        rw [fl3.2.1] at this; cases this
    have n0 : ∀ b o, X.s_0.heap.get? b = some o → b ∉ X.ex → b ≠ a := fun b o q hx z => by
      obtain ⟨o', h'⟩ := J.base.there b o q hx
      rw [z, young] at h'; cases h'
    have np0 : ∀ p ∈ X.pn ++ pins, p.1 ≠ a := fun p hp z => by
      have := (J.pin p hp).1
      rw [z, young] at this; cases this
    have S3 := J3.suite he3 hd3 na nL nF
    have looks : PySem.W.Looks (model X.prog X.w) h3 (typeOf (.ref a)) cls := fun A Q E s k q => wpAny_typeOf_ref (k _ _ he3) (by rw [hz3.1]; exact q)
    have LM := PySem.W.exm_one (M := model X.prog X.w) J3.kIn looks hb1
    have ask : ∀ {y : Str} {cy : Value} {npy : Pos}, Names X y cy → ∀ {Q : Value → Shared → Prop} {E : Value → Shared → Prop}, Q cy { s' with heap := h3 } → wpAny (model X.prog X.w) (X.A.mark (some (.ref a))) (eval (.Name y npy) X.env) Q E { s' with heap := h3 } := fun {y cy npy} hy {Q E} q => by
      obtain ⟨hg, hdb, hm | ⟨hm, hv, hnn⟩⟩ := hy
      · exact ld_glob S3 hg hm q hdb
      · exact ld_blt S3 hg hm hv q hnn hdb
    refine wpAny_handleBy_cons (codeAny_handlers_test (ask hc1 (LM.here ?_))) (by intro q; cases q)
    cases b with
    | true =>
      refine codeAny_handlers_suite_as (HandSPX.lands_againZ fl3 fun h4 fl4 up4 => ?_)
      have J4 : Inv X pins σ1 HH { s' with heap := h4 } := J.landed nb fl4.1 ((up.trans up3).trans up4) os ag
      obtain ⟨oe4, vs4, he4, hz4, hd4⟩ := fl4.there
      refine store_ok (X := X.suite a ((a, oe4) :: (X.pn ++ pins))) (v := .ref a) (J4.suite he4 hd4 na nL nF) hN hi (.inl hln) rfl (fun s5 S5 => ?_) (.inr hln)
      refine wpAny_mono ((hsu1 a oe4 cls d (X.pn ++ pins) hz4 ⟨_, hd4⟩).run [] s5 _ HH _ S5 (hyes rfl a na)) (fun f s6 hsp => ?_) (fun _ _ z => False.elim z)
      have fin : ∀ {σ6 : L2.St} {H6 : Hp} {Q : Shared → Prop}, Inv (X.suite a ((a, oe4) :: (X.pn ++ pins))) [] σ6 H6 s6 → (∀ s7, Inv X pins (σ6.set i none) H6 s7 → Q s7) →
          wpAny (model X.prog X.w) X.A (do bindName X.env n .none; unbindBehindTheSuite X.env n pos1) (fun _ s7 => Q s7) X.xe s6 := fun {σ6 H6 Q} S6 hq => gone_ok (S6.unsuite ok) hN hi hln hq
      cases f with
      | ret u => obtain ⟨v6, σ6, H6, S6, r6, q6⟩ := hsp; exact fin S6 fun s7 J7 => ⟨_, _, _, J7, r6, q6⟩
      | next => obtain ⟨σ6, H6, S6, q6⟩ := hsp; exact fin S6 fun s7 J7 => ⟨_, _, J7, q6⟩
      | brk => obtain ⟨σ6, H6, S6, q6⟩ := hsp; exact fin S6 fun s7 J7 => ⟨_, _, J7, q6⟩
      | cont => obtain ⟨σ6, H6, S6, q6⟩ := hsp; exact fin S6 fun s7 J7 => ⟨_, _, J7, q6⟩
    | false =>
      obtain ⟨hb2, hyes⟩ := hno rfl
      have LM2 := PySem.W.exm_one (M := model X.prog X.w) J3.kIn looks hb2
      show wpAny _ X.A (handleBy (.ref a) X.env [.ExceptHandler (some (.Name x np)) (some n) (b₀ :: suite) pos', .ExceptHandler (some (.Name x0 nq0)) none (b0 :: suite0) pos0]) _ _ _
      refine wpAny_handleBy_cons (codeAny_handlers_test (ask hc (LM2.here ?_))) (by intro q; cases q)
      refine codeAny_handlers_suite_as (HandSPX.lands_againZ fl3 fun h4 fl4 up4 => ?_)
      have J4 : Inv X pins σ1 HH { s' with heap := h4 } := J.landed nb fl4.1 ((up.trans up3).trans up4) os ag
      obtain ⟨oe4, vs4, he4, hz4, hd4⟩ := fl4.there
      refine store_ok (X := X.suite a ((a, oe4) :: (X.pn ++ pins))) (v := .ref a) (J4.suite he4 hd4 na nL nF) hN hi (.inl hln) rfl (fun s5 S5 => ?_) (.inr hln)
      refine wpAny_mono ((hsu a oe4 cls d (X.pn ++ pins) hz4 ⟨_, hd4⟩).run [] s5 _ HH _ S5 (hyes a na)) (fun f s6 hsp => ?_) (fun _ _ z => False.elim z)
      have fin : ∀ {σ6 : L2.St} {H6 : Hp} {Q : Shared → Prop}, Inv (X.suite a ((a, oe4) :: (X.pn ++ pins))) [] σ6 H6 s6 → (∀ s7, Inv X pins (σ6.set i none) H6 s7 → Q s7) →
          wpAny (model X.prog X.w) X.A (do bindName X.env n .none; unbindBehindTheSuite X.env n pos') (fun _ s7 => Q s7) X.xe s6 := fun {σ6 H6 Q} S6 hq => gone_ok (S6.unsuite ok) hN hi hln hq
      cases f with
      | ret u => obtain ⟨v6, σ6, H6, S6, r6, q6⟩ := hsp; exact fin S6 fun s7 J7 => ⟨_, _, _, J7, r6, q6⟩
      | next => obtain ⟨σ6, H6, S6, q6⟩ := hsp; exact fin S6 fun s7 J7 => ⟨_, _, J7, q6⟩
      | brk => obtain ⟨σ6, H6, S6, q6⟩ := hsp; exact fin S6 fun s7 J7 => ⟨_, _, J7, q6⟩
      | cont => obtain ⟨σ6, H6, S6, q6⟩ := hsp; exact fin S6 fun s7 J7 => ⟨_, _, J7, q6⟩
  · cases f with
    | ret u => obtain ⟨v, σ1, HH, J, r, q⟩ := hsp; exact ⟨v, σ1, HH, J.ofTry ok, r, q⟩
    | next => obtain ⟨σ1, HH, J, q⟩ := hsp; exact wpAny_execs_nil ⟨σ1, HH, J.ofTry ok, q⟩
    | brk => obtain ⟨σ1, HH, J, q⟩ := hsp; exact ⟨σ1, HH, J.ofTry ok, q⟩
    | cont => obtain ⟨σ1, HH, J, q⟩ := hsp; exact ⟨σ1, HH, J.ofTry ok, q⟩
end
end Ssb

/-! == and != of deep data that are alike: lists, tuples and dicts in one another. -/
namespace Ssb
open PySem PySem.Spec PyProof.Rows L2 PySem.SeqAt PySem.AutoSeq1
/-- names of a dict are different, all the way down -/
def kN : Nat → D → Prop
  | n + 1, .lst l => ∀ x ∈ l, kN n x
  | n + 1, .tup l => ∀ x ∈ l, kN n x
  | n + 1, .dic l => (l.map (·.1)).Nodup ∧ ∀ p ∈ l, kN n p.2
  | _, _ => True
theorem keys_pr {F : D → V → Prop} : ∀ {l : List (Str × D)} {es : List (Key × V)}, Paired (fun (q : Str × D) (e : Key × V) => e.1 = Sum.inr q.1 ∧ F q.2 e.2) l es → es.map (·.1) = (l.map (·.1)).map Sum.inr
  | _, _, .nil => rfl
  | _, _, .cons h t => by rw [List.map_cons, List.map_cons, List.map_cons, keys_pr t, h.1]
theorem val_mem {es : List (Key × V)} {k : Key} {v : V} (nd : (es.map (·.1)).Nodup) (h : (k, v) ∈ es) : valV es k = some v := by
  induction es with
  | nil => cases h
  | cons e es ih =>
    rw [List.map_cons, List.nodup_cons] at nd
    rw [vV_cons]
    rcases List.mem_cons.mp h with h | h
    · rw [← h, if_pos rfl]
    · rw [if_neg fun z => nd.1 (List.mem_map.mpr ⟨_, h, z.symm⟩)]
      exact ih nd.2 h
theorem all_tt {n : Nat} : ((List.range n).all fun _ => true) = true := List.all_eq_true.mpr fun _ _ => rfl
theorem vals_i {xs : List V} {us : List Value} (r : Vals xs us) {j : Nat} (h : j < us.length) : ∃ x, xs[j]? = some x ∧ RelV x us[j] := by
  induction r generalizing j with
  | nil => exact absurd h (Nat.not_lt_zero j)
  | cons a b ih =>
    cases j with
    | zero => exact ⟨_, rfl, a⟩
    | succ j => exact ih (Nat.lt_of_succ_lt_succ h)
section
variable {X : Cx} {pins : List (Addr × Obj)} {σ : L2.St} {H : Hp} {s : Shared}
theorem eqT_leaf {n : Nat} {x : V} {v u : Value} (f : flatV x = true) (e : eqV x x = true) (rx : RelV x v) (ry : RelV x u) : PySem.W.EqTree X.prog X.w s n v u true := by
  rw [← e]; exact .leaf fun A hu => eqAt_V rx ry f f
theorem kv_in {κ : Type} {ks : List (κ × V)} {va : List (κ × Value)} (ra : KV ks va) : ∀ {k : κ} {v : Value}, (k, v) ∈ va → ∃ x, (k, x) ∈ ks ∧ RelV x v := by
  unfold KV at ra
  induction ra with
  | nil => intro k v h; exact nomatch h
  | @cons p q ps qs h t ih =>
    intro k v hm
    rcases List.mem_cons.mp hm with hm | hm
    · refine ⟨p.2, ?_, ?_⟩
      · have : p.1 = k := by rw [h.1, ← hm]
        rw [← this]; exact List.mem_cons_self
      · rw [← hm] at h; exact h.2
    · obtain ⟨x, h1, h2⟩ := ih hm
      exact ⟨x, List.mem_cons_of_mem _ h1, h2⟩
theorem items_T {F : D → V → V → Prop} {n : Nat} {l : List D} {xs ys : List V} {us ws : List Value} {F1 F2 : D → V → Prop} (p1 : Paired F1 l xs) (p2 : Paired F2 l ys) (r1 : Vals xs us) (r2 : Vals ys ws)
    (ih : ∀ d ∈ l, ∀ x y v u, F1 d x → F2 d y → RelV x v → RelV y u → PySem.W.EqTree X.prog X.w s n v u true) : us.toArray.size = ws.toArray.size ∧ ∀ j (h1 : j < us.toArray.size) (h2 : j < ws.toArray.size), PySem.W.EqTree X.prog X.w s n us.toArray[j] ws.toArray[j] true := by
  refine ⟨by rw [List.size_toArray, List.size_toArray, ← r1.length, ← r2.length, ← pair_len p1, ← pair_len p2], fun j h1 h2 => ?_⟩
  obtain ⟨x, hx, rx⟩ := vals_i r1 (j := j) (by simpa using h1)
  obtain ⟨y, hy, ry⟩ := vals_i r2 (j := j) (by simpa using h2)
  obtain ⟨d1, hd1, q1⟩ := pair_back p1 hx
  obtain ⟨d2, hd2, q2⟩ := pair_back p2 hy
  rw [hd1] at hd2; cases hd2
  have := ih _ (List.mem_of_getElem? hd1) _ _ _ _ q1 q2 rx ry
  simpa using this
theorem dic_T {n : Nat} {l : List (Str × D)} {ks ls : List (Key × V)} {va vb : List (Key × Value)} {F1 F2 : D → V → Prop} (pr : Paired (fun (q : Str × D) (e : Key × V) => e.1 = Sum.inr q.1 ∧ F1 q.2 e.2) l ks) (pr' : Paired (fun (q : Str × D) (e : Key × V) => e.1 = Sum.inr q.1 ∧ F2 q.2 e.2) l ls)
    (ra : KV ks va) (rb : KV ls vb) (nd : (l.map (·.1)).Nodup) (ih : ∀ p ∈ l, ∀ x y v u, F1 p.2 x → F2 p.2 y → RelV x v → RelV y u → PySem.W.EqTree X.prog X.w s n v u true) :
    (va.length == vb.length && va.all fun p => (valueAt vb p.1).isSome && (fun _ => true) p.1) = true ∧ ∀ k v y, (k, v) ∈ va → valueAt vb k = some y → PySem.W.EqTree X.prog X.w s n v y true := by
  have k2 := keys_pr pr'
  have nd : ((l.map (·.1)).map (Sum.inr : Str → Key)).Nodup := List.Pairwise.map _ (fun a b h z => h (Sum.inr.inj z)) nd
  have there : ∀ {k : Key} {v : Value}, (k, v) ∈ va → ∃ (i : Nat) (q : Str × D) (x y : V), l[i]? = some q ∧ k = Sum.inr q.1 ∧ RelV x v ∧ F1 q.2 x ∧ valV ls k = some y ∧ F2 q.2 y := by
    intro k v hm
    obtain ⟨x, hx, rx⟩ := kv_in ra hm
    obtain ⟨i, hi⟩ := List.getElem?_of_mem hx
    obtain ⟨q, hq, e1, q1⟩ := pair_back pr hi
    obtain ⟨⟨k', y⟩, hy, e2, q2⟩ := pair_at pr' hq
    have e1 : k = Sum.inr q.1 := e1
    have e2 : k' = Sum.inr q.1 := e2
    refine ⟨i, q, x, y, hq, e1, rx, q1, ?_, q2⟩
    rw [e1, ← e2]
    exact val_mem (by rw [k2]; exact nd) (List.mem_of_getElem? hy)
  refine ⟨?_, fun k v y hm hv => ?_⟩
  · have : va.length = vb.length := by rw [← ra.length, ← rb.length, ← pair_len pr, ← pair_len pr']
    rw [this, beq_self_eq_true, Bool.true_and]
    refine List.all_eq_true.mpr fun p hp => ?_
    obtain ⟨i, q, x, y, _, _, _, _, hy, _⟩ := there (k := p.1) (v := p.2) hp
    have := rb.val p.1
    rw [hy] at this
    cases hv : valueAt vb p.1 with
    | none => rw [hv] at this; exact this.elim
    | some u => rfl
  · obtain ⟨i, q, x, y', hq, _, rx, q1, hy, q2⟩ := there hm
    have := rb.val k
    rw [hv, hy] at this
    exact ih _ (List.mem_of_getElem? hq) _ _ _ _ q1 q2 rx this
theorem eqT_rep (I : Inv X pins σ H s) : ∀ {n m1 m2 : Nat} {S1 S2 : Addr → Prop} {d : D} {x y : V} {v u : Value}, Rep H m1 S1 d x → Rep H m2 S2 d y → m1 ≤ n → kN n d → RelV x v → RelV y u → PySem.W.EqTree X.prog X.w s n v u true := by
  intro n
  induction n with
  | zero =>
    intro m1 m2 S1 S2 d x y v u h1 h2 hn
    have : m1 = 0 := by omega
    subst this; exact h1.elim
  | succ n ih =>
    intro m1 m2 S1 S2 d x y v u h1 h2 hn hk rx ry
    cases m1 with
    | zero => exact h1.elim
    | succ m1 =>
    cases m2 with
    | zero => exact h2.elim
    | succ m2 =>
    cases d with
    | non => rw [show x = .non from h1] at rx; rw [show y = .non from h2] at ry; exact eqT_leaf (X := X) (x := .non) rfl rfl rx ry
    | bl b => rw [show x = .bl b from h1] at rx; rw [show y = .bl b from h2] at ry; exact eqT_leaf (X := X) (x := .bl b) rfl (by simp [eqV]) rx ry
    | int i => rw [show x = .int i from h1] at rx; rw [show y = .int i from h2] at ry; exact eqT_leaf (X := X) (x := .int i) rfl (by simp [eqV]) rx ry
    | str t => rw [show x = .str t from h1] at rx; rw [show y = .str t from h2] at ry; exact eqT_leaf (X := X) (x := .str t) rfl (by simp [eqV]) rx ry
    | lst l =>
      obtain ⟨a, xs, rfl, _, ha, _, pr⟩ := h1
      obtain ⟨c, ys, rfl, _, hc, _, pr'⟩ := h2
      cases rx; cases ry
      by_cases e : a = c
      · subst e; exact .same
      obtain ⟨us, r1, p1, _⟩ := I.list (Evl.sq_of ha)
      obtain ⟨ws, r2, p2, _⟩ := I.list (Evl.sq_of hc)
      obtain ⟨sz, it⟩ := items_T (F := fun _ _ _ => True) pr pr' r1 r2 fun d hd x y v u q1 q2 rx ry => ih q1 q2 (by omega) (hk d hd) rx ry
      rw [← all_tt (n := us.toArray.size)]
      exact .lists e p1.isList p2.isList sz it
    | tup l =>
      obtain ⟨a, xs, rfl, ha, _, pr⟩ := h1
      obtain ⟨c, ys, rfl, hc, _, pr'⟩ := h2
      cases rx; cases ry
      by_cases e : a = c
      · subst e; exact .same
      obtain ⟨us, r1, p1, _⟩ := I.tuple (Evl.st_of ha)
      obtain ⟨ws, r2, p2, _⟩ := I.tuple (Evl.st_of hc)
      obtain ⟨sz, it⟩ := items_T (F := fun _ _ _ => True) pr pr' r1 r2 fun d hd x y v u q1 q2 rx ry => ih q1 q2 (by omega) (hk d hd) rx ry
      have et : ((List.range (min us.toArray.size ws.toArray.size)).all (fun _ => true) && us.toArray.size == ws.toArray.size) = true := by rw [all_tt, sz]; simp
      rw [← et]
      exact .tuples e p1 p2 it
    | dic l =>
      obtain ⟨a, ks, rfl, _, ha, _, pr⟩ := h1
      obtain ⟨c, ls, rfl, _, hc, _, pr'⟩ := h2
      cases rx; cases ry
      by_cases e : a = c
      · subst e; exact .same
      obtain ⟨_, ya, va, ra, da⟩ := (show ObjOk X.prog X.w H s.heap a (.dK ks) from I.hok a _ ha)
      obtain ⟨_, yb, vb, rb, db⟩ := (show ObjOk X.prog X.w H s.heap c (.dK ls) from I.hok c _ hc)
      obtain ⟨et, it⟩ := dic_T pr pr' ra rb hk.1 fun p hp x y v u q1 q2 rx ry => ih q1 q2 (by omega) (hk.2 p hp) rx ry
      rw [← et]
      exact .dicts (knd := mixKind X.prog X.w) (e := fun _ => true) e ya yb da db it
end
/-- two tuples that are alike, by != -/
theorem ne_like {prog : Program} {w : World} (l b : Addr) (us ws : Array Value) (n m : Nat) (d d2 : Option Addr) (t t2 : Array (Option Value)) (sz : us.size = ws.size) :
    MeetsIn prog w (Builtin.«tuple.__ne__» ⟨[.ref l, .ref b], []⟩) (fun A R s => s.heap.get? l = some ⟨.type "tuple", d, .seq us n, t⟩ ∧ s.heap.get? b = some ⟨.type "tuple", d2, .seq ws m, t2⟩ ∧ (∀ p ∈ us.toList.zip ws.toList, EqIn prog w A.in1 s p.1 p.2 true) ∧ R (.ok (.ret (.bool false))) s) :=
  .of_wp fun A R s h => by
    obtain ⟨H, c1, c2, c3, c4⟩ := s
    obtain ⟨hl, hb, hq, hr⟩ := h
    have f2 := AutoSeq1.sub_tuple_tuple
    wp_walk using wpAny_loadPart' hl, wpAny_loadPart' hb, wpAny_forIn_list _ (fun rest b s' => b.1 = none ∧ s' = ⟨H, c1, c2, c3, c4⟩ ∧ ∀ p ∈ rest, EqIn prog w A.in1 ⟨H, c1, c2, c3, c4⟩ p.1 p.2 true) _
    case turn =>
      rintro ⟨y, x⟩ rest b s' ⟨_, rfl, hp⟩
      refine wpAny_bind (hp _ List.mem_cons_self _ _ ?_)
      wp_walk
      exact ⟨rfl, rfl, fun p h => hp p (List.mem_cons_of_mem _ h)⟩
    case fin =>
      rintro ⟨b1, b2⟩ s' ⟨hb', rfl, _⟩
      cases (show b1 = none from hb')
      wp_walk
      exact ⟨_, rfl, by simpa [Builtin.Tuple.tupleCompareSizes, bne, sz] using hr⟩
    case h => exact ⟨rfl, rfl, hq⟩
section
variable {X : Cx}
/-- a != b, two tuples of the same data -/
def rNeT : R2 := fun x y H Q => ∃ (m1 m2 : Nat) (S1 S2 : Addr → Prop) (l : List D), m1 ≤ 50 ∧ Rep H m1 S1 (.tup l) x ∧ Rep H m2 S2 (.tup l) y ∧ kN m1 (.tup l) ∧ Q (.bl false) H
theorem op_neT (hu : X.A.units + 64 < cLine) : OpR X (compareOp .NotEq) rNeT := by
  intro pins s σ H x y v u Q I rx ry h
  obtain ⟨m1, m2, S1, S2, l, hm, h1, h2, hk, q⟩ := h
  cases m1 with
  | zero => exact h1.elim
  | succ m1 =>
  cases m2 with
  | zero => exact h2.elim
  | succ m2 =>
  obtain ⟨a, xs, rfl, ha, _, pr⟩ := h1
  obtain ⟨c, ys, rfl, hc, _, pr'⟩ := h2
  cases rx; cases ry
  obtain ⟨us, r1, p1, _⟩ := I.tuple (Evl.st_of ha)
  obtain ⟨ws, r2, p2, _⟩ := I.tuple (Evl.st_of hc)
  obtain ⟨sz, it⟩ := items_T (F := fun _ _ _ => True) pr pr' r1 r2 fun d hd x y v u q1 q2 rx ry => eqT_rep I q1 q2 (Nat.le_refl _) (hk d hd) rx ry
  obtain ⟨⟨cls, dd, data, sl⟩, ho, hcl, n, hd⟩ := id p1
  obtain ⟨⟨cls2, dd2, data2, sl2⟩, ho2, hcl2, n2, hd2⟩ := id p2
  simp only at hcl hd hcl2 hd2
  subst hcl hd hcl2 hd2
  refine wpAny_richCompare_same_room (T := "tuple") (op := .NotEq) ⟨_, ho, rfl⟩ ⟨_, ho2, rfl⟩ PySem.F.slot_tuple_ne (call_meetsIn PySem.F.slot_tuple_ne ⟨_, ho, rfl⟩ PySem.F.entry_tuple_ne (PySem.F.args_tuple_ne_2 _ _) (ne_like a c us.toArray ws.toArray n n2 dd dd2 sl sl2 sz) ⟨ho, ho2, fun p hp => ?_, (fun z => nomatch z), ?_⟩) (by omega)
  · obtain ⟨j, hj⟩ := List.getElem?_of_mem hp
    rw [List.getElem?_zip_eq_some] at hj
    obtain ⟨h1, h2⟩ := hj
    obtain ⟨l1, e1⟩ := List.getElem?_eq_some_iff.mp h1
    obtain ⟨l2, e2⟩ := List.getElem?_eq_some_iff.mp h2
    have := (it j (by simpa using l1) (by simpa using l2)).at X.A.in1 (by show X.A.units + 1 + _ < cLine; omega)
    rw [← e1, ← e2]
    simpa using this
  · exact ⟨.bl false, H, I, rfl, q⟩
end
section
variable {X : Cx}
/-- a == b, the same data twice: two dicts or two tuples -/
def rEqT : R2 := fun x y H Q => ∃ (m1 m2 : Nat) (S1 S2 : Addr → Prop) (d : D), m1 ≤ 50 ∧ ((∃ l, d = .tup l) ∨ ∃ l, d = .dic l) ∧ Rep H m1 S1 d x ∧ Rep H m2 S2 d y ∧ kN m1 d ∧ Q (.bl true) H
theorem op_eqT (hu : X.A.units + 64 < cLine) : OpR X (compareOp .Eq) rEqT := by
  intro pins s σ H x y v u Q I rx ry h
  obtain ⟨m1, m2, S1, S2, d, hm, hd, h1, h2, hk, q⟩ := h
  cases m1 with
  | zero => exact h1.elim
  | succ m1 =>
  cases m2 with
  | zero => exact h2.elim
  | succ m2 =>
  rcases hd with ⟨l, rfl⟩ | ⟨l, rfl⟩
  · obtain ⟨a, xs, rfl, ha, _, pr⟩ := h1
    obtain ⟨c, ys, rfl, hc, _, pr'⟩ := h2
    cases rx; cases ry
    obtain ⟨us, r1, p1, _⟩ := I.tuple (Evl.st_of ha)
    obtain ⟨ws, r2, p2, _⟩ := I.tuple (Evl.st_of hc)
    obtain ⟨sz, it⟩ := items_T (F := fun _ _ _ => True) pr pr' r1 r2 fun d hd x y v u q1 q2 rx ry => eqT_rep I q1 q2 (Nat.le_refl _) (hk d hd) rx ry
    have et : ((List.range (min us.toArray.size ws.toArray.size)).all (fun _ => true) && us.toArray.size == ws.toArray.size) = true := by rw [all_tt, sz]; simp
    refine PySem.W.eq_tuplesT (n := m1) p1 p2 it (by omega) ?_
    rw [et]
    exact ⟨.bl true, H, I, rfl, q⟩
  · obtain ⟨a, ks, rfl, _, ha, _, pr⟩ := h1
    obtain ⟨c, ls, rfl, _, hc, _, pr'⟩ := h2
    cases rx; cases ry
    obtain ⟨_, ya, va, ra, da⟩ := (show ObjOk X.prog X.w H s.heap a (.dK ks) from I.hok a _ ha)
    obtain ⟨_, yb, vb, rb, db⟩ := (show ObjOk X.prog X.w H s.heap c (.dK ls) from I.hok c _ hc)
    obtain ⟨et, it⟩ := dic_T pr pr' ra rb hk.1 fun p hp x y v u q1 q2 rx ry => eqT_rep I q1 q2 (Nat.le_refl _) (hk.2 p hp) rx ry
    refine PySem.W.eq_dictsT (knd := mixKind X.prog X.w) (n := m1) (e := fun _ => true) ya yb da db it (by omega) ?_
    rw [et]
    exact ⟨.bl true, H, I, rfl, q⟩
end
end Ssb

namespace Pk
open PySem PySem.Spec PyProof.Rows L2 Ssb
/-- the i-th statement of the text -/
def topS (i : Nat) : Stmt := PySem.Challenge.pw_statestay_k54_whole_deeds_there_and_back.main.body.getD i (.Pass ⟨0, 0, 0, 0⟩)
abbrev s_fresh : Stmt := topS 1
theorem sc_fresh : FnScope ["value", "one", "key"] ["value"] (defScope s_fresh) := ⟨rfl, rfl, rfl, by decide +kernel, rfl, by decide +kernel, by decide +kernel⟩
abbrev s_is_word : Stmt := topS 10
theorem sc_is_word : FnScope ["value", "letter"] ["value"] (defScope s_is_word) := ⟨rfl, rfl, rfl, by decide +kernel, rfl, by decide +kernel, by decide +kernel⟩
abbrev s_are_words : Stmt := topS 11
theorem sc_are_words : FnScope ["values", "least", "most", "value"] ["values", "least", "most"] (defScope s_are_words) := ⟨rfl, rfl, rfl, by decide +kernel, rfl, by decide +kernel, by decide +kernel⟩
abbrev s_is_integer : Stmt := topS 12
theorem sc_is_integer : FnScope ["value", "least", "most"] ["value", "least", "most"] (defScope s_is_integer) := ⟨rfl, rfl, rfl, by decide +kernel, rfl, by decide +kernel, by decide +kernel⟩
abbrev s_has_names : Stmt := topS 13
theorem sc_has_names : FnScope ["value", "names", "name"] ["value", "names"] (defScope s_has_names) := ⟨rfl, rfl, rfl, by decide +kernel, rfl, by decide +kernel, by decide +kernel⟩
abbrev s_is_named : Stmt := topS 14
theorem sc_is_named : FnScope ["value", "most", "key"] ["value", "most"] (defScope s_is_named) := ⟨rfl, rfl, rfl, by decide +kernel, rfl, by decide +kernel, by decide +kernel⟩
abbrev s_has_form : Stmt := topS 15
theorem sc_has_form : FnScope ["value", "forms"] ["value", "forms"] (defScope s_has_form) := ⟨rfl, rfl, rfl, by decide +kernel, rfl, by decide +kernel, by decide +kernel⟩
abbrev s_wrong_part : Stmt := topS 17
theorem sc_wrong_part : FnScope ["flags", "lists", "rows", "name", "parent", "fields"] ["flags", "lists"] (defScope s_wrong_part) := ⟨rfl, rfl, rfl, by decide +kernel, rfl, by decide +kernel, by decide +kernel⟩
abbrev s_are_lists : Stmt := topS 18
theorem sc_are_lists : FnScope ["lists", "outer", "inner"] ["lists"] (defScope s_are_lists) := ⟨rfl, rfl, rfl, by decide +kernel, rfl, by decide +kernel, by decide +kernel⟩
abbrev s_are_list_shapes : Stmt := topS 19
theorem sc_are_list_shapes : FnScope ["lists", "most", "one"] ["lists", "most"] (defScope s_are_list_shapes) := ⟨rfl, rfl, rfl, by decide +kernel, rfl, by decide +kernel, by decide +kernel⟩
abbrev s_list_rows : Stmt := topS 20
theorem sc_list_rows : FnScope ["lists", "rows", "name", "outer", "deep", "inner"] ["lists"] (defScope s_list_rows) := ⟨rfl, rfl, rfl, by decide +kernel, rfl, by decide +kernel, by decide +kernel⟩
abbrev s_are_fields : Stmt := topS 21
theorem sc_are_fields : FnScope ["fields", "words"] ["fields"] (defScope s_are_fields) := ⟨rfl, rfl, rfl, by decide +kernel, rfl, by decide +kernel, by decide +kernel⟩
abbrev s_Shape_init : Stmt := inClass (topS 25) 0
theorem sc_Shape_init : FnScope ["self", "flags", "lists", "part", "name", "parent", "fields"] ["self", "flags", "lists"] (defScope s_Shape_init) := ⟨rfl, rfl, rfl, by decide +kernel, rfl, by decide +kernel, by decide +kernel⟩
abbrev s_Shape_outer : Stmt := inClass (topS 25) 2
theorem sc_Shape_outer : FnScope ["self"] ["self"] (defScope s_Shape_outer) := ⟨rfl, rfl, rfl, by decide +kernel, rfl, by decide +kernel, by decide +kernel⟩
abbrev s_Shape_inner : Stmt := inClass (topS 25) 3
theorem sc_Shape_inner : FnScope ["self", "name"] ["self", "name"] (defScope s_Shape_inner) := ⟨rfl, rfl, rfl, by decide +kernel, rfl, by decide +kernel, by decide +kernel⟩
abbrev s_Shape_fields : Stmt := inClass (topS 25) 4
theorem sc_Shape_fields : FnScope ["self", "name"] ["self", "name"] (defScope s_Shape_fields) := ⟨rfl, rfl, rfl, by decide +kernel, rfl, by decide +kernel, by decide +kernel⟩
abbrev s_Shape_lists_in : Stmt := inClass (topS 25) 6
theorem sc_Shape_lists_in : FnScope ["self", "parent", "name"] ["self", "parent"] (defScope s_Shape_lists_in) := ⟨rfl, rfl, rfl, by decide +kernel, rfl, by decide +kernel, by decide +kernel⟩
abbrev s_Shape_need_list : Stmt := inClass (topS 25) 7
theorem sc_Shape_need_list : FnScope ["self", "name"] ["self", "name"] (defScope s_Shape_need_list) := ⟨rfl, rfl, rfl, by decide +kernel, rfl, by decide +kernel, by decide +kernel⟩
abbrev s_check : Stmt := topS 26
theorem sc_check : FnScope ["shape", "data", "flag"] ["shape", "data"] (defScope s_check) := ⟨rfl, rfl, rfl, by decide +kernel, rfl, by decide +kernel, by decide +kernel⟩
abbrev s_check_words : Stmt := topS 27
theorem sc_check_words : FnScope ["chosen", "choices", "place", "name"] ["chosen", "choices", "place"] (defScope s_check_words) := ⟨rfl, rfl, rfl, by decide +kernel, rfl, by decide +kernel, by decide +kernel⟩
abbrev s_is_choice : Stmt := topS 28
theorem sc_is_choice : FnScope ["value", "several"] ["value", "several"] (defScope s_is_choice) := ⟨rfl, rfl, rfl, by decide +kernel, rfl, by decide +kernel, by decide +kernel⟩
abbrev s_check_lists : Stmt := topS 29
theorem sc_check_lists : FnScope ["shape", "lists", "names", "place", "name"] ["shape", "lists", "names", "place"] (defScope s_check_lists) := ⟨rfl, rfl, rfl, by decide +kernel, rfl, by decide +kernel, by decide +kernel⟩
abbrev s_check_rows : Stmt := topS 30
theorem sc_check_rows : FnScope ["shape", "name", "rows", "place", "earlier", "index", "row"] ["shape", "name", "rows", "place"] (defScope s_check_rows) := ⟨rfl, rfl, rfl, by decide +kernel, rfl, by decide +kernel, by decide +kernel⟩
abbrev s_check_row : Stmt := topS 31
theorem sc_check_row : FnScope ["shape", "name", "row", "earlier", "here"] ["shape", "name", "row", "earlier", "here"] (defScope s_check_row) := ⟨rfl, rfl, rfl, by decide +kernel, rfl, by decide +kernel, by decide +kernel⟩
abbrev s_rows_in : Stmt := topS 32
theorem sc_rows_in : FnScope ["data", "rows", "row"] ["data"] (defScope s_rows_in) := ⟨rfl, rfl, rfl, by decide +kernel, rfl, by decide +kernel, by decide +kernel⟩
abbrev s_wrong_reason : Stmt := topS 35
theorem sc_wrong_reason : FnScope ["shape", "data", "deed", "name", "rows"] ["shape", "data", "deed"] (defScope s_wrong_reason) := ⟨rfl, rfl, rfl, by decide +kernel, rfl, by decide +kernel, by decide +kernel⟩
abbrev s_list_at : Stmt := topS 36
theorem sc_list_at : FnScope ["shape", "data", "where", "row"] ["shape", "data", "where"] (defScope s_list_at) := ⟨rfl, rfl, rfl, by decide +kernel, rfl, by decide +kernel, by decide +kernel⟩
abbrev s_rows_at : Stmt := topS 37
theorem sc_rows_at : FnScope ["data", "where", "rows", "row"] ["data", "where"] (defScope s_rows_at) := ⟨rfl, rfl, rfl, by decide +kernel, rfl, by decide +kernel, by decide +kernel⟩
abbrev s_indexes_fit : Stmt := topS 38
theorem sc_indexes_fit : FnScope ["deed", "many"] ["deed", "many"] (defScope s_indexes_fit) := ⟨rfl, rfl, rfl, by decide +kernel, rfl, by decide +kernel, by decide +kernel⟩
abbrev s_row_fits : Stmt := topS 39
theorem sc_row_fits : FnScope ["shape", "data", "name", "rows", "row", "other"] ["shape", "data", "name", "rows", "row"] (defScope s_row_fits) := ⟨rfl, rfl, rfl, by decide +kernel, rfl, by decide +kernel, by decide +kernel⟩
abbrev s_wrong_field : Stmt := topS 40
theorem sc_wrong_field : FnScope ["fields", "field", "word"] ["fields", "field", "word"] (defScope s_wrong_field) := ⟨rfl, rfl, rfl, by decide +kernel, rfl, by decide +kernel, by decide +kernel⟩
abbrev s_after_deed : Stmt := topS 41
theorem sc_after_deed : FnScope ["data", "deed", "result", "rows"] ["data", "deed"] (defScope s_after_deed) := ⟨rfl, rfl, rfl, by decide +kernel, rfl, by decide +kernel, by decide +kernel⟩
abbrev s_apply : Stmt := topS 43
theorem sc_apply : FnScope ["shape", "data", "deed", "reason"] ["shape", "data", "deed"] (defScope s_apply) := ⟨rfl, rfl, rfl, by decide +kernel, rfl, by decide +kernel, by decide +kernel⟩
abbrev s__law_open : Stmt := topS 45
theorem sc__law_open : FnScope ["_law_script", "_law_cell"] ["_law_script"] (defScope s__law_open) := ⟨rfl, rfl, rfl, by decide +kernel, rfl, by decide +kernel, by decide +kernel⟩
abbrev s__law_mixed : Stmt := topS 46
theorem sc__law_mixed : FnScope ["_law_one", "_law_two"] ["_law_one"] (defScope s__law_mixed) := ⟨rfl, rfl, rfl, by decide +kernel, rfl, by decide +kernel, by decide +kernel⟩
abbrev s__law_draw : Stmt := topS 47
theorem sc__law_draw : FnScope ["_law_state", "_law_many", "_law_digit", "_law_cell"] ["_law_state", "_law_many"] (defScope s__law_draw) := ⟨rfl, rfl, rfl, by decide +kernel, rfl, by decide +kernel, by decide +kernel⟩
abbrev s__law_word : Stmt := topS 48
theorem sc__law_word : FnScope ["_law_state", "_law_taken", "_law_letters", "_law_word_here", "_law_k"] ["_law_state", "_law_taken"] (defScope s__law_word) := ⟨rfl, rfl, rfl, by decide +kernel, rfl, by decide +kernel, by decide +kernel⟩
abbrev s__law_fields : Stmt := topS 49
theorem sc__law_fields : FnScope ["_law_lists", "_law_name", "_law_outer"] ["_law_lists", "_law_name"] (defScope s__law_fields) := ⟨rfl, rfl, rfl, by decide +kernel, rfl, by decide +kernel, by decide +kernel⟩
abbrev s__law_inner : Stmt := topS 50
theorem sc__law_inner : FnScope ["_law_lists", "_law_name"] ["_law_lists", "_law_name"] (defScope s__law_inner) := ⟨rfl, rfl, rfl, by decide +kernel, rfl, by decide +kernel, by decide +kernel⟩
abbrev s__law_pool : Stmt := topS 51
theorem sc__law_pool : FnScope ["_law_state", "_law_start", "_law_step", "_law_k"] ["_law_state"] (defScope s__law_pool) := ⟨rfl, rfl, rfl, by decide +kernel, rfl, by decide +kernel, by decide +kernel⟩
abbrev s__law_rows : Stmt := topS 52
theorem sc__law_rows : FnScope ["_law_state", "_law_lists", "_law_name", "_law_most", "_law_pool_here", "_law_left", "_law_rows_here", "_law_k", "_law_number", "_law_chosen", "_law_fields_here", "_law_field", "_law_below", "_law_inner_here"] ["_law_state", "_law_lists", "_law_name", "_law_most", "_law_pool_here"] (defScope s__law_rows) := ⟨rfl, rfl, rfl, by decide +kernel, rfl, by decide +kernel, by decide +kernel⟩
abbrev s__law_data : Stmt := topS 53
theorem sc__law_data : FnScope ["_law_state", "_law_flags", "_law_lists", "_law_most", "_law_pool_here", "_law_table", "_law_flag", "_law_store", "_law_name"] ["_law_state", "_law_flags", "_law_lists", "_law_most", "_law_pool_here"] (defScope s__law_data) := ⟨rfl, rfl, rfl, by decide +kernel, rfl, by decide +kernel, by decide +kernel⟩
abbrev s__law_copy : Stmt := topS 54
theorem sc__law_copy : FnScope ["_law_value", "_law_result", "_law_name", "_law_part"] ["_law_value"] (defScope s__law_copy) := ⟨rfl, rfl, rfl, by decide +kernel, rfl, by decide +kernel, by decide +kernel⟩
abbrev s__law_rich_fields : Stmt := topS 55
theorem sc__law_rich_fields : FnScope ["_law_state", "_law_fields_here", "_law_taken", "_law_k", "_law_field", "_law_inside", "_law_several"] ["_law_state"] (defScope s__law_rich_fields) := ⟨rfl, rfl, rfl, by decide +kernel, rfl, by decide +kernel, by decide +kernel⟩
abbrev s__law_rich : Stmt := topS 56
theorem sc__law_rich : FnScope ["_law_state", "_law_taken", "_law_flags", "_law_lists", "_law_k", "_law_inner_here"] ["_law_state"] (defScope s__law_rich) := ⟨rfl, rfl, rfl, by decide +kernel, rfl, by decide +kernel, by decide +kernel⟩
abbrev s__law_wheres : Stmt := topS 57
theorem sc__law_wheres : FnScope ["_law_lists", "_law_data_here", "_law_wheres_here", "_law_name", "_law_row", "_law_inner_here"] ["_law_lists", "_law_data_here"] (defScope s__law_wheres) := ⟨rfl, rfl, rfl, by decide +kernel, rfl, by decide +kernel, by decide +kernel⟩
abbrev s__law_list_at : Stmt := topS 58
theorem sc__law_list_at : FnScope ["_law_data_here", "_law_where", "_law_rows_here", "_law_row"] ["_law_data_here", "_law_where"] (defScope s__law_list_at) := ⟨rfl, rfl, rfl, by decide +kernel, rfl, by decide +kernel, by decide +kernel⟩
abbrev s__law_new_row : Stmt := topS 59
theorem sc__law_new_row : FnScope ["_law_state", "_law_lists", "_law_name", "_law_rows_here", "_law_pool_here", "_law_used", "_law_free", "_law_chosen", "_law_fields_here", "_law_field", "_law_below", "_law_inner_here", "_law_row", "_law_number"] ["_law_state", "_law_lists", "_law_name", "_law_rows_here", "_law_pool_here"] (defScope s__law_new_row) := ⟨rfl, rfl, rfl, by decide +kernel, rfl, by decide +kernel, by decide +kernel⟩
abbrev s__law_deed : Stmt := topS 60
theorem sc__law_deed : FnScope ["_law_state", "_law_flags", "_law_lists", "_law_data_here", "_law_pool_here", "_law_wheres_here", "_law_pick", "_law_where", "_law_rows_here", "_law_many", "_law_fields_here", "_law_index", "_law_field"] ["_law_state", "_law_flags", "_law_lists", "_law_data_here", "_law_pool_here"] (defScope s__law_deed) := ⟨rfl, rfl, rfl, by decide +kernel, rfl, by decide +kernel, by decide +kernel⟩
abbrev s__law_back : Stmt := topS 61
theorem sc__law_back : FnScope ["_law_data_here", "_law_deed_here", "_law_rows_here"] ["_law_data_here", "_law_deed_here"] (defScope s__law_back) := ⟨rfl, rfl, rfl, by decide +kernel, rfl, by decide +kernel, by decide +kernel⟩
abbrev s_law : Stmt := topS 62
theorem sc_law : FnScope ["_law_script", "_law_state", "_law_spec", "_law_pool_here", "_law_first", "_law_shape", "_law_data_here", "_law_trail", "_law_k", "_law_deed_here", "_law_back_here", "_law_after", "_law_grown"] ["_law_script"] (defScope s_law) := ⟨rfl, rfl, rfl, by decide +kernel, rfl, by decide +kernel, by decide +kernel⟩
/-- what the module says of built-ins, constants and classes -/
structure Txt (K : PySem.W.Frag) (mg : Str → Option Value) (C_Shape : Addr) (C_FORMS : Addr) : Prop where
  abs : mg "abs" = none
  all : mg "all" = none
  enumerate : mg "enumerate" = none
  int : mg "int" = none
  str : mg "str" = none
  bool : mg "bool" = none
  isinstance : mg "isinstance" = none
  len : mg "len" = none
  list : mg "list" = none
  range : mg "range" = none
  sorted : mg "sorted" = none
  sum : mg "sum" = none
  tuple : mg "tuple" = none
  set : mg "set" = none
  dict : mg "dict" = none
  g_MOST_ROWS : ∃ t, mg "MOST_ROWS" = some (.int 300 t)
  g_GREATEST_ID : ∃ t, mg "GREATEST_ID" = some (.int 1000000 t)
  cl_Shape : Cls K C_Shape
  mk_Shape : PySem.W.makesIn K C_Shape = true
  kp_Shape : PySem.W.keepIn K (.ref C_Shape) = true
  at_Shape : mg "Shape" = some (.ref C_Shape)
  no_Shape_flags : NoAttr K C_Shape "flags"
  no_Shape_table : NoAttr K C_Shape "table"
  at_FORMS : mg "FORMS" = some (.ref C_FORMS)
  tu_FORMS : TupK K C_FORMS [(D.tup [D.str "append", D.int 3]), (D.tup [D.str "cut", D.int 2]), (D.tup [D.str "insert", D.int 4]), (D.tup [D.str "remove", D.int 3]), (D.tup [D.str "move", D.int 4]), (D.tup [D.str "field", D.int 5]), (D.tup [D.str "flag", D.int 2])]
/-- a def as it stands -/
def Here (K : PySem.W.Frag) (mg : Str → Option Value) (nm : Str) (st : Stmt) : Prop := ∃ f fd, mg nm = some (.ref f) ∧ Fun K nm nm st f fd ∧ PySem.W.keepIn K (.ref f) = true
def HereM (K : PySem.W.Frag) (C : Addr) (nm qual : Str) (st : Stmt) : Prop := ∃ f fd, Fun K nm qual st f fd ∧ PySem.W.findIn K (.ref C) nm = some (some (.ref f)) ∧ PySem.W.isFn K (.ref f) = true ∧ PySem.W.keepIn K (.ref f) = true
structure Prg (K : PySem.W.Frag) (mg : Str → Option Value) (C_Shape : Addr) (C_FORMS : Addr) : Prop where
  fresh : Here K mg "fresh" s_fresh
  is_word : Here K mg "is_word" s_is_word
  are_words : Here K mg "are_words" s_are_words
  is_integer : Here K mg "is_integer" s_is_integer
  has_names : Here K mg "has_names" s_has_names
  is_named : Here K mg "is_named" s_is_named
  has_form : Here K mg "has_form" s_has_form
  wrong_part : Here K mg "wrong_part" s_wrong_part
  are_lists : Here K mg "are_lists" s_are_lists
  are_list_shapes : Here K mg "are_list_shapes" s_are_list_shapes
  list_rows : Here K mg "list_rows" s_list_rows
  are_fields : Here K mg "are_fields" s_are_fields
  Shape_init : HereM K C_Shape "__init__" "Shape.__init__" s_Shape_init
  Shape_outer : HereM K C_Shape "outer" "Shape.outer" s_Shape_outer
  Shape_inner : HereM K C_Shape "inner" "Shape.inner" s_Shape_inner
  Shape_fields : HereM K C_Shape "fields" "Shape.fields" s_Shape_fields
  Shape_lists_in : HereM K C_Shape "lists_in" "Shape.lists_in" s_Shape_lists_in
  Shape_need_list : HereM K C_Shape "need_list" "Shape.need_list" s_Shape_need_list
  check : Here K mg "check" s_check
  check_words : Here K mg "check_words" s_check_words
  is_choice : Here K mg "is_choice" s_is_choice
  check_lists : Here K mg "check_lists" s_check_lists
  check_rows : Here K mg "check_rows" s_check_rows
  check_row : Here K mg "check_row" s_check_row
  rows_in : Here K mg "rows_in" s_rows_in
  wrong_reason : Here K mg "wrong_reason" s_wrong_reason
  list_at : Here K mg "list_at" s_list_at
  rows_at : Here K mg "rows_at" s_rows_at
  indexes_fit : Here K mg "indexes_fit" s_indexes_fit
  row_fits : Here K mg "row_fits" s_row_fits
  wrong_field : Here K mg "wrong_field" s_wrong_field
  after_deed : Here K mg "after_deed" s_after_deed
  apply : Here K mg "apply" s_apply
  _law_open : Here K mg "_law_open" s__law_open
  _law_mixed : Here K mg "_law_mixed" s__law_mixed
  _law_draw : Here K mg "_law_draw" s__law_draw
  _law_word : Here K mg "_law_word" s__law_word
  _law_fields : Here K mg "_law_fields" s__law_fields
  _law_inner : Here K mg "_law_inner" s__law_inner
  _law_pool : Here K mg "_law_pool" s__law_pool
  _law_rows : Here K mg "_law_rows" s__law_rows
  _law_data : Here K mg "_law_data" s__law_data
  _law_copy : Here K mg "_law_copy" s__law_copy
  _law_rich_fields : Here K mg "_law_rich_fields" s__law_rich_fields
  _law_rich : Here K mg "_law_rich" s__law_rich
  _law_wheres : Here K mg "_law_wheres" s__law_wheres
  _law_list_at : Here K mg "_law_list_at" s__law_list_at
  _law_new_row : Here K mg "_law_new_row" s__law_new_row
  _law_deed : Here K mg "_law_deed" s__law_deed
  _law_back : Here K mg "_law_back" s__law_back
  law : Here K mg "law" s_law
theorem here_mk {K : PySem.W.Frag} {h : Heap} {mg : Str → Option Value} (X : K.In h) (G : h.Ns mainGlobals mg) {nm : Str} {st : Stmt} {f : Addr} {oc : Value} {od an : Option Addr} {sl : Array (Option Value)} {kV dc pm cd ct : Value}
    (a : PySem.W.nsIn K mainGlobals nm = some (some (.ref f))) (l : K.lookup f = some ⟨oc, od, .func (PySem.W.fnOf nm nm (defArgs st) (defBody st) (defScope st) .none kV dc pm an cd ct), sl⟩) (c : PySem.W.codeIn K cd nm = true) (k : PySem.W.keepIn K (.ref f) = true) : Here K mg nm st :=
  ⟨f, _, PySem.W.mg_of X G a, fun_mk (st := st) l c k, k⟩
theorem hereM_mk {K : PySem.W.Frag} {C : Addr} {nm qual : Str} {st : Stmt} {f : Addr} {oc : Value} {od an : Option Addr} {sl : Array (Option Value)} {kV dc pm cd ct : Value}
    (a : PySem.W.findIn K (.ref C) nm = some (some (.ref f))) (i : PySem.W.isFn K (.ref f) = true) (l : K.lookup f = some ⟨oc, od, .func (PySem.W.fnOf nm qual (defArgs st) (defBody st) (defScope st) .none kV dc pm an cd ct), sl⟩) (c : PySem.W.codeIn K cd qual = true) (k : PySem.W.keepIn K (.ref f) = true) : HereM K C nm qual st :=
  ⟨f, _, fun_mk (st := st) l c k, a, i, k⟩
def spLaw (K : PySem.W.Frag) : Sp := fun vs H Q _ => ∃ (a : Addr) (ns : List Int), vs = [.ref a] ∧ SqL K H a (ns.map V.int) ∧ ns.length ≤ 63 ∧ ∀ H', Q (.bl true) H'

end Pk

namespace Pk
open PySem PySem.Spec PyProof.Rows L2 Ssb
open Evl (Ex Ev EvT EvL EvA EvU)
/-! ### promises of defs that hand back True -/
/-- where pre holds, z comes back, and only objects are made -/
def spV (z : V) (pre : List V → Hp → Prop) : Sp := fun vs H Q _ => pre vs H ∧ ∀ H', Ex H H' → Q z H'
theorem spV_ev {z : V} {pre : List V → Hp → Prop} {vs : List V} {ta : TA} {σ : L2.St} {H : Hp} (h : EvA ta σ H vs) (hp : ∀ H1, Ex H H1 → pre vs H1) : Ev (tCall (spV z pre) [] E0 ta) σ H z := ev_fn h fun H1 e Q q => ⟨hp H1 e, q⟩
/-- a word -/
def isW (s : Str) : Prop := 1 ≤ s.length ∧ s.length ≤ 8 ∧ ∀ c ∈ s.cps.toList, 97 ≤ c ∧ c ≤ 122
theorem lt_one {a b : Nat} (h : a ≤ b) : (!decide ([b] < [a])) = true := by
  have : ¬ ([b] < [a]) := by
    intro z
    rcases List.cons_lt_cons_iff.mp z with z | z
    · omega
    · exact absurd z.2 (by simp)
  simp [this]
section
variable {P : Program} {w : World} {K : PySem.W.Frag} {mg : Str → Option Value} {base : Heap} {C_Shape C_FORMS : Addr}
def preWord : List V → Hp → Prop := fun vs _ => ∃ s, vs = [.str s] ∧ isW s
theorem ok_is_word (T : Txt K mg C_Shape C_FORMS) (R : Prg K mg C_Shape C_FORMS) : ∃ f fd, Fn P w K mg base "is_word" 1 ["value"] (spV (.bl true) preWord) f fd := by
  obtain ⟨f, fd, at_, F, kp⟩ := R.is_word
  refine ⟨f, fd, F.ok sc_is_word (fun vs H Q E h => ?_) (fun cdv A outer s H vs Q E hr h => ?_), at_, kp, F.binds (fun _ _ _ _ _ _ us hl => match us, hl with | [_], _ => rfl)⟩
  · obtain ⟨⟨s, rfl, _⟩, _⟩ := h; rfl
  · obtain ⟨⟨x, rfl, h1, h8, hc⟩, k⟩ := h
    refine ⟨_, (pss_cons (ps_if (PW.pt (pw_or (pt_not (pt_val (pe_callB (r := rIsi K) call_isi (by rfl) T.isinstance (by decide +kernel) (pa_cons (pv 0) (pa_cons (pe_bltn (v := .ty "str") (by rfl) T.str boot_str rfl) pa_nil))))) (pw_or1 (pt_not (pt_chain op_le op_le pe_int (pe_callB (r := rLenA K) call_len (by rfl) T.len (by decide +kernel) (pa_cons (pv 0) pa_nil)) pe_int))))) pss_never pss_nil)
  (pss_one (ps_ret (pe_callB (r := rAll K) (cr_all rfl) (by rfl) T.all (by decide +kernel) (pa_cons (pe_lc (own := [("letter", 1)]) rfl sc_is_word.nd (pi_str (pv 0)) (blkOk_by (own := [("letter", 1)]) (N := ["value", "letter"]) (sc := defScope s_is_word) (by decide +kernel)) (fun _ _ _ _ _ => (pg_name (i := 1) sc_is_word.nd rfl (Or.inl rfl))) (fun _ _ _ _ _ => pts_nil) (fun _ _ _ _ _ => (pe_chain op_le_str op_le_str pe_str (pv 1) pe_str))) pa_nil))))), ?_⟩
    refine Evl.q_when (b := false) (Evl.et_or (a := false) (b := false) (Evl.et_not (a := true) (Evl.et_B (ev_isi (Evl.ev_var rfl) (fun H1 _ => .base (.str x)) (kit_ty (by decide +kernel))))) fun _ => Evl.et_not (a := true) (Evl.et_test ?_)) (fun h => nomatch h) fun _ H1 e1 => ?_
    · refine Evl.ev_is (ev_chain Evl.ev_c (ev_lenS (Evl.ev_var rfl) (by omega)) Evl.ev_c Evl.rv_I0 Evl.rv_I0) ?_
      rw [decide_eq_true (by omega : (1 : Int) ≤ (x.length : Int)), decide_eq_true (by omega : (x.length : Int) ≤ 8)]
      rfl
    · refine Evl.s_ret (ev_allT (n := x.length) (el_lcS (Evl.ev_var rfl) (by omega) (fun _ => rfl) fun i c hi H2 e2 => ?_)) fun H2 e2 => k H2 (e1.trans e2)
      obtain ⟨ha, hz⟩ := hc c (by rw [← Array.getElem?_toList] at hi; exact List.mem_of_getElem? hi)
      refine Evl.ev_is (ev_chain (b1 := true) (b2 := true) Evl.ev_c (Evl.ev_var rfl) Evl.ev_c ?_ ?_) rfl
      · exact fun H1 _ Q q => ⟨_, _, rfl, rfl, by rw [show (!decide ((⟨#[c]⟩ : Str).cps.toList < ("a" : Str).cps.toList)) = true from lt_one ha]; exact q H1 (Ex.refl _)⟩
      · exact fun H1 _ Q q => ⟨_, _, rfl, rfl, by rw [show (!decide (("z" : Str).cps.toList < (⟨#[c]⟩ : Str).cps.toList)) = true from lt_one hz]; exact q H1 (Ex.refl _)⟩

/-! ### are_words, of a list and of a tuple -/
def preWords (t : Bool) (K : PySem.W.Frag) : List V → Hp → Prop := fun vs H => ∃ (a : Addr) (xs : List Str) (lo hi : Int), vs = [.ref a, .int lo, .int hi] ∧ (if t = true then SqT K H a (xs.map V.str) else SqL K H a (xs.map V.str)) ∧ xs.length ≤ 1000 ∧ lo ≤ xs.length ∧ (xs.length : Int) ≤ hi ∧ (∀ x ∈ xs, isW x) ∧ xs.Nodup
theorem ok_are_wordsL (T : Txt K mg C_Shape C_FORMS) (R : Prg K mg C_Shape C_FORMS) : ∃ f fd, Fn P w K mg base "are_words" 2 ["values", "least", "most"] (spV (.bl true) (preWords false K)) f fd := by
  obtain ⟨_, _, G_is_word⟩ := ok_is_word (P := P) (w := w) (base := base) T R
  obtain ⟨f, fd, at_, F, kp⟩ := R.are_words
  refine ⟨f, fd, F.ok sc_are_words (fun vs H Q E h => ?_) (fun cdv A outer s H vs Q E hr h => ?_), at_, kp, F.binds (fun _ _ _ _ _ _ us hl => match us, hl with | [_, _, _], _ => rfl)⟩
  · obtain ⟨⟨a, xs, lo, hi, rfl, _⟩, _⟩ := h; rfl
  · obtain ⟨⟨a, xs, lo, hi, rfl, hs, few, hlo, hhi, hw, hn⟩, k⟩ := h
    have hs : SqL K H a (xs.map V.str) := hs
    refine ⟨_, (pss_cons (ps_if (PW.pt (pw_or (pt_not (pt_chain op_le op_le (pv 1) (pe_callB (r := rLenA K) call_len (by rfl) T.len (by decide +kernel) (pa_cons (pv 0) pa_nil)) (pv 2))) (pw_or1 (pt_not (pt_val (pe_callB (r := rAll K) (cr_all rfl) (by rfl) T.all (by decide +kernel) (pa_cons (pe_lc (own := [("value", 3)]) rfl sc_are_words.nd (show PI _ _ _ (iList K _) from pi_list (pv 0)) (blkOk_by (own := [("value", 3)]) (N := ["values", "least", "most", "value"]) (sc := defScope s_are_words) (by decide +kernel)) (fun _ _ _ _ _ => (pg_name (i := 3) sc_are_words.nd rfl (Or.inl rfl))) (fun _ _ _ _ _ => pts_nil) (fun _ _ _ _ _ => (pcl G_is_word hr (pa_cons (pv 3) pa_nil)))) pa_nil))))))) pss_never pss_nil)
  (pss_one (ps_ret (pe_cmpR op_eq (pe_callB call_lenTxs (by rfl) T.len (by decide +kernel) (pa_cons (pe_callTy (r := rSetS K P w) (cr_setS rfl) (by rfl) T.set (by decide +kernel) (pa_cons (pv 0) pa_nil)) pa_nil)) (pe_callB (r := rLenA K) call_len (by rfl) T.len (by decide +kernel) (pa_cons (pv 0) pa_nil)) (nomark _))))), ?_⟩
    refine Evl.q_when (b := false) (Evl.et_or (a := false) (b := false) (Evl.et_not (a := true) (Evl.et_test ?_)) fun _ => Evl.et_not (a := true) (Evl.et_B (ev_allT (el_lcA (Evl.ev_var rfl) hs (by rw [List.length_map]; omega) (fun _ => rfl) fun i x hx H2 e2 => ?_)))) (fun h => nomatch h) fun _ H1 e1 => Evl.s_ret (Evl.ev_is (Evl.ev_op (ev_lenSet (Evl.ev_var rfl) (.inl (Evl.ex_l e1 hs)) few) (ev_lenL (Evl.ev_var rfl) (.inl (Evl.ex_l e1 hs))) (Evl.rv_eq rfl)) ?_) fun H2 e2 => k H2 (e1.trans e2)
    · refine Evl.ev_is (ev_chain (Evl.ev_var rfl) (ev_lenL (Evl.ev_var rfl) (.inl hs)) (Evl.ev_var rfl) Evl.rv_I0 Evl.rv_I0) ?_
      rw [List.length_map, decide_eq_true hlo, decide_eq_true hhi]; rfl
    · obtain ⟨z, hz, rfl⟩ : ∃ z, xs[i]? = some z ∧ x = .str z := by
        rw [List.getElem?_map] at hx
        cases e : xs[i]? with
        | none => rw [e] at hx; cases hx
        | some z => rw [e] at hx; exact ⟨z, rfl, (Option.some.inj hx).symm⟩
      exact spV_ev (Evl.ea_cons (Evl.ev_var rfl) Evl.ea_nil) fun H3 _ => ⟨z, rfl, hw z (List.mem_of_getElem? hz)⟩
    · rw [met_nodup xs [] hn, List.length_map]; simp
theorem ok_are_wordsT (T : Txt K mg C_Shape C_FORMS) (R : Prg K mg C_Shape C_FORMS) : ∃ f fd, Fn P w K mg base "are_words" 2 ["values", "least", "most"] (spV (.bl true) (preWords true K)) f fd := by
  obtain ⟨_, _, G_is_word⟩ := ok_is_word (P := P) (w := w) (base := base) T R
  obtain ⟨f, fd, at_, F, kp⟩ := R.are_words
  refine ⟨f, fd, F.ok sc_are_words (fun vs H Q E h => ?_) (fun cdv A outer s H vs Q E hr h => ?_), at_, kp, F.binds (fun _ _ _ _ _ _ us hl => match us, hl with | [_, _, _], _ => rfl)⟩
  · obtain ⟨⟨a, xs, lo, hi, rfl, _⟩, _⟩ := h; rfl
  · obtain ⟨⟨a, xs, lo, hi, rfl, hs, few, hlo, hhi, hw, hn⟩, k⟩ := h
    have hs : SqT K H a (xs.map V.str) := hs
    refine ⟨_, (pss_cons (ps_if (PW.pt (pw_or (pt_not (pt_chain op_le op_le (pv 1) (pe_callB (r := rLenA K) call_len (by rfl) T.len (by decide +kernel) (pa_cons (pv 0) pa_nil)) (pv 2))) (pw_or1 (pt_not (pt_val (pe_callB (r := rAll K) (cr_all rfl) (by rfl) T.all (by decide +kernel) (pa_cons (pe_lc (own := [("value", 3)]) rfl sc_are_words.nd (show PI _ _ _ (iTup K _) from pi_tup (pv 0)) (blkOk_by (own := [("value", 3)]) (N := ["values", "least", "most", "value"]) (sc := defScope s_are_words) (by decide +kernel)) (fun _ _ _ _ _ => (pg_name (i := 3) sc_are_words.nd rfl (Or.inl rfl))) (fun _ _ _ _ _ => pts_nil) (fun _ _ _ _ _ => (pcl G_is_word hr (pa_cons (pv 3) pa_nil)))) pa_nil))))))) pss_never pss_nil)
  (pss_one (ps_ret (pe_cmpR op_eq (pe_callB call_lenTxs (by rfl) T.len (by decide +kernel) (pa_cons (pe_callTy (r := rSetS K P w) (cr_setS rfl) (by rfl) T.set (by decide +kernel) (pa_cons (pv 0) pa_nil)) pa_nil)) (pe_callB (r := rLenA K) call_len (by rfl) T.len (by decide +kernel) (pa_cons (pv 0) pa_nil)) (nomark _))))), ?_⟩
    refine Evl.q_when (b := false) (Evl.et_or (a := false) (b := false) (Evl.et_not (a := true) (Evl.et_test ?_)) fun _ => Evl.et_not (a := true) (Evl.et_B (ev_allT (el_lcT (Evl.ev_var rfl) hs (by rw [List.length_map]; omega) (fun _ => rfl) fun i x hx H2 e2 => ?_)))) (fun h => nomatch h) fun _ H1 e1 => Evl.s_ret (Evl.ev_is (Evl.ev_op (ev_lenSet (Evl.ev_var rfl) (.inr (Evl.ex_t e1 hs)) few) (ev_lenL (Evl.ev_var rfl) (.inr (Evl.ex_t e1 hs))) (Evl.rv_eq rfl)) ?_) fun H2 e2 => k H2 (e1.trans e2)
    · refine Evl.ev_is (ev_chain (Evl.ev_var rfl) (ev_lenL (Evl.ev_var rfl) (.inr hs)) (Evl.ev_var rfl) Evl.rv_I0 Evl.rv_I0) ?_
      rw [List.length_map, decide_eq_true hlo, decide_eq_true hhi]; rfl
    · obtain ⟨z, hz, rfl⟩ : ∃ z, xs[i]? = some z ∧ x = .str z := by
        rw [List.getElem?_map] at hx
        cases e : xs[i]? with
        | none => rw [e] at hx; cases hx
        | some z => rw [e] at hx; exact ⟨z, rfl, (Option.some.inj hx).symm⟩
      exact spV_ev (Evl.ea_cons (Evl.ev_var rfl) Evl.ea_nil) fun H3 _ => ⟨z, rfl, hw z (List.mem_of_getElem? hz)⟩
    · rw [met_nodup xs [] hn, List.length_map]; simp

/-! ### has_names, is_named -/
def preNames (K : PySem.W.Frag) : List V → Hp → Prop := fun vs H => ∃ (v : V) (a : Addr) (n : Nat) (S : Addr → Prop) (l : List (Str × D)) (ns : List Str), vs = [v, .ref a] ∧ Rep H n S (.dic l) v ∧ SqL K H a (ns.map V.str) ∧ ns.length ≤ 1000 ∧ l.length = ns.length ∧ ∀ x ∈ ns, (l.lookup x).isSome = true
theorem ok_has_names (T : Txt K mg C_Shape C_FORMS) (R : Prg K mg C_Shape C_FORMS) : ∃ f fd, Fn P w K mg base "has_names" 1 ["value", "names"] (spV (.bl true) (preNames K)) f fd := by
  obtain ⟨f, fd, at_, F, kp⟩ := R.has_names
  refine ⟨f, fd, F.ok sc_has_names (fun vs H Q E h => ?_) (fun cdv A outer s H vs Q E hr h => ?_), at_, kp, F.binds (fun _ _ _ _ _ _ us hl => match us, hl with | [_, _], _ => rfl)⟩
  · obtain ⟨⟨v, a, n, S, l, ns, rfl, _⟩, _⟩ := h; rfl
  · obtain ⟨⟨v, a, n, S, l, ns, rfl, hv, ha, hn, hl, hk⟩, k⟩ := h
    cases n with
    | zero => exact hv.elim
    | succ n =>
    obtain ⟨d, es, rfl, _, hd, _, pr⟩ := hv
    have le : es.length = ns.length := (pair_len pr).symm.trans hl
    refine ⟨_, (pss_one (ps_ret (pe_and (pe_callB (r := rIsi K) call_isi (by rfl) T.isinstance (by decide +kernel) (pa_cons (pv 0) (pa_cons (pe_bltn (v := .ty "dict") (by rfl) T.dict boot_dict rfl) pa_nil))) (pe_and (pe_cmpR op_eq (pe_callB call_lenD (by rfl) T.len (by decide +kernel) (pa_cons (pv 0) pa_nil)) (pe_callB (r := rLenA K) call_len (by rfl) T.len (by decide +kernel) (pa_cons (pv 1) pa_nil)) (nomark _)) (pe_one (pe_callB (r := rAll K) (cr_all rfl) (by rfl) T.all (by decide +kernel) (pa_cons (pe_lc (own := [("name", 2)]) rfl sc_has_names.nd (show PI _ _ _ (iList K _) from pi_list (pv 1)) (blkOk_by (own := [("name", 2)]) (N := ["value", "names", "name"]) (sc := defScope s_has_names) (by decide +kernel)) (fun _ _ _ _ _ => (pg_name (i := 2) sc_has_names.nd rfl (Or.inl rfl))) (fun _ _ _ _ _ => pts_nil) (fun _ _ _ _ _ => (pe_cmp (pc_din (hu_of hr) (pv 2) (pv 0)) rfl))) pa_nil))))))), ?_⟩
    refine Evl.s_ret (Evl.ev_is (Evl.ev_andV (a := true) (b := true) (ev_isi (Evl.ev_var rfl) (fun H1 e1 => .base (.dK (e1 _ _ hd))) (kit_ty (by decide +kernel))) fun _ => Evl.ev_is (Evl.ev_andV (a := true) (b := true) (Evl.ev_is (Evl.ev_op (ev_lenK (Evl.ev_var rfl) hd) (ev_lenL (Evl.ev_var rfl) (.inl ha)) (Evl.rv_eq rfl)) ?_) fun _ => ev_allT (el_lcA (Evl.ev_var rfl) ha (by rw [List.length_map]; omega) (fun _ => rfl) fun i x hx H2 e2 => ?_)) rfl) rfl) fun H2 e2 => k H2 e2
    · rw [List.length_map, le]; simp
    · obtain ⟨z, hz, rfl⟩ : ∃ z, ns[i]? = some z ∧ x = .str z := by
        rw [List.getElem?_map] at hx
        cases e : ns[i]? with
        | none => rw [e] at hx; cases hx
        | some z => rw [e] at hx; exact ⟨z, rfl, (Option.some.inj hx).symm⟩
      refine Evl.ev_is (ev_din (Evl.ev_var rfl) (Evl.ev_var rfl) (.inl (e2 _ _ hd))) ?_
      have q := hk z (List.mem_of_getElem? hz)
      cases e : l.lookup z with
      | none => rw [e] at q; cases q
      | some d0 =>
        obtain ⟨v0, hv0, _⟩ := pair_lk pr e
        rw [hv0]; rfl
def preNamed : List V → Hp → Prop := fun vs H => ∃ (v : V) (m : Int) (n : Nat) (S : Addr → Prop) (l : List (Str × D)), vs = [v, .int m] ∧ Rep H n S (.dic l) v ∧ (l.length : Int) ≤ m ∧ ∀ p ∈ l, isW p.1
theorem ok_is_named (T : Txt K mg C_Shape C_FORMS) (R : Prg K mg C_Shape C_FORMS) : ∃ f fd, Fn P w K mg base "is_named" 2 ["value", "most"] (spV (.bl true) preNamed) f fd := by
  obtain ⟨_, _, G_is_word⟩ := ok_is_word (P := P) (w := w) (base := base) T R
  obtain ⟨f, fd, at_, F, kp⟩ := R.is_named
  refine ⟨f, fd, F.ok sc_is_named (fun vs H Q E h => ?_) (fun cdv A outer s H vs Q E hr h => ?_), at_, kp, F.binds (fun _ _ _ _ _ _ us hl => match us, hl with | [_, _], _ => rfl)⟩
  · obtain ⟨⟨v, m, n, S, l, rfl, _⟩, _⟩ := h; rfl
  · obtain ⟨⟨v, m, n, S, l, rfl, hv, hm, hk⟩, k⟩ := h
    cases n with
    | zero => exact hv.elim
    | succ n =>
    obtain ⟨d, es, rfl, _, hd, h5, pr⟩ := hv
    have le : l.length = es.length := pair_len pr
    refine ⟨_, (pss_one (ps_ret (pe_and (pe_callB (r := rIsi K) call_isi (by rfl) T.isinstance (by decide +kernel) (pa_cons (pv 0) (pa_cons (pe_bltn (v := .ty "dict") (by rfl) T.dict boot_dict rfl) pa_nil))) (pe_and (pe_cmpR op_le (pe_callB call_lenD (by rfl) T.len (by decide +kernel) (pa_cons (pv 0) pa_nil)) (pv 1) (nomark _)) (pe_one (pe_callB (r := rAll K) (cr_all rfl) (by rfl) T.all (by decide +kernel) (pa_cons (pe_lock (pe_lc (own := [("key", 2)]) rfl sc_is_named.nd (pi_keys (pv 0)) (blkOk_by (own := [("key", 2)]) (N := ["value", "most", "key"]) (sc := defScope s_is_named) (by decide +kernel)) (fun _ _ _ _ _ => (pg_name (i := 2) sc_is_named.nd rfl (Or.inl rfl))) (fun _ _ _ _ _ => pts_nil) (fun _ _ _ _ _ => (pcl G_is_word hr (pa_cons (pv 2) pa_nil))))) pa_nil))))))), ?_⟩
    refine Evl.s_ret (Evl.ev_is (Evl.ev_andV (a := true) (b := true) (ev_isi (Evl.ev_var rfl) (fun H1 e1 => .base (.dK (e1 _ _ hd))) (kit_ty (by decide +kernel))) fun _ => Evl.ev_is (Evl.ev_andV (a := true) (b := true) (Evl.ev_is (Evl.ev_op (ev_lenK (Evl.ev_var rfl) hd) (Evl.ev_var rfl) Evl.rv_I0) ?_) fun _ => ev_allT (el_lcK (fun H1 => Evl.ev_var rfl) hd (by omega) (fun _ => rfl) fun i x v hx od H1 H2 e1 e2 => ?_)) rfl) rfl) fun H2 e2 => k H2 e2
    · rw [decide_eq_true (by omega : (es.length : Int) ≤ m)]
    · obtain ⟨p, hp, hx1, _⟩ := pair_back pr hx
      have hx1 : x = Sum.inr p.1 := hx1
      subst hx1
      exact spV_ev (Evl.ea_cons (Evl.ev_var rfl) Evl.ea_nil) fun H3 _ => ⟨p.1, rfl, hk p (List.mem_of_getElem? hp)⟩
end
end Pk

namespace Pk
open PySem PySem.Spec PyProof.Rows L2 Ssb
open Evl (Ex Ev EvT EvL EvA EvU)
/-! ### shapes as data -/
abbrev Fl := List (Str × List Str)
def flD (f : Fl) : D := .dic (f.map fun p => (p.1, .tup (p.2.map .str)))
def okFl (f : Fl) : Prop := f.length ≤ 2 ∧ (f.map (·.1)).Nodup ∧ ∀ p ∈ f, isW p.1 ∧ 2 ≤ p.2.length ∧ p.2.length ≤ 3 ∧ (∀ x ∈ p.2, isW x) ∧ p.2.Nodup
abbrev Sh := List (Str × Fl × List (Str × Fl))
def ls0 (d : D) (f : Fl) : Prop := ∃ l, d = .dic l ∧ l.length = 2 ∧ l.lookup ("fields" : Str) = some (flD f) ∧ l.lookup ("inner" : Str) = some (.dic [])
def ls1 (d : D) (f : Fl) (i : List (Str × Fl)) : Prop := ∃ l e, d = .dic l ∧ l.length = 2 ∧ l.lookup ("fields" : Str) = some (flD f) ∧ l.lookup ("inner" : Str) = some (.dic e) ∧ Paired (fun (p : Str × D) (q : Str × Fl) => p.1 = q.1 ∧ ls0 p.2 q.2) e i
def shD (d : D) (s : Sh) : Prop := ∃ l, d = .dic l ∧ Paired (fun (p : Str × D) (q : Str × Fl × List (Str × Fl)) => p.1 = q.1 ∧ ls1 p.2 q.2.1 q.2.2) l s
/-- the rows: a name, the name around it, the fields -/
abbrev Ro := Str × Option Str × Fl
def rowsOf (p : Str × Fl × List (Str × Fl)) : List Ro := (p.1, none, p.2.1) :: p.2.2.map fun q => (q.1, some p.1, q.2)
def rowsS (s : Sh) : List Ro := s.flatMap rowsOf
def okSh (s : Sh) : Prop := s.length ≤ 2 ∧ ((rowsS s).map (·.1)).Nodup ∧ ∀ p ∈ s, isW p.1 ∧ okFl p.2.1 ∧ p.2.2.length ≤ 1 ∧ ∀ q ∈ p.2.2, isW q.1 ∧ okFl q.2
def oV : Option Str → V
  | none => .non
  | some x => .str x
theorem rep_strs {H : Hp} {n : Nat} {S : Addr → Prop} : ∀ {ws : List Str} {xs : List V}, Paired (fun d x => Rep H n S d x) (ws.map D.str) xs → xs = ws.map V.str
  | [], _, .nil => rfl
  | y :: ws, _, .cons h t => by
    cases n with
    | zero => exact h.elim
    | succ n =>
    have h : _ = V.str y := h
    rw [rep_strs t, h]; rfl
theorem rep_words {H : Hp} {n : Nat} {S : Addr → Prop} {ws : List Str} {v : V} (h : Rep H n S (.tup (ws.map .str)) v) : ∃ a, v = .ref a ∧ H a = some (.tup (ws.map V.str)) := by
  cases n with
  | zero => exact h.elim
  | succ n =>
  obtain ⟨a, xs, e, ha, _, pr⟩ := h
  exact ⟨a, e, by rw [ha, rep_strs pr]⟩
/-- within a lock of d -/
theorem rep_in {H1 H2 : Hp} {n : Nat} {S : Addr → Prop} {x : D} {v : V} {d : Addr} {es : List (Key × V)} {u : HO} (hd : H1 d = some (.dK es)) (e2 : Ex (upd H1 d u) H2) (h : Rep H1 n (fun b => S b ∧ b ≠ d) x v) : Rep H2 n (fun b => S b ∧ b ≠ d) x v :=
  rep_ex e2 (rep_lock hd (fun _ z => z.2) h)
section
variable {P : Program} {w : World} {K : PySem.W.Frag} {mg : Str → Option Value} {base : Heap} {C_Shape C_FORMS : Addr}
def preFields : List V → Hp → Prop := fun vs H => ∃ (v : V) (n : Nat) (S : Addr → Prop) (f : Fl), vs = [v] ∧ Rep H n S (flD f) v ∧ okFl f
theorem ok_are_fields (T : Txt K mg C_Shape C_FORMS) (R : Prg K mg C_Shape C_FORMS) : ∃ f fd, Fn P w K mg base "are_fields" 3 ["fields"] (spV (.bl true) preFields) f fd := by
  obtain ⟨_, _, G_is_named⟩ := ok_is_named (P := P) (w := w) (base := base) T R
  obtain ⟨_, _, G_are_words⟩ := ok_are_wordsT (P := P) (w := w) (base := base) T R
  obtain ⟨f, fd, at_, F, kp⟩ := R.are_fields
  refine ⟨f, fd, F.ok sc_are_fields (fun vs H Q E h => ?_) (fun cdv A outer s H vs Q E hr h => ?_), at_, kp, F.binds (fun _ _ _ _ _ _ us hl => match us, hl with | [_], _ => rfl)⟩
  · obtain ⟨⟨v, n, S, f, rfl, _⟩, _⟩ := h; rfl
  · obtain ⟨⟨v, n, S, f, rfl, hv, h2, hnd, hf⟩, k⟩ := h
    cases n with
    | zero => exact hv.elim
    | succ n =>
    obtain ⟨d, es, rfl, _, hd, h5, pr⟩ := id hv
    have le : f.length = es.length := by rw [← pair_len pr, List.length_map]
    refine ⟨_, (pss_cons (ps_if (pt_not (pt_val (pcl G_is_named hr (pa_cons (pv 0) (pa_cons pe_int pa_nil))))) pss_never pss_nil)
  (pss_one (ps_ret (pe_callB (r := rAll K) (cr_all rfl) (by rfl) T.all (by decide +kernel) (pa_cons (pe_lock (pe_lc (own := [("words", 1)]) rfl sc_are_fields.nd (pi_values (pv 0)) (blkOk_by (own := [("words", 1)]) (N := ["fields", "words"]) (sc := defScope s_are_fields) (by decide +kernel)) (fun _ _ _ _ _ => (pg_name (i := 1) sc_are_fields.nd rfl (Or.inl rfl))) (fun _ _ _ _ _ => pts_nil) (fun _ _ _ _ _ => (pe_and (pe_callB (r := rIsi K) call_isi (by rfl) T.isinstance (by decide +kernel) (pa_cons (pv 1) (pa_cons (pe_bltn (v := .ty "tuple") (by rfl) T.tuple boot_tuple rfl) pa_nil))) (pe_one (pcl G_are_words hr (pa_cons (pv 1) (pa_cons pe_int (pa_cons pe_int pa_nil))))))))) pa_nil))))), ?_⟩
    refine Evl.q_when (b := false) (Evl.et_not (a := true) (Evl.et_B (spV_ev (Evl.ea_cons (Evl.ev_var rfl) (Evl.ea_cons Evl.ev_c Evl.ea_nil)) fun H1 e1 => ⟨_, 2, n + 1, S, _, rfl, rep_ex e1 hv, by rw [List.length_map]; omega, fun p hp => ?_⟩))) (fun h => nomatch h) fun _ H1 e1 => Evl.s_ret (ev_allT (el_lcV (fun _ _ _ => Evl.ev_var rfl) (e1 _ _ hd) (by omega) (fun _ => rfl) fun i x v hx od H2 H3 e2 e3 => ?_)) fun H2 e2 => k H2 (e1.trans e2)
    · obtain ⟨q, hq, rfl⟩ := List.mem_map.mp hp
      exact (hf q hq).1
    · obtain ⟨p, hp, _, hr1⟩ := pair_back pr hx
      rw [List.getElem?_map] at hp
      cases ef : f[i]? with
      | none => rw [ef] at hp; cases hp
      | some q =>
        rw [ef] at hp
        cases hp
        obtain ⟨_, ha2, ha3, hw, hn⟩ := hf q (List.mem_of_getElem? ef)
        obtain ⟨a, rfl, ha⟩ := rep_words (rep_in ((e1.trans e2) _ _ hd) e3 (rep_ex (e1.trans e2) hr1))
        exact Evl.ev_is (Evl.ev_andV (a := true) (b := true) (ev_isi (Evl.ev_var rfl) (fun H4 e4 => .base (.tup (e4 _ _ ha))) (kit_ty (by decide +kernel))) fun _ => spV_ev (Evl.ea_cons (Evl.ev_var rfl) (Evl.ea_cons Evl.ev_c (Evl.ea_cons Evl.ev_c Evl.ea_nil))) fun H4 e4 => ⟨a, q.2, 2, 3, rfl, Evl.st_of (e4 _ _ ha), by omega, by omega, by omega, hw, hn⟩) rfl
def preLs : List V → Hp → Prop := fun vs H => ∃ (v : V) (m : Int) (n : Nat) (S : Addr → Prop) (l : List (Str × D)), vs = [v, .int m] ∧ Rep H n S (.dic l) v ∧ (l.length : Int) ≤ m ∧ ∀ p ∈ l, isW p.1 ∧ ∃ l', p.2 = .dic l' ∧ l'.length = 2 ∧ (l'.lookup ("fields" : Str)).isSome = true ∧ (l'.lookup ("inner" : Str)).isSome = true
theorem ok_are_list_shapes (T : Txt K mg C_Shape C_FORMS) (R : Prg K mg C_Shape C_FORMS) : ∃ f fd, Fn P w K mg base "are_list_shapes" 3 ["lists", "most"] (spV (.bl true) preLs) f fd := by
  obtain ⟨_, _, G_is_named⟩ := ok_is_named (P := P) (w := w) (base := base) T R
  obtain ⟨_, _, G_has_names⟩ := ok_has_names (P := P) (w := w) (base := base) T R
  obtain ⟨f, fd, at_, F, kp⟩ := R.are_list_shapes
  refine ⟨f, fd, F.ok sc_are_list_shapes (fun vs H Q E h => ?_) (fun cdv A outer s H vs Q E hr h => ?_), at_, kp, F.binds (fun _ _ _ _ _ _ us hl => match us, hl with | [_, _], _ => rfl)⟩
  · obtain ⟨⟨v, m, n, S, l, rfl, _⟩, _⟩ := h; rfl
  · obtain ⟨⟨v, m, n, S, l, rfl, hv, hm, hl⟩, k⟩ := h
    cases n with
    | zero => exact hv.elim
    | succ n =>
    obtain ⟨d, es, rfl, _, hd, h5, pr⟩ := id hv
    have le : l.length = es.length := pair_len pr
    refine ⟨_, (pss_cons (ps_if (pt_not (pt_val (pcl G_is_named hr (pa_cons (pv 0) (pa_cons (pv 1) pa_nil))))) pss_never pss_nil)
  (pss_one (ps_ret (pe_callB (r := rAll K) (cr_all rfl) (by rfl) T.all (by decide +kernel) (pa_cons (pe_lock (pe_lc (own := [("one", 2)]) rfl sc_are_list_shapes.nd (pi_values (pv 0)) (blkOk_by (own := [("one", 2)]) (N := ["lists", "most", "one"]) (sc := defScope s_are_list_shapes) (by decide +kernel)) (fun _ _ _ _ _ => (pg_name (i := 2) sc_are_list_shapes.nd rfl (Or.inl rfl))) (fun _ _ _ _ _ => pts_nil) (fun _ _ _ _ _ => (pcl G_has_names hr (pa_cons (pv 2) (pa_cons (pe_lst (pa_cons pe_str (pa_cons pe_str pa_nil))) pa_nil)))))) pa_nil))))), ?_⟩
    refine Evl.q_when (b := false) (Evl.et_not (a := true) (Evl.et_B (spV_ev (Evl.ea_cons (Evl.ev_var rfl) (Evl.ea_cons (Evl.ev_var rfl) Evl.ea_nil)) fun H1 e1 => ⟨_, m, n + 1, S, l, rfl, rep_ex e1 hv, hm, fun p hp => (hl p hp).1⟩))) (fun h => nomatch h) fun _ H1 e1 => Evl.s_ret (ev_allT (el_lcV (fun _ _ _ => Evl.ev_var rfl) (e1 _ _ hd) (by omega) (fun _ => rfl) fun i x v hx od H2 H3 e2 e3 => ?_)) fun H2 e2 => k H2 (e1.trans e2)
    obtain ⟨p, hp, _, hr1⟩ := pair_back pr hx
    obtain ⟨_, l', e', hl', hf', hi'⟩ := hl p (List.mem_of_getElem? hp)
    rw [e'] at hr1
    refine ev_fnL (Evl.ev_var rfl) (Evl.el_lst (Evl.ea_cons Evl.ev_c (Evl.ea_cons Evl.ev_c Evl.ea_nil)) (by decide)) fun a H4 e4 ha Q q => ⟨⟨v, a, n, _, l', ["fields", "inner"], rfl, rep_ex e4 (rep_in ((e1.trans e2) _ _ hd) e3 (rep_ex (e1.trans e2) hr1)), Evl.sq_of ha, by decide, hl', fun z hz => ?_⟩, q⟩
    rcases List.mem_cons.mp hz with rfl | hz
    · exact hf'
    · rw [List.mem_singleton.mp hz]; exact hi'
theorem ls0_in {l : List (Str × D)} {i : List (Str × Fl)} (pr : Paired (fun (p : Str × D) (q : Str × Fl) => p.1 = q.1 ∧ ls0 p.2 q.2) l i) (hw : ∀ q ∈ i, isW q.1) : ∀ p ∈ l, isW p.1 ∧ ∃ l', p.2 = .dic l' ∧ l'.length = 2 ∧ (l'.lookup ("fields" : Str)).isSome = true ∧ (l'.lookup ("inner" : Str)).isSome = true := fun p hp => by
  obtain ⟨j, hj, ej⟩ := List.mem_iff_getElem.mp hp
  obtain ⟨q, hq, e1, l', e2, h2, h3, h4⟩ := pair_at pr (i := j) (a := p) (by rw [← ej]; exact List.getElem?_eq_getElem hj)
  exact ⟨e1 ▸ hw q (List.mem_of_getElem? hq), l', e2, h2, by rw [h3]; rfl, by rw [h4]; rfl⟩
theorem ls1_in {l : List (Str × D)} {s : Sh} (pr : Paired (fun (p : Str × D) (q : Str × Fl × List (Str × Fl)) => p.1 = q.1 ∧ ls1 p.2 q.2.1 q.2.2) l s) (hw : ∀ q ∈ s, isW q.1) : ∀ p ∈ l, isW p.1 ∧ ∃ l', p.2 = .dic l' ∧ l'.length = 2 ∧ (l'.lookup ("fields" : Str)).isSome = true ∧ (l'.lookup ("inner" : Str)).isSome = true := fun p hp => by
  obtain ⟨j, hj, ej⟩ := List.mem_iff_getElem.mp hp
  obtain ⟨q, hq, e1, l', e, e2, h2, h3, h4, _⟩ := pair_at pr (i := j) (a := p) (by rw [← ej]; exact List.getElem?_eq_getElem hj)
  exact ⟨e1 ▸ hw q (List.mem_of_getElem? hq), l', e2, h2, by rw [h3]; rfl, by rw [h4]; rfl⟩
/-- an entry of a dict of data -/
theorem rep_entry {H : Hp} {n : Nat} {S : Addr → Prop} {l : List (Str × D)} {k : Str} {d : D} {a : Addr} {es : List (Key × V)} (pr : Paired (fun (q : Str × D) (e : Key × V) => e.1 = Sum.inr q.1 ∧ Rep H n (fun b => S b ∧ b ≠ a) q.2 e.2) l es) (hk : l.lookup k = some d) :
    ∃ v, valV es (Sum.inr k : Key) = some v ∧ Rep H n (fun b => S b ∧ b ≠ a) d v := pair_lk (F := fun d v => Rep H n (fun b => S b ∧ b ≠ a) d v) pr hk
def preLists : List V → Hp → Prop := fun vs H => ∃ (v : V) (n : Nat) (S : Addr → Prop) (d : D) (s : Sh), vs = [v] ∧ Rep H n S d v ∧ shD d s ∧ okSh s
theorem ok_are_lists (T : Txt K mg C_Shape C_FORMS) (R : Prg K mg C_Shape C_FORMS) : ∃ f fd, Fn P w K mg base "are_lists" 4 ["lists"] (spV (.bl true) preLists) f fd := by
  obtain ⟨_, _, G_are_list_shapes⟩ := ok_are_list_shapes (P := P) (w := w) (base := base) T R
  obtain ⟨f, fd, at_, F, kp⟩ := R.are_lists
  refine ⟨f, fd, F.ok sc_are_lists (fun vs H Q E h => ?_) (fun cdv A outer s H vs Q E hr h => ?_), at_, kp, F.binds (fun _ _ _ _ _ _ us hl => match us, hl with | [_], _ => rfl)⟩
  · obtain ⟨⟨v, n, S, d, s, rfl, _⟩, _⟩ := h; rfl
  · obtain ⟨⟨v, n, S, _, z, rfl, hv, ⟨l, rfl, ps⟩, hz2, hznd, hz⟩, k⟩ := h
    cases n with
    | zero => exact hv.elim
    | succ n =>
    obtain ⟨d, es, rfl, _, hd, h5, pr⟩ := id hv
    have le : l.length = es.length := pair_len pr
    have lz : l.length = z.length := pair_len ps
    refine ⟨_, (pss_cons (ps_if (pt_not (pt_val (pcl G_are_list_shapes hr (pa_cons (pv 0) (pa_cons pe_int pa_nil))))) pss_never pss_nil)
  (pss_cons (ps_lock (ps_for PassesOwn.never rfl (pi_values (pv 0)) (pg_name (i := 1) sc_are_lists.nd rfl (Or.inl rfl))
    (pss_cons (ps_if (pt_not (pt_val (pcl G_are_list_shapes hr (pa_cons (pe_dget (hu_of hr) (pv 1) pe_str (fun _ _ => rfl)) (pa_cons pe_int pa_nil))))) pss_never pss_nil)
  (pss_one (ps_if (pt_not (pt_val (pe_callB (r := rAll K) (cr_all rfl) (by rfl) T.all (by decide +kernel) (pa_cons (pe_lock (pe_lc (own := [("inner", 2)]) rfl sc_are_lists.nd (pi_values (pe_dget (hu_of hr) (pv 1) pe_str (fun _ _ => rfl))) (blkOk_by (own := [("inner", 2)]) (N := ["lists", "outer", "inner"]) (sc := defScope s_are_lists) (by decide +kernel)) (fun _ _ _ _ _ => (pg_name (i := 2) sc_are_lists.nd rfl (Or.inl rfl))) (fun _ _ _ _ _ => pts_nil) (fun _ _ _ _ _ => (pcl G_are_list_shapes hr (pa_cons (pe_dget (hu_of hr) (pv 2) pe_str (fun _ _ => rfl)) (pa_cons pe_int pa_nil)))))) pa_nil)))) pss_never pss_nil)))))
  (pss_one (ps_ret pe_bl)))), ?_⟩
    refine Evl.q_when (b := false) (Evl.et_not (a := true) (Evl.et_B (spV_ev (Evl.ea_cons (Evl.ev_var rfl) (Evl.ea_cons Evl.ev_c Evl.ea_nil)) fun H1 e1 => ⟨_, 2, n + 1, S, l, rfl, rep_ex e1 hv, by omega, ls1_in ps fun q hq => (hz q hq).1⟩))) (fun h => nomatch h) fun _ H1 e1 => ?_
    have hd1 := e1 _ _ hd
    refine for_lock (J := fun od => Itd d od es) (xs := fun _ => none) hd1 (fun od R r => ⟨_, rfl, d, od, es, rfl, upd_same, r⟩) (fun od => walk_values) (fun od i σ' H' => ∃ o1, σ' = [some (.ref d), o1, none] ∧ Ex (upd H1 d (.frz od (.dK es))) H') (fun od => ⟨_, rfl, Ex.refl _⟩) (fun od i σ' H' _ ⟨_, _, e⟩ => e _ _ upd_same) (fun od i x σ' H' H2 hi ⟨o1, eσ, e⟩ y => ?_) fun od σ' H' ⟨_, _, e⟩ => k _ (e1.trans (unlock hd1 e))
    subst eσ
    obtain ⟨rfl, key, hx⟩ := y
    obtain ⟨p, hp, _, hr1⟩ := pair_back pr hx
    obtain ⟨q, hq, _, l1, e', ep, _, _, hin, pi⟩ := pair_at ps hp
    obtain ⟨_, _, hq1, hqw⟩ := hz q (List.mem_of_getElem? hq)
    rw [ep] at hr1
    have hr2 := rep_in hd1 e (rep_ex e1 hr1)
    cases n with
    | zero => exact hr2.elim
    | succ n =>
    obtain ⟨de, ee, rfl, ⟨_, nde⟩, hde, _, pe⟩ := id hr2
    obtain ⟨vi, hvi, hri⟩ := rep_entry pe hin
    refine Evl.q_when (b := false) (Evl.et_not (a := true) (Evl.et_B (spV_ev (Evl.ea_cons (ev_get (Evl.ev_var rfl) Evl.ev_c (.inl hde) hvi) (Evl.ea_cons Evl.ev_c Evl.ea_nil)) fun H4 e4 => ⟨_, 1, n, _, e', rfl, rep_ex e4 hri, by rw [pair_len pi]; omega, ls0_in pi fun q' hq' => (hqw q' hq').1⟩))) (fun h => nomatch h) fun _ H4 e4 => ?_
    cases n with
    | zero => exact hri.elim
    | succ n =>
    obtain ⟨di, ei, rfl, ⟨_, ndi⟩, hdi, hl5, pri⟩ := id hri
    have le' := pair_len pri
    refine Evl.s_when (b := false) (Evl.et_not (a := true) (Evl.et_B (ev_allT (el_lcV (fun H5 e5 od' => ?_) (e4 _ _ hdi) (by omega) (fun _ => rfl) fun i' x' v' hx' od' H5 H6 e5 e6 => ?_)))) (fun h => nomatch h) fun _ H5 e5 => ⟨_, rfl, e.trans (e4.trans e5)⟩
    · exact ev_get (Evl.ev_var rfl) Evl.ev_c (.inl (by rw [upd_ne ndi.symm]; exact (e4.trans e5) _ _ hde)) hvi
    · obtain ⟨p', hp', _, hr'⟩ := pair_back pri hx'
      obtain ⟨q', hq', _, l2, ep2, _, _, hin2⟩ := pair_at pi hp'
      rw [ep2] at hr'
      have hr3 := rep_in ((e4.trans e5) _ _ hdi) e6 (rep_ex (e4.trans e5) hr')
      cases n with
      | zero => exact hr3.elim
      | succ n =>
      obtain ⟨dj, ej, rfl, _, hdj, _, pj⟩ := id hr3
      obtain ⟨vj, hvj, hrj⟩ := rep_entry pj hin2
      exact spV_ev (Evl.ea_cons (ev_get (Evl.ev_var rfl) Evl.ev_c (.inl hdj) hvj) (Evl.ea_cons Evl.ev_c Evl.ea_nil)) fun H7 e7 => ⟨_, 0, n, _, [], rfl, rep_ex e7 hrj, by decide, fun _ hm => nomatch hm⟩
end
end Pk

namespace Pk
open PySem PySem.Spec PyProof.Rows L2 Ssb
open Evl (Ex Ev EvT EvL EvA EvU)
/-- a row's tuple at H', its fields as they stand at H -/
def RowAt (H H' : Hp) (n : Nat) (S : Addr → Prop) (r : Ro) (x : V) : Prop := ∃ a fv, x = .ref a ∧ H' a = some (.tup [.str r.1, oV r.2.1, fv]) ∧ Rep H n S (flD r.2.2) fv
theorem rowAt_to {H H' H2 : Hp} {n : Nat} {S : Addr → Prop} {r : Ro} {x : V} (k : ∀ a xs, H' a = some (.tup xs) → H2 a = some (.tup xs)) (h : RowAt H H' n S r x) : RowAt H H2 n S r x := by
  obtain ⟨a, fv, e, ha, hr⟩ := h; exact ⟨a, fv, e, k a _ ha, hr⟩
theorem ex_tup {H H' : Hp} (e : Ex H H') : ∀ a xs, H a = some (.tup xs) → H' a = some (.tup xs) := fun a xs h => e a _ h
theorem upd_tup {H : Hp} {d : Addr} {o u : HO} (hd : H d = some o) (no : ∀ xs, o ≠ .tup xs) : ∀ a xs, H a = some (.tup xs) → (upd H d u) a = some (.tup xs) := fun a xs h => by
  by_cases e : a = d
  · subst e; rw [hd] at h; exact absurd (Option.some.inj h) (no xs)
  · rw [upd_ne e]; exact h
section
variable {P : Program} {w : World} {K : PySem.W.Frag} {mg : Str → Option Value} {base : Heap} {C_Shape C_FORMS : Addr}
def spRows : Sp := fun vs H Q _ => ∃ (v : V) (n : Nat) (S : Addr → Prop) (d : D) (s : Sh), vs = [v] ∧ Rep H n S d v ∧ shD d s ∧ okSh s ∧
  ∀ H' p xs, Ex H H' → H p = none → H' p = some (.lst xs) → Paired (RowAt H H' n S) (rowsS s) xs → Q (.ref p) H'
theorem ok_list_rows (T : Txt K mg C_Shape C_FORMS) (R : Prg K mg C_Shape C_FORMS) : ∃ f fd, Fn P w K mg base "list_rows" 1 ["lists"] spRows f fd := by
  obtain ⟨f, fd, at_, F, kp⟩ := R.list_rows
  refine ⟨f, fd, F.ok sc_list_rows (fun vs H Q E h => ?_) (fun cdv A outer s H vs Q E hr h => ?_), at_, kp, F.binds (fun _ _ _ _ _ _ us hl => match us, hl with | [_], _ => rfl)⟩
  · obtain ⟨v, n, S, d, s, rfl, _⟩ := h; rfl
  · obtain ⟨v, n0, S, _, z, rfl, hv, ⟨l, rfl, ps⟩, ⟨hz2, hznd, hz⟩, k⟩ := h
    cases n0 with
    | zero => exact hv.elim
    | succ n =>
    obtain ⟨d, es, rfl, _, hd, h5, pr⟩ := id hv
    have le : l.length = es.length := pair_len pr
    have lz : l.length = z.length := pair_len ps
    refine ⟨_, (pss_cons (ps_set (i := 1) sc_list_rows.nd rfl (Or.inl rfl) (pe_lst pa_nil))
  (pss_cons (ps_lock (ps_for PassesOwn.never rfl (pi_items (pv 0)) (show PG _ _ (gTup K 2 _) from pg_tup (n := 2) rfl (pgs_cons (pg_name (i := 2) sc_list_rows.nd rfl (Or.inl rfl)) (pgs_cons (pg_name (i := 3) sc_list_rows.nd rfl (Or.inl rfl)) pgs_nil)))
    (pss_cons (ps_expr (show PE _ _ (tBM K _ _ _ _) from pe_bm PySem.F.plainAttrs_list PySem.F.slot_list_append PySem.F.type_list_append mt_append (pv 1) (pa_cons (pe_tup (pa_cons (pv 2) (pa_cons pe_non (pa_cons (pe_dget (hu_of hr) (pv 3) pe_str (fun _ _ => rfl)) pa_nil)))) pa_nil)))
  (pss_one (ps_lock (ps_for PassesOwn.never rfl (pi_items (pe_dget (hu_of hr) (pv 3) pe_str (fun _ _ => rfl))) (show PG _ _ (gTup K 2 _) from pg_tup (n := 2) rfl (pgs_cons (pg_name (i := 4) sc_list_rows.nd rfl (Or.inl rfl)) (pgs_cons (pg_name (i := 5) sc_list_rows.nd rfl (Or.inl rfl)) pgs_nil)))
    (pss_one (ps_expr (show PE _ _ (tBM K _ _ _ _) from pe_bm PySem.F.plainAttrs_list PySem.F.slot_list_append PySem.F.type_list_append mt_append (pv 1) (pa_cons (pe_tup (pa_cons (pv 4) (pa_cons (pv 2) (pa_cons (pe_dget (hu_of hr) (pv 5) pe_str (fun _ _ => rfl)) pa_nil)))) pa_nil))))))))))
  (pss_one (ps_ret (pv 1))))), ?_⟩
    refine Evl.q_asgL (Evl.el_lst Evl.ea_nil (by decide)) fun r H1 hr0 e1 hr1 => ?_
    have hd1 := e1 _ _ hd
    have ndr : r ≠ d := fun e => by rw [e, hd] at hr0; cases hr0
    refine for_lock (J := fun od => Iti d od es) (xs := fun _ => none) hd1 (fun od G g => ⟨_, rfl, d, od, es, rfl, upd_same, g⟩) (fun od => walk_items)
      (fun od i σ' H' => ∃ x2 x3 x4 x5 acc, σ' = [some (.ref d), some (.ref r), x2, x3, x4, x5] ∧ Ex (upd H d (.frz od (.dK es))) H' ∧ H' r = some (.lst acc) ∧ acc.length ≤ 2 * i ∧ Paired (RowAt H H' (n + 1) S) (rowsS (z.take i)) acc)
      (fun od => ⟨_, _, _, _, [], rfl, fun a o ha => ?_, by rw [upd_ne ndr]; exact hr1, Nat.zero_le _, .nil⟩) (fun od i σ' H' _ ⟨_, _, _, _, _, _, e, _⟩ => e _ _ upd_same) (fun od i x σ' H' H2 hi ⟨x2, x3, x4, x5, acc, eσ, e, hacc, hlen, hrows⟩ y => ?_) fun od σ' H' ⟨x2, x3, x4, x5, acc, eσ, e, hacc, hlen, hrows⟩ => ?_
    · by_cases ed : a = d
      · subst ed; rw [upd_same] at ha ⊢; exact ha
      · rw [upd_ne ed] at ha ⊢; exact e1 a o ha
    · subst eσ
      obtain ⟨Tp, x1, v1, rfl, nT, rfl, hx1, hv1⟩ := y
      have hx1 : Option.map (fun kv : Key × V => kV kv.1) es[i]? = some x1 := hx1
      have hv1 : Option.map Prod.snd es[i]? = some v1 := hv1
      cases hes : es[i]? with
      | none => rw [hes] at hx1; cases hx1
      | some kv =>
      rw [hes] at hx1 hv1
      obtain ⟨key, vv⟩ := kv
      obtain ⟨p, hp, hk1, hr2⟩ := pair_back pr hes
      obtain ⟨q, hq, ek, l1, e', ep, _, hfl, hin, pi⟩ := pair_at ps hp
      obtain ⟨_, _, hq1, hqw⟩ := hz q (List.mem_of_getElem? hq)
      have hk1 : key = Sum.inr p.1 := hk1
      have ex1 : x1 = .str q.1 := by rw [← ek, ← Option.some.inj hx1, hk1]; rfl
      have ev1 : vv = v1 := Option.some.inj hv1
      subst ex1; subst ev1
      rw [ep] at hr2
      cases n with
      | zero => exact hr2.elim
      | succ n =>
      obtain ⟨de, ee, hde0, ⟨_, nde⟩, hde, _, pe⟩ := id hr2
      have hde0 : vv = .ref de := hde0
      subst hde0
      obtain ⟨vf, hvf, hrf⟩ := rep_entry pe hfl
      obtain ⟨vi, hvi, hri⟩ := rep_entry pe hin
      have step : ∀ {Hx : Hp}, Ex H' Hx → ∀ {a : Addr} {o : HO}, H a = some o → a ≠ d → Hx a = some o := fun ex a o ha hne => ex a o (e a o (by rw [upd_ne hne]; exact ha))
      have nTr : Tp ≠ r := fun z => by rw [z, hacc] at nT; cases nT
      refine ⟨Tp, [.str q.1, .ref de], rfl, Evl.st_of upd_same, rfl, _, _, rfl, _, _, rfl, rfl, ?_⟩
      have eT : Ex H' (upd H' Tp (.tup [.str q.1, .ref de])) := Ex.new nT
      refine Evl.q_appU (l := r) (eT _ _ hacc) (Evl.ev_var rfl) (Evl.eu_tup (Evl.ea_cons (Evl.ev_var rfl) (Evl.ea_cons Evl.ev_c (Evl.ea_cons (ev_get (Evl.ev_var rfl) Evl.ev_c (.inl (step eT hde nde)) hvf) Evl.ea_nil))) (by show 3 ≤ 100000; decide)) (by omega) fun tp H3 htp0 e3 htp => ?_
      have htr : tp ≠ r := fun z => by rw [z, eT _ _ hacc] at htp0; cases htp0
      have er0 : H r = none := hr0
      cases n with
      | zero => exact hri.elim
      | succ n =>
      obtain ⟨di, ei, hdi0, ⟨⟨_, ndi⟩, ndie⟩, hdi, hl5, pri⟩ := id hri
      have ndir : di ≠ r := fun z => by rw [z, er0] at hdi; cases hdi
      subst hdi0
      -- the heap behind the first append
      have e4 : Ex (upd H d (.frz od (.dK es))) (upd H3 r (.lst (acc ++ [.ref tp]))) := by
        refine Ex.mut (e.trans (eT.trans e3)) ?_
        rw [upd_ne ndr]; exact er0
      have hdi4 : (upd H3 r (.lst (acc ++ [.ref tp]))) di = some (.dK ei) := e4 _ _ (by rw [upd_ne ndi]; exact hdi)
      have hde4 : (upd H3 r (.lst (acc ++ [.ref tp]))) de = some (.dK ee) := e4 _ _ (by rw [upd_ne nde]; exact hde)
      have rows4 : Paired (RowAt H (upd H3 r (.lst (acc ++ [.ref tp]))) (n + 1 + 1 + 1) S) (rowsS (z.take i) ++ [(q.1, none, q.2.1)]) (acc ++ [.ref tp]) := by
        have tt : ∀ a xs, H3 a = some (.tup xs) → (upd H3 r (.lst (acc ++ [.ref tp]))) a = some (.tup xs) := upd_tup (e3 _ _ (eT _ _ hacc)) (fun xs h => nomatch h)
        refine pair_snoc (pair_imp hrows fun a b h => rowAt_to (fun a xs h => tt a xs (e3 _ _ (eT _ _ h))) h) ⟨tp, vf, rfl, tt _ _ htp, rep_up (rep_up (rep_S (fun b hb => hb.1.1) hrf))⟩
      have lei := pair_len pri
      have lepi := pair_len pi
      refine for_lock (J := fun od2 => Iti di od2 ei) (xs := fun _ => none) hdi4 (fun od2 G g => ⟨.ref de, rfl, de, .ref di, rfl, .inl ⟨ee, Sum.inr "inner", .inl (by rw [upd_ne ndie.symm]; exact hde4), rfl, hvi.symm⟩, di, od2, ei, rfl, upd_same, g⟩) (fun od2 => walk_items)
        (fun od2 j σ' H5 => ∃ y4 y5 acc2, σ' = [some (.ref d), some (.ref r), some (.str q.1), some (.ref de), y4, y5] ∧ Ex (upd (upd H d (.frz od (.dK es))) di (.frz od2 (.dK ei))) H5 ∧ H5 r = some (.lst acc2) ∧ acc2.length ≤ 2 * i + 1 + j ∧ Paired (RowAt H H5 (n + 1 + 1 + 1) S) (rowsS (z.take i) ++ (q.1, none, q.2.1) :: (q.2.2.take j).map fun g => (g.1, some q.1, g.2)) acc2)
        (fun od2 => ?_) (fun od2 j σ' H5 _ ⟨_, _, _, _, e5, _⟩ => e5 _ _ upd_same) (fun od2 j x σ' H5 H6 hj ⟨y4, y5, acc2, eσ, e5, hacc2, hlen2, hrows2⟩ y => ?_) fun od2 σ' H5 ⟨y4, y5, acc2, eσ, e5, hacc2, hlen2, hrows2⟩ => ?_
      · -- ahead of the inner loop
        refine ⟨_, _, acc ++ [.ref tp], rfl, fun a o ha => ?_, by rw [upd_ne ndir.symm, upd_same], by rw [List.length_append, List.length_singleton]; omega, pair_imp rows4 fun a b h => rowAt_to (upd_tup hdi4 (fun xs h => nomatch h)) h⟩
        by_cases ed : a = di
        · subst ed; rw [upd_same] at ha ⊢; exact ha
        · rw [upd_ne ed] at ha ⊢; exact e4 a o ha
      · -- a turn of the inner loop
        subst eσ
        obtain ⟨Tq, x1, v1, rfl, nT2, rfl, hx1, hv1⟩ := y
        have hx1 : Option.map (fun kv : Key × V => kV kv.1) ei[j]? = some x1 := hx1
        have hv1 : Option.map Prod.snd ei[j]? = some v1 := hv1
        cases hei : ei[j]? with
        | none => rw [hei] at hx1; cases hx1
        | some kv =>
        rw [hei] at hx1 hv1
        obtain ⟨key, vv⟩ := kv
        obtain ⟨p2, hp2, hk2, hr3⟩ := pair_back pri hei
        obtain ⟨q2, hq2, ek2, l2, ep2, _, hfl2, _⟩ := pair_at pi hp2
        have hk2 : key = Sum.inr p2.1 := hk2
        have ex2 : x1 = .str q2.1 := by rw [← ek2, ← Option.some.inj hx1, hk2]; rfl
        have ev2 : vv = v1 := Option.some.inj hv1
        subst ex2; subst ev2
        rw [ep2] at hr3
        cases n with
        | zero => exact hr3.elim
        | succ n =>
        obtain ⟨dj, ej, hdj0, ⟨⟨⟨_, ndj⟩, ndje⟩, ndji⟩, hdj, _, pj⟩ := id hr3
        have hdj0 : vv = .ref dj := hdj0
        subst hdj0
        obtain ⟨vg, hvg, hrg⟩ := rep_entry pj hfl2
        refine ⟨Tq, [.str q2.1, .ref dj], rfl, Evl.st_of upd_same, rfl, _, _, rfl, _, _, rfl, rfl, ?_⟩
        have eT2 : Ex H5 (upd H5 Tq (.tup [.str q2.1, .ref dj])) := Ex.new nT2
        refine Evl.s_appU (l := r) (eT2 _ _ hacc2) (Evl.ev_var rfl) (Evl.eu_tup (Evl.ea_cons (Evl.ev_var rfl) (Evl.ea_cons (Evl.ev_var rfl) (Evl.ea_cons (ev_get (Evl.ev_var rfl) Evl.ev_c (.inl (eT2 _ _ (e5 _ _ (by rw [upd_ne ndji, upd_ne ndj]; exact hdj)))) hvg) Evl.ea_nil))) (by show 3 ≤ 100000; decide)) (by omega) fun tq H7 htq0 e7 htq => ?_
        have r5 : (upd (upd H d (.frz od (.dK es))) di (.frz od2 (.dK ei))) r = none := by rw [upd_ne ndir.symm, upd_ne ndr]; exact er0
        refine ⟨_, _, acc2 ++ [.ref tq], rfl, Ex.mut (e5.trans (eT2.trans e7)) r5, upd_same, by rw [List.length_append, List.length_singleton]; omega, ?_⟩
        have tt : ∀ a xs, H7 a = some (.tup xs) → (upd H7 r (.lst (acc2 ++ [.ref tq]))) a = some (.tup xs) := upd_tup (e7 _ _ (eT2 _ _ hacc2)) (fun xs h => nomatch h)
        have ej2 : (q.2.2.take (j + 1)) = q.2.2.take j ++ [q2] := by rw [List.take_add_one, hq2]; rfl
        rw [ej2, List.map_append]
        have := pair_snoc (pair_imp hrows2 fun a b h => rowAt_to (fun a xs h => tt a xs (e7 _ _ (eT2 _ _ h))) h) (a := (q2.1, some q.1, q2.2)) (b := V.ref tq) ⟨tq, vg, rfl, tt _ _ htq, rep_up (rep_up (rep_up (rep_up (rep_S (fun b hb => hb.1.1.1.1) hrg))))⟩
        rw [List.append_assoc] at this
        exact this
      · -- behind the inner loop
        subst eσ
        refine ⟨_, _, _, _, acc2, rfl, ?_, by rw [upd_ne ndir.symm]; exact hacc2, by omega, ?_⟩
        · refine Ex.trans ?_ (unlock (u := .dK ei) (u' := .frz od2 (.dK ei)) ?_ e5)
          · exact Ex.refl _
          · rw [upd_ne ndi]; exact hdi
        · have ez : rowsS (z.take (i + 1)) = rowsS (z.take i) ++ (q.1, none, q.2.1) :: (q.2.2.take ei.length).map fun g => (g.1, some q.1, g.2) := by
            rw [List.take_add_one, hq]
            have et : q.2.2.take ei.length = q.2.2 := List.take_of_length_le (by omega)
            show (z.take i ++ [q]).flatMap rowsOf = _
            rw [List.flatMap_append, et]
            simp [rowsS, rowsOf]
          rw [ez]
          have hdi5 := e5 _ _ (upd_same (H := upd H d (.frz od (.dK es))))
          exact pair_imp hrows2 fun a b h => rowAt_to (upd_tup hdi5 (fun xs h => nomatch h)) h
    · subst eσ
      refine ⟨.ref r, rfl, k _ r acc (unlock hd e) hr0 (by rw [upd_ne ndr]; exact hacc) ?_⟩
      have ez : z.take es.length = z := List.take_of_length_le (by omega)
      rw [ez] at hrows
      have hd5 := e _ _ (upd_same (H := H))
      exact pair_imp hrows fun a b h => rowAt_to (upd_tup hd5 (fun xs h => nomatch h)) h
end
end Pk

namespace Pk
open PySem PySem.Spec PyProof.Rows L2 Ssb
open Evl (Ex Ev EvT EvL EvA EvU)
theorem okSh_rows {s : Sh} (h : okSh s) : (rowsS s).length ≤ 4 ∧ ∀ r ∈ rowsS s, isW r.1 ∧ okFl r.2.2 := by
  obtain ⟨h2, _, hz⟩ := h
  refine ⟨?_, fun r hr => ?_⟩
  · have key : ∀ l : Sh, (∀ p ∈ l, p.2.2.length ≤ 1) → (rowsS l).length ≤ 2 * l.length := by
      intro l
      induction l with
      | nil => intro _; exact Nat.le_refl _
      | cons p l ih =>
        intro hl
        have i1 := ih fun q hq => hl q (List.mem_cons_of_mem _ hq)
        have i2 := hl p List.mem_cons_self
        show (rowsOf p ++ rowsS l).length ≤ 2 * (l.length + 1)
        rw [List.length_append]
        have : (rowsOf p).length = p.2.2.length + 1 := by simp [rowsOf]
        omega
    have := key s fun p hp => (hz p hp).2.2.1
    omega
  · obtain ⟨p, hp, hr⟩ := List.mem_flatMap.mp hr
    obtain ⟨w1, f1, _, hq⟩ := hz p hp
    rcases List.mem_cons.mp hr with rfl | hr
    · exact ⟨w1, f1⟩
    · obtain ⟨q, hq1, rfl⟩ := List.mem_map.mp hr
      exact hq q hq1
/-- the three parts of a row go to their slots -/
theorem row_unp {H H' : Hp} {K : PySem.W.Frag} {n : Nat} {S : Addr → Prop} {r : Ro} {x : V} {i j k : Nat} (h : RowAt H H' n S r x) :
    ∃ fv, Rep H n S (flD r.2.2) fv ∧ ∀ {vs : List Nat} {σ : L2.St} (H2 : Hp), Ex H' H2 → (∀ y1 y2 y3, wipe ((((wipe σ vs).set i y1).set j y2).set k y3) vs = wipe σ vs) → Unp (gTup K 3 (gCons (gName i) (gCons (gName j) (gCons (gName k) gNil)))) vs σ ((((wipe σ vs).set i (some (.str r.1))).set j (some (oV r.2.1))).set k (some fv)) x H2 := by
  obtain ⟨a, fv, rfl, ha, hr⟩ := h
  exact ⟨fv, hr, fun H2 e2 hw => ⟨hw _ _ _, fun Kont q => ⟨a, _, rfl, Evl.st_of (e2 _ _ ha), rfl, _, _, rfl, _, _, rfl, _, _, rfl, rfl, q⟩⟩⟩
section
variable {P : Program} {w : World} {K : PySem.W.Frag} {mg : Str → Option Value} {base : Heap} {C_Shape C_FORMS : Addr}
def preWrong : List V → Hp → Prop := fun vs H => ∃ (a : Addr) (fl : List Str) (v : V) (n : Nat) (S : Addr → Prop) (d : D) (s : Sh), vs = [.ref a, v] ∧ H a = some (.lst (fl.map V.str)) ∧ fl.length ≤ 2 ∧ (∀ x ∈ fl, isW x) ∧ fl.Nodup ∧ Rep H n S d v ∧ shD d s ∧ okSh s
theorem ok_wrong_part (T : Txt K mg C_Shape C_FORMS) (R : Prg K mg C_Shape C_FORMS) : ∃ f fd, Fn P w K mg base "wrong_part" 5 ["flags", "lists"] (spV .non preWrong) f fd := by
  obtain ⟨_, _, G_are_words⟩ := ok_are_wordsL (P := P) (w := w) (base := base) T R
  obtain ⟨_, _, G_are_lists⟩ := ok_are_lists (P := P) (w := w) (base := base) T R
  obtain ⟨_, _, G_are_fields⟩ := ok_are_fields (P := P) (w := w) (base := base) T R
  obtain ⟨_, _, G_list_rows⟩ := ok_list_rows (P := P) (w := w) (base := base) T R
  obtain ⟨f, fd, at_, F, kp⟩ := R.wrong_part
  refine ⟨f, fd, F.ok sc_wrong_part (fun vs H Q E h => ?_) (fun cdv A outer s H vs Q E hr h => ?_), at_, kp, F.binds (fun _ _ _ _ _ _ us hl => match us, hl with | [_, _], _ => rfl)⟩
  · obtain ⟨⟨a, fl, v, n, S, d, s, rfl, _⟩, _⟩ := h; rfl
  · obtain ⟨⟨a, fl, v, n, S, d, z, rfl, ha, f2, fw, fn, hv, hd, hz⟩, k⟩ := h
    obtain ⟨r4, rok⟩ := okSh_rows hz
    refine ⟨_, (pss_cons (ps_if (PW.pt (pw_or (pt_not (pt_val (pe_callB (r := rIsiT K) call_isiT (by rfl) T.isinstance (by decide +kernel) (pa_cons (pv 0) (pa_cons (pe_tup (pa_cons (pe_bltn (v := .ty "list") (by rfl) T.list boot_list rfl) (pa_cons (pe_bltn (v := .ty "tuple") (by rfl) T.tuple boot_tuple rfl) pa_nil))) pa_nil))))) (pw_or1 (pt_not (pt_val (pcl G_are_words hr (pa_cons (pv 0) (pa_cons pe_int (pa_cons pe_int pa_nil))))))))) pss_never pss_nil)
  (pss_cons (ps_if (pt_not (pt_val (pcl G_are_lists hr (pa_cons (pv 1) pa_nil)))) pss_never pss_nil)
  (pss_cons (ps_set (i := 2) sc_wrong_part.nd rfl (Or.inl rfl) (pcl G_list_rows hr (pa_cons (pv 1) pa_nil)))
  (pss_cons (ps_if (pt_not (pt_val (pe_callB (r := rAll K) (cr_all rfl) (by rfl) T.all (by decide +kernel) (pa_cons (pe_lc (own := [("name", 3), ("parent", 4), ("fields", 5)]) rfl sc_wrong_part.nd (show PI _ _ _ (iList K _) from pi_list (pv 2)) (blkOk_by (own := [("name", 3), ("parent", 4), ("fields", 5)]) (N := ["flags", "lists", "rows", "name", "parent", "fields"]) (sc := defScope s_wrong_part) (by decide +kernel)) (fun _ _ _ _ _ => (show PG _ _ (gTup K 3 _) from pg_tup (n := 3) rfl (pgs_cons (pg_name (i := 3) sc_wrong_part.nd rfl (Or.inl rfl)) (pgs_cons (pg_name (i := 4) sc_wrong_part.nd rfl (Or.inl rfl)) (pgs_cons (pg_name (i := 5) sc_wrong_part.nd rfl (Or.inl rfl)) pgs_nil))))) (fun _ _ _ _ _ => pts_nil) (fun _ _ _ _ _ => (pcl G_are_fields hr (pa_cons (pv 5) pa_nil)))) pa_nil)))) pss_never pss_nil)
  (pss_cons (ps_if (pt_cmpR op_lt (pe_callB call_lenTxs (by rfl) T.len (by decide +kernel) (pa_cons (pe_scT (own := [("name", 3), ("parent", 4), ("fields", 5)]) rfl sc_wrong_part.nd (show PI _ _ _ (iList K _) from pi_list (pv 2)) (blkOk_by (own := [("name", 3), ("parent", 4), ("fields", 5)]) (N := ["flags", "lists", "rows", "name", "parent", "fields"]) (sc := defScope s_wrong_part) (by decide +kernel)) (fun _ _ _ _ _ => (show PG _ _ (gTup K 3 _) from pg_tup (n := 3) rfl (pgs_cons (pg_name (i := 3) sc_wrong_part.nd rfl (Or.inl rfl)) (pgs_cons (pg_name (i := 4) sc_wrong_part.nd rfl (Or.inl rfl)) (pgs_cons (pg_name (i := 5) sc_wrong_part.nd rfl (Or.inl rfl)) pgs_nil))))) (fun _ _ _ _ _ => pts_nil) (fun _ _ _ _ _ => (pv 3))) pa_nil)) (pe_callB (r := rLenA K) call_len (by rfl) T.len (by decide +kernel) (pa_cons (pv 2) pa_nil)) (nomark _)) pss_never pss_nil)
  (pss_one (ps_ret pe_non))))))), ?_⟩
    refine Evl.q_when (b := false) (Evl.et_or (a := false) (b := false) (Evl.et_not (a := true) (Evl.et_B (ev_isi2 (Evl.ev_var rfl) (fun H1 e1 => .base (.lst (e1 _ _ ha))) (kitAny_cons (b := true) (kit_ty (by decide +kernel)) (fun h => nomatch h) fun _ => rfl)))) fun _ => Evl.et_not (a := true) (Evl.et_B (spV_ev (Evl.ea_cons (Evl.ev_var rfl) (Evl.ea_cons Evl.ev_c (Evl.ea_cons Evl.ev_c Evl.ea_nil))) fun H1 e1 => ⟨a, fl, 0, 2, rfl, Evl.sq_of (e1 _ _ ha), by omega, by omega, by omega, fw, fn⟩))) (fun h => nomatch h) fun _ H1 e1 => ?_
    refine Evl.q_when (b := false) (Evl.et_not (a := true) (Evl.et_B (spV_ev (Evl.ea_cons (Evl.ev_var rfl) Evl.ea_nil) fun H2 e2 => ⟨v, n, S, d, z, rfl, rep_ex (e1.trans e2) hv, hd, hz⟩))) (fun h => nomatch h) fun _ H2 e2 => ?_
    refine ⟨_, rfl, v, n, S, d, z, rfl, rep_ex (e1.trans e2) hv, hd, hz, fun H3 p xs e3 np hp hrows => ?_⟩
    have lx := pair_len hrows
    have row : ∀ (i : Nat) (x : V), xs[i]? = some x → ∃ r, (rowsS z)[i]? = some r ∧ RowAt H2 H3 n S r x := fun i x hx => pair_back hrows hx
    refine Evl.q_when (b := false) (Evl.et_not (a := true) (Evl.et_B (ev_allT (n := xs.length) (el_lcG (Evl.ev_var rfl) (Evl.sq_of hp) (by omega) fun i x hx H4 e4 => ?_)))) (fun h => nomatch h) fun _ H4 e4 => ?_
    · obtain ⟨r, hr1, hr2⟩ := row i x hx
      obtain ⟨fv, hf, hu⟩ := row_unp (K := K) hr2 (i := 3) (j := 4) (k := 5)
      exact ⟨_, hu H4 e4 (by intro _ _ _; rfl), fun H5 e5 => spV_ev (Evl.ea_cons (Evl.ev_var rfl) Evl.ea_nil) fun H6 e6 => ⟨fv, n, S, r.2.2, rfl, rep_ex (e3.trans (e5.trans e6)) hf, (rok r (List.mem_of_getElem? hr1)).2⟩⟩
    · refine Evl.q_when (b := false) (Evl.et_test (Evl.ev_is (Evl.ev_op (ex_scG (nms := (rowsS z).map (·.1)) (Evl.ev_var rfl) (Evl.sq_of (e4 _ _ hp)) (by rw [List.length_map]; exact lx) (by omega) fun i x hx => ?_) (ev_lenL (Evl.ev_var rfl) (.inl (Evl.sq_of (e4 _ _ hp)))) Evl.rv_I0) ?_)) (fun h => nomatch h) fun _ H5 e5 => Evl.s_ret Evl.ev_c fun H6 e6 => k H6 (e1.trans (e2.trans (e3.trans (e4.trans (e5.trans e6)))))
      · obtain ⟨r, hr1, hr2⟩ := row i x hx
        refine ⟨r.1, by rw [List.getElem?_map, hr1]; rfl, fun H5 e5 => ?_⟩
        obtain ⟨fv, hf, hu⟩ := row_unp (K := K) hr2 (i := 3) (j := 4) (k := 5)
        exact ⟨_, hu H5 (e4.trans e5) (by intro _ _ _; rfl), fun H6 e6 => Evl.ev_var rfl⟩
      · rw [met_nodup _ [] hz.2.1, List.nil_append, List.length_map, lx]
        simp
end
end Pk

namespace Pk
open PySem PySem.Spec PyProof.Rows L2 Ssb
open Evl (Ex Ev EvT EvL EvA EvU)
/-! ### a Shape as it stands -/
def oD : Option Str → D
  | none => .non
  | some x => .str x
def tabD (s : Sh) : D := .dic ((rowsS s).map fun r => (r.1, .tup [oD r.2.1, flD r.2.2]))
def shF (ft tb : Addr) : List (Str × V) := putF "table" (.ref tb) (putF "flags" (.ref ft) [])
theorem ne_tf : ¬ (("table" : Str) = "flags") := by decide +kernel
theorem ne_ft : ¬ (("flags" : Str) = "table") := by decide +kernel
theorem shF_flags (ft tb : Addr) : (shF ft tb).lookup ("flags" : Str) = some (.ref ft) := by
  unfold shF; rw [lookup_putF, if_neg ne_ft, lookup_putF, if_pos rfl]
theorem shF_table (ft tb : Addr) : (shF ft tb).lookup ("table" : Str) = some (.ref tb) := by
  unfold shF; rw [lookup_putF, if_pos rfl]
theorem shF_no (ft tb : Addr) {m : Str} (h1 : ¬ m = "flags") (h2 : ¬ m = "table") : (shF ft tb).lookup m = none := by
  unfold shF; rw [lookup_putF, if_neg h2, lookup_putF, if_neg h1]; rfl
/-- at p: the Shape with these flags (ascending) and these lists -/
def ShapeAt (C : Addr) (H : Hp) (p : Addr) (fl : List Str) (s : Sh) (S : Addr → Prop) : Prop := ∃ dx ft tb, H p = some (.ins C dx (shF ft tb)) ∧ H ft = some (.tup (fl.map V.str)) ∧ Rep H 5 S (tabD s) (.ref tb)
theorem ShapeAt.ex {C : Addr} {H H' : Hp} {p : Addr} {fl : List Str} {s : Sh} {S : Addr → Prop} (e : Ex H H') (h : ShapeAt C H p fl s S) : ShapeAt C H' p fl s S := by
  obtain ⟨dx, ft, tb, h1, h2, h3⟩ := h; exact ⟨dx, ft, tb, e _ _ h1, e _ _ h2, rep_ex e h3⟩
/-- fields in a new dict with the same entries -/
theorem fl_new {H : Hp} {n : Nat} {S : Addr → Prop} {f : Fl} {v : V} (h : Rep H n S (flD f) v) : ∃ a es, v = .ref a ∧ H a = some (.dK es) ∧ f.length ≤ 100000 ∧
    ∀ {H' : Hp} {S' : Addr → Prop} {b : Addr}, (∀ a xs, H a = some (.tup xs) → H' a = some (.tup xs)) → S' b → H' b = some (.dK es) → Rep H' 3 S' (flD f) (.ref b) := by
  cases n with
  | zero => exact h.elim
  | succ n =>
  obtain ⟨a, es, e, _, ha, hl, pr⟩ := h
  refine ⟨a, es, e, ha, by simpa using hl, fun {H' S' b} k sb hb => ⟨b, es, rfl, sb, hb, hl, ?_⟩⟩
  have key : ∀ (f : Fl) (es : List (Key × V)), Paired (fun (q : Str × D) (e : Key × V) => e.1 = Sum.inr q.1 ∧ Rep H n (fun b => S b ∧ b ≠ a) q.2 e.2) (f.map fun p => (p.1, D.tup (p.2.map .str))) es →
      Paired (fun (q : Str × D) (e : Key × V) => e.1 = Sum.inr q.1 ∧ Rep H' 2 (fun c => S' c ∧ c ≠ b) q.2 e.2) (f.map fun p => (p.1, D.tup (p.2.map .str))) es := by
    intro f
    induction f with
    | nil => intro es pr; cases pr; exact .nil
    | cons p f ih =>
      intro es pr
      cases pr with
      | cons h t =>
        refine .cons ⟨h.1, ?_⟩ (ih _ t)
        have h2 := h.2
        cases n with
        | zero => exact h2.elim
        | succ n =>
        obtain ⟨c, xs, e1, hc, hl1, p1⟩ := h2
        have ex := rep_strs p1
        subst ex
        refine ⟨c, _, e1, k c _ hc, hl1, ?_⟩
        have allS : ∀ ws : List Str, Paired (fun d x => Rep H' 1 (fun c => S' c ∧ c ≠ b) d x) (ws.map D.str) (ws.map V.str) := by
          intro ws
          induction ws with
          | nil => exact .nil
          | cons y ws ih => exact .cons rfl ih
        exact allS p.2
  exact key f es pr
theorem row_fresh {l : List Ro} {i : Nat} {r : Ro} {d0 : D} (hn : (l.map (·.1)).Nodup) (hr : l[i]? = some r) (hl : List.lookup r.1 ((l.map fun r => (r.1, D.tup [oD r.2.1, flD r.2.2])).take i) = some d0) : False := by
  have mem : ∀ {m : List (Str × D)} {k : Str} {d : D}, m.lookup k = some d → k ∈ m.map (·.1) := by
    intro m
    induction m with
    | nil => intro k d h; cases h
    | cons q m ih =>
      intro k d h
      obtain ⟨j, e⟩ := q
      rw [lk_cons] at h
      by_cases c : k = j
      · rw [c]; exact List.mem_cons_self
      · rw [if_neg c] at h
        exact List.mem_cons_of_mem _ (ih h)
  have h1 := mem hl
  rw [← List.map_take, List.map_map] at h1
  obtain ⟨r2, hr2, e2⟩ := List.mem_map.mp h1
  obtain ⟨j, hj, ej⟩ := List.mem_iff_getElem.mp hr2
  rw [List.length_take] at hj
  have hj2 : l[j]? = some r2 := by
    rw [← ej, List.getElem_take, List.getElem?_eq_getElem (by omega)]
  have a1 : (l.map (·.1))[j]? = some r.1 := by
    rw [List.getElem?_map, hj2]; exact congrArg some e2
  have a2 : (l.map (·.1))[i]? = some r.1 := by
    rw [List.getElem?_map, hr]; rfl
  have := nodup_ix hn a1 a2
  omega
section
variable {P : Program} {w : World} {K : PySem.W.Frag} {mg : Str → Option Value} {base : Heap} {C_Shape C_FORMS : Addr}
/-- Shape(flags, lists), flags a list -/
def spInit (C : Addr) : Sp := fun vs H Q _ => ∃ (p dx a : Addr) (fl : List Str) (v : V) (n : Nat) (S : Addr → Prop) (d : D) (s : Sh), vs = [.ref p, .ref a, v] ∧ H p = some (.ins C dx []) ∧ H a = some (.lst (fl.map V.str)) ∧ fl.length ≤ 2 ∧ (∀ x ∈ fl, isW x) ∧ fl.Nodup ∧ Rep H n S d v ∧ shD d s ∧ okSh s ∧ ¬ S p ∧
  ∀ H' fl', (∀ b o, b ≠ p → H b = some o → H' b = some o) → fl'.Perm fl → sortedS fl' = true → ShapeAt C H' p fl' s (fun b => H b = none) → Q .non H'
theorem ok_Shape_init (T : Txt K mg C_Shape C_FORMS) (R : Prg K mg C_Shape C_FORMS) : ∃ f fd, Mt P w K mg base C_Shape "__init__" 6 ["self", "flags", "lists"] (spInit C_Shape) f fd := by
  obtain ⟨_, _, G_wrong_part⟩ := ok_wrong_part (P := P) (w := w) (base := base) T R
  obtain ⟨_, _, G_list_rows⟩ := ok_list_rows (P := P) (w := w) (base := base) T R
  obtain ⟨f, fd, F, fi, isf, kp⟩ := R.Shape_init
  refine ⟨f, fd, F.ok sc_Shape_init (fun vs H Q E h => ?_) (fun cdv A outer s H vs Q E hr h => ?_), ⟨fi, isf, kp⟩, F.binds (fun _ _ _ _ _ _ us hl => match us, hl with | [_, _, _], _ => rfl)⟩
  · obtain ⟨p, dx, a, fl, v, n, S, d, s, rfl, _⟩ := h; rfl
  · obtain ⟨p, dx, a, fl, v, n, S, d, z, rfl, hp, ha, f2, fw, fn, hv, hd, hz, nSp, k⟩ := h
    obtain ⟨r4, rok⟩ := okSh_rows hz
    refine ⟨_, (pss_cons (ps_set (i := 3) sc_Shape_init.nd rfl (Or.inl rfl) (pcl G_wrong_part hr (pa_cons (pv 1) (pa_cons (pv 2) pa_nil))))
  (pss_cons (ps_if (pt_cmpR op_notN (pv 3) pe_non (nomark _)) pss_never pss_nil)
  (pss_cons (ps_fld (pv 0) (pe_callTy (r := rTupA K) call_tuple_of (by rfl) T.tuple (by decide +kernel) (pa_cons (pe_callB (r := rSortedS K) cr_sortedS (by rfl) T.sorted (by decide +kernel) (pa_cons (pe_callTy (r := rListA K) call_list_of (by rfl) T.list (by decide +kernel) (pa_cons (pv 1) pa_nil)) pa_nil)) pa_nil)) rfl)
  (pss_one (ps_fld (pv 0) (pe_dc (own := [("name", 4), ("parent", 5), ("fields", 6)]) rfl sc_Shape_init.nd (show PI _ _ _ (iList K _) from pi_list (pcl G_list_rows hr (pa_cons (pv 2) pa_nil))) (blkOk_by (own := [("name", 4), ("parent", 5), ("fields", 6)]) (N := ["self", "flags", "lists", "part", "name", "parent", "fields"]) (sc := defScope s_Shape_init) (by decide +kernel)) (fun _ _ _ _ _ => (show PG _ _ (gTup K 3 _) from pg_tup (n := 3) rfl (pgs_cons (pg_name (i := 4) sc_Shape_init.nd rfl (Or.inl rfl)) (pgs_cons (pg_name (i := 5) sc_Shape_init.nd rfl (Or.inl rfl)) (pgs_cons (pg_name (i := 6) sc_Shape_init.nd rfl (Or.inl rfl)) pgs_nil))))) (fun _ _ _ _ _ => pts_nil) (fun _ _ _ _ _ => (pv 4)) (fun _ _ _ _ _ => (pe_tup (pa_cons (pv 5) (pa_cons (pe_callTy call_dictD (by rfl) T.dict (by decide +kernel) (pa_cons (pv 6) pa_nil)) pa_nil))))) rfl))))), ?_⟩
    -- part = wrong_part(flags, lists)
    refine ⟨_, rfl, _, rfl, ⟨a, fl, v, n, S, d, z, rfl, ha, f2, fw, fn, hv, hd, hz⟩, fun H1 e1 => ?_⟩
    refine Evl.q_when (b := false) (Evl.et_is (Evl.et_test (Evl.ev_op (Evl.ev_var rfl) Evl.ev_c rv_notN)) rfl) (fun h => nomatch h) fun _ H2 e2 => ?_
    have e12 := e1.trans e2
    -- self.flags = tuple(sorted(list(flags)))
    refine ⟨_, rfl, a, fl.map V.str, rfl, .inl (Evl.sq_of (e12 _ _ ha)), fun q hq => ?_⟩
    refine ⟨q, fl, rfl, Evl.sq_of upd_same, by omega, fun ys q2 perm so hq2 => ?_⟩
    refine ⟨q2, ys.map V.str, rfl, .inl ⟨Evl.sq_of upd_same, fun ft hft => ?_⟩⟩
    have e3 : Ex H2 (upd (upd (upd H2 q (.lst (fl.map V.str))) q2 (.lst (ys.map V.str))) ft (.tup (ys.map V.str))) := (Ex.new hq).trans ((Ex.new hq2).trans (Ex.new hft))
    have e03 := e12.trans e3
    have hft0 : (upd (upd (upd H2 q (.lst (fl.map V.str))) q2 (.lst (ys.map V.str))) ft (.tup (ys.map V.str))) ft = some (.tup (ys.map V.str)) := upd_same
    generalize (upd (upd (upd H2 q (.lst (fl.map V.str))) q2 (.lst (ys.map V.str))) ft (.tup (ys.map V.str))) = H3 at e3 e03 hft0 ⊢
    refine ⟨_, rfl, p, C_Shape, dx, [], rfl, e03 _ _ hp, T.cl_Shape, T.no_Shape_flags, (by show 0 < 1000; decide), ?_⟩
    have npft : ft ≠ p := fun e => by
      have := e03 _ _ hp
      rw [← e, hft0] at this; cases this
    -- the heap with the flags
    have e4 : ∀ b o, b ≠ p → H b = some o → (upd H3 p (.ins C_Shape dx (putF "flags" (.ref ft) []))) b = some o := fun b o nb hb => by rw [upd_ne nb]; exact e03 _ _ hb
    have hv4 : Rep (upd H3 p (.ins C_Shape dx (putF "flags" (.ref ft) []))) n S d v := rep_to (fun b o hb hs => e4 b o (fun e => by
      rcases hs with hs | ⟨xs, rfl⟩
      · rw [e] at hs; exact nSp hs
      · rw [e, hp] at hb; cases hb) hb) hv
    have hp4 : (upd H3 p (.ins C_Shape dx (putF "flags" (.ref ft) []))) p = some (.ins C_Shape dx (putF "flags" (.ref ft) [])) := upd_same
    have hft4 : (upd H3 p (.ins C_Shape dx (putF "flags" (.ref ft) []))) ft = some (.tup (ys.map V.str)) := by rw [upd_ne npft]; exact hft0
    have old4 : ∀ b, (upd H3 p (.ins C_Shape dx (putF "flags" (.ref ft) []))) b = none → H b = none := fun b hb => by
      cases e : H b with
      | none => rfl
      | some o =>
        have nb : b ≠ p := fun z => by rw [z, upd_same] at hb; cases hb
        rw [e4 b o nb e] at hb; cases hb
    generalize (upd H3 p (.ins C_Shape dx (putF "flags" (.ref ft) []))) = H4 at e4 hv4 hp4 hft4 old4 ⊢
    -- self.table = {..}
    refine ⟨_, rfl, v, n, S, d, z, rfl, hv4, hd, hz, fun H5 rp xs e5 nrp hrp hrows => ?_⟩
    have lx := pair_len hrows
    refine ⟨rp, rfl, ⟨xs, Evl.sq_of hrp⟩, fun Dl hD => ?_⟩
    refine ⟨fun i m H' => m = xs.length - i ∧ i ≤ xs.length ∧ Ex H5 H' ∧ ∃ es, H' Dl = some (.dK es) ∧ Paired (fun (q : Str × D) (e : Key × V) => e.1 = Sum.inr q.1 ∧ Rep H' 4 (fun b => H5 b = none ∧ b ≠ Dl) q.2 e.2) ((((rowsS z).map fun r => (r.1, D.tup [oD r.2.1, flD r.2.2]))).take i) es, ⟨xs.length, by simp, Nat.zero_le _, Ex.new hD, [], upd_same, .nil⟩, ?_⟩
    rintro i m H' ⟨rfl, hi, e6, es, hes, pes⟩
    have sq : SqL K H' rp xs := Evl.sq_of (e6 _ _ hrp)
    by_cases hlt : i < xs.length
    · refine .inr ⟨⟨xs, xs[i], sq, by simp [hlt]⟩, fun H' => Ex H5 H' ∧ ∃ es, H' Dl = some (.dK es) ∧ Paired (fun (q : Str × D) (e : Key × V) => e.1 = Sum.inr q.1 ∧ Rep H' 4 (fun b => H5 b = none ∧ b ≠ Dl) q.2 e.2) ((((rowsS z).map fun r => (r.1, D.tup [oD r.2.1, flD r.2.2]))).take (i + 1)) es, fun H' p' => ⟨xs.length - (i + 1), by omega, rfl, hlt, p'⟩, fun x H'' y => ?_⟩
      obtain ⟨rfl, y⟩ := y
      obtain ⟨r, hr1, ra, fv, rfl, hra, hfv⟩ := pair_back hrows (y xs sq)
      obtain ⟨fa, fes, rfl, hfa, fl5, mk⟩ := fl_new (rep_ex (e5.trans e6) hfv)
      refine ⟨ra, _, rfl, Evl.st_of (e6 _ _ hra), rfl, _, _, rfl, _, _, rfl, _, _, rfl, rfl, rfl, ?_⟩
      refine yes_go ?_
      refine ⟨_, rfl, _, rfl, _, rfl, fa, fes, rfl, .inl hfa, fun fb hfb => ⟨(by show 2 ≤ sizeLine; decide), fun tp htp => ?_⟩⟩
      have e7 : Ex H'' (upd (upd H'' fb (.dK fes)) tp (.tup [oV r.2.1, .ref fb])) := (Ex.new hfb).trans (Ex.new htp)
      have nfD : fb ≠ Dl := fun e => by rw [e, hes] at hfb; cases hfb
      have nft : fb ≠ tp := fun e => by rw [← e, upd_same] at htp; cases htp
      have nDt : Dl ≠ tp := fun e => by rw [← e, upd_ne (Ne.symm nfD), hes] at htp; cases htp
      have ntab : valV es (Sum.inr r.1 : Key) = none := by
        refine pair_no (F := fun d v => Rep H'' 4 (fun b => H5 b = none ∧ b ≠ Dl) d v) pes ?_
        cases hl : List.lookup r.1 ((((rowsS z).map fun r => (r.1, D.tup [oD r.2.1, flD r.2.2]))).take i) with
        | none => rfl
        | some d0 => exact (row_fresh hz.2.1 hr1 hl).elim
      have hes2 : (upd (upd H'' fb (.dK fes)) tp (.tup [oV r.2.1, .ref fb])) Dl = some (.dK es) := by rw [upd_ne nDt, upd_ne (Ne.symm nfD)]; exact hes
      have les : es.length ≤ 4 := by
        rw [← pair_len pes, List.length_take, List.length_map]; omega
      refine ⟨es, Sum.inr r.1, rfl, hes2, Evl.sz_lt (by omega), Ex.mut (e6.trans e7) hD, es ++ [(Sum.inr r.1, .ref tp)], by rw [upd_same, putK_new _ ntab], ?_⟩
      have ej : ((((rowsS z).map fun r => (r.1, D.tup [oD r.2.1, flD r.2.2]))).take (i + 1)) = ((((rowsS z).map fun r => (r.1, D.tup [oD r.2.1, flD r.2.2]))).take i) ++ [(r.1, D.tup [oD r.2.1, flD r.2.2])] := by
        rw [List.take_add_one, List.getElem?_map, hr1]; rfl
      rw [ej]
      have keep : ∀ b o, (upd (upd H'' fb (.dK fes)) tp (.tup [oV r.2.1, .ref fb])) b = some o → ((H5 b = none ∧ b ≠ Dl) ∨ ∃ xs, o = .tup xs) → (upd (upd (upd H'' fb (.dK fes)) tp (.tup [oV r.2.1, .ref fb])) Dl (.dK (putK es (Sum.inr r.1) (.ref tp)))) b = some o := fun b o hb hs => by
        have nb : b ≠ Dl := by
          rcases hs with hs | ⟨xs, rfl⟩
          · exact hs.2
          · intro e; rw [e, hes2] at hb; cases hb
        rw [upd_ne nb]; exact hb
      refine pair_snoc (pair_imp pes fun a b h => ⟨h.1, rep_to keep (rep_ex e7 h.2)⟩) ⟨rfl, rep_to keep ?_⟩
      refine ⟨tp, [oV r.2.1, .ref fb], rfl, upd_same, (by show 2 ≤ 100000; decide), .cons ?_ (.cons (mk (b := fb) (fun a xs ha => e7 _ _ ha) ⟨?_, nfD⟩ ?_) .nil)⟩
      · cases r.2.1 with
        | none => rfl
        | some x => rfl
      · cases e : H5 fb with
        | none => rfl
        | some o => rw [e6 _ _ e] at hfb; cases hfb
      · rw [upd_ne nft, upd_same]
    · have ei : i = xs.length := by omega
      subst ei
      refine .inl ⟨⟨xs, sq, Nat.le_refl _⟩, _, rfl, p, C_Shape, dx, _, rfl, e6 _ _ (e5 _ _ hp4), T.cl_Shape, T.no_Shape_table, (by show 1 < 1000; decide), ?_⟩
      have np5 : H5 p ≠ none := by rw [e5 _ _ hp4]; exact fun h => nomatch h
      have neDp : Dl ≠ p := fun e => by rw [e, e5 _ _ hp4] at hD; cases hD
      have keep : ∀ b o, H' b = some o → (b ≠ p) → (upd H' p (.ins C_Shape dx (putF "table" (.ref Dl) (putF "flags" (.ref ft) [])))) b = some o := fun b o hb nb => by rw [upd_ne nb]; exact hb
      refine k _ ys (fun b o nb hb => keep b o (e6 _ _ (e5 _ _ (e4 b o nb hb))) nb) perm so ⟨dx, ft, Dl, upd_same, keep _ _ (e6 _ _ (e5 _ _ hft4)) npft, ?_⟩
      refine rep_S (S := fun b => H5 b = none) (fun b hb => old4 b (Evl.fresh_back e5 hb)) ?_
      refine rep_to (H := H') (fun b o hb hs => keep b o hb fun e => ?_) ⟨Dl, es, rfl, hD, hes, ?_, ?_⟩
      · rcases hs with hs | ⟨xs, rfl⟩
        · rw [e] at hs; exact np5 hs
        · have := e6 _ _ (e5 _ _ hp4)
          rw [e, this] at hb; cases hb
      · rw [List.length_map]; omega
      · have ez : ((((rowsS z).map fun r => (r.1, D.tup [oD r.2.1, flD r.2.2]))).take xs.length) = ((rowsS z).map fun r => (r.1, D.tup [oD r.2.1, flD r.2.2])) := List.take_of_length_le (by rw [List.length_map]; omega)
        rw [ez] at pes
        exact pes
end
end Pk

namespace Pk
open PySem PySem.Spec PyProof.Rows L2 Ssb
open Evl (Ex Ev EvT EvL EvA EvU)
theorem valV_at : ∀ {es : List (Key × V)} {i : Nat} {k : Key} {v : V}, (es.map (·.1)).Nodup → es[i]? = some (k, v) → valV es k = some v
  | [], i, k, v, _, h => by simp at h
  | e :: es, 0, k, v, _, h => by
    simp at h; subst h
    rw [vV_cons, if_pos rfl]
  | e :: es, i + 1, k, v, nd, h => by
    have h2 : es[i]? = some (k, v) := by simpa using h
    rw [List.map_cons, List.nodup_cons] at nd
    rw [vV_cons, if_neg, valV_at nd.2 h2]
    intro z
    refine nd.1 ?_
    rw [z]
    exact List.mem_map.mpr ⟨(k, v), List.mem_of_getElem? h2, rfl⟩
theorem oV_inj {a b : Option Str} : decide (oV a = oV b) = decide (a = b) := by
  cases a <;> cases b <;> simp [oV]
theorem oV_scal (a b : Option Str) : scal (oV a) (oV b) = true := by cases a <;> cases b <;> rfl
/-- what the table tells -/
theorem tab_get {H : Hp} {S : Addr → Prop} {s : Sh} {tb : Addr} (hn : ((rowsS s).map (·.1)).Nodup) (h : Rep H 5 S (tabD s) (.ref tb)) : ∃ es, H tb = some (.dK es) ∧ es.length = (rowsS s).length ∧ (∀ (i : Nat) (k : Key) (v : V), es[i]? = some (k, v) → ∃ r, (rowsS s)[i]? = some r ∧ k = Sum.inr r.1 ∧ valV es k = some v) ∧
    ∀ r ∈ rowsS s, ∃ tp fv, valV es (Sum.inr r.1 : Key) = some (.ref tp) ∧ H tp = some (.tup [oV r.2.1, fv]) ∧ Rep H 3 S (flD r.2.2) fv := by
  obtain ⟨_, es, e, _, hes, _, pr⟩ := h
  cases e
  have le : es.length = (rowsS s).length := by rw [← pair_len pr, List.length_map]
  have keys : es.map (·.1) = (rowsS s).map fun r => (Sum.inr r.1 : Key) := by
    refine List.ext_getElem? fun i => ?_
    rw [List.getElem?_map, List.getElem?_map]
    cases hi : es[i]? with
    | none =>
      have : (rowsS s)[i]? = none := List.getElem?_eq_none_iff.mpr (by rw [← le]; exact List.getElem?_eq_none_iff.mp hi)
      rw [this]; rfl
    | some e =>
      obtain ⟨q, hq, h1, _⟩ := pair_back pr hi
      rw [List.getElem?_map] at hq
      cases hr : (rowsS s)[i]? with
      | none => rw [hr] at hq; cases hq
      | some r =>
        rw [hr] at hq; cases hq
        exact congrArg some h1
  have nd : (es.map (·.1)).Nodup := by
    rw [keys]
    have e2 : ((rowsS s).map fun r => (Sum.inr r.1 : Key)) = ((rowsS s).map (·.1)).map Sum.inr := by rw [List.map_map]; rfl
    rw [e2]
    exact List.Pairwise.map _ (fun a b h z => h (Sum.inr.inj z)) hn
  have at_ : ∀ (i : Nat) (r : Ro), (rowsS s)[i]? = some r → ∃ v, es[i]? = some (Sum.inr r.1, v) ∧ Rep H 4 (fun b => S b ∧ b ≠ tb) (.tup [oD r.2.1, flD r.2.2]) v := fun i r hr => by
    obtain ⟨e, he, h1, h2⟩ := pair_at pr (i := i) (a := (r.1, .tup [oD r.2.1, flD r.2.2])) (by rw [List.getElem?_map, hr]; rfl)
    obtain ⟨k, v⟩ := e
    have h1 : k = Sum.inr r.1 := h1
    exact ⟨v, by rw [he, h1], h2⟩
  refine ⟨es, hes, le, fun i k v hi => ?_, fun r hr => ?_⟩
  · obtain ⟨q, hq, h1, _⟩ := pair_back pr hi
    rw [List.getElem?_map] at hq
    cases hr : (rowsS s)[i]? with
    | none => rw [hr] at hq; cases hq
    | some r =>
      rw [hr] at hq; cases hq
      exact ⟨r, rfl, h1, valV_at nd hi⟩
  · obtain ⟨i, hi, ei⟩ := List.mem_iff_getElem.mp hr
    obtain ⟨v, hv, tp, xs, rfl, htp, _, pp⟩ := at_ i r (by rw [← ei]; exact List.getElem?_eq_getElem hi)
    have two : ∃ x1 x2, xs = [x1, x2] ∧ Rep H 3 (fun b => S b ∧ b ≠ tb) (oD r.2.1) x1 ∧ Rep H 3 (fun b => S b ∧ b ≠ tb) (flD r.2.2) x2 := by
      cases pp with
      | cons h1 t =>
        cases t with
        | cons h2 t2 =>
          cases t2
          exact ⟨_, _, rfl, h1, h2⟩
    obtain ⟨x1, x2, rfl, h1, h2⟩ := two
    have e1 : x1 = oV r.2.1 := by
      cases hc : r.2.1 with
      | none => rw [hc] at h1; exact h1
      | some x => rw [hc] at h1; exact h1
    subst e1
    exact ⟨tp, _, valV_at nd hv, htp, rep_S (fun b hb => hb.1) h2⟩
/-- the names of the lists with this parent -/
def kids (s : Sh) (par : Option Str) : List Str := ((rowsS s).filter fun r => decide (r.2.1 = par)).map (·.1)
theorem kids_len {s : Sh} (par : Option Str) : (kids s par).length ≤ (rowsS s).length := by
  unfold kids; rw [List.length_map]; exact List.length_filter_le _ _
section
variable {P : Program} {w : World} {K : PySem.W.Frag} {mg : Str → Option Value} {base : Heap} {C_Shape C_FORMS : Addr}
def spNeed (C : Addr) : Sp := fun vs H Q _ => ∃ (p : Addr) (fl : List Str) (s : Sh) (S : Addr → Prop) (nm : Str), vs = [.ref p, .str nm] ∧ ShapeAt C H p fl s S ∧ okSh s ∧ nm ∈ (rowsS s).map (·.1) ∧ ∀ H', Ex H H' → Q .non H'
theorem ok_Shape_need_list (T : Txt K mg C_Shape C_FORMS) (R : Prg K mg C_Shape C_FORMS) : ∃ f fd, Mt P w K mg base C_Shape "need_list" 1 ["self", "name"] (spNeed C_Shape) f fd := by
  obtain ⟨f, fd, F, fi, isf, kp⟩ := R.Shape_need_list
  refine ⟨f, fd, F.ok sc_Shape_need_list (fun vs H Q E h => ?_) (fun cdv A outer s H vs Q E hr h => ?_), ⟨fi, isf, kp⟩, F.binds (fun _ _ _ _ _ _ us hl => match us, hl with | [_, _], _ => rfl)⟩
  · obtain ⟨p, fl, s, S, nm, rfl, _⟩ := h; rfl
  · obtain ⟨p, fl, z, S, nm, rfl, ⟨dx, ft, tb, hp, hft, htb⟩, hz, hm, k⟩ := h
    obtain ⟨r, hr1, rfl⟩ := List.mem_map.mp hm
    obtain ⟨es, hes, _, _, hget⟩ := tab_get hz.2.1 htb
    obtain ⟨tp, fv, hv, _⟩ := hget r hr1
    refine ⟨_, (pss_one (ps_if (pt_cmp (pc_dnotin (hu_of hr) (pv 1) (show PE _ _ (tFld K _ _) from pe_fld (pv 0) rfl))) pss_never pss_nil)), ?_⟩
    refine ⟨_, rfl, _, rfl, p, C_Shape, dx, _, _, rfl, hp, T.cl_Shape, T.no_Shape_table, shF_table _ _, tb, _, rfl, .inl ⟨es, Sum.inr r.1, .inl hes, rfl, rfl⟩, _, rfl, ?_⟩
    rw [hv]
    refine iteF ?_
    exact k H (Ex.refl _)
def spIn (C : Addr) : Sp := fun vs H Q _ => ∃ (p : Addr) (fl : List Str) (s : Sh) (S : Addr → Prop) (par : Option Str), vs = [.ref p, oV par] ∧ ShapeAt C H p fl s S ∧ okSh s ∧
  ∀ H' q ys, Ex H H' → H q = none → H' q = some (.lst (ys.map V.str)) → ys.Perm (kids s par) → sortedS ys = true → Q (.ref q) H'
theorem ok_Shape_lists_in (T : Txt K mg C_Shape C_FORMS) (R : Prg K mg C_Shape C_FORMS) : ∃ f fd, Mt P w K mg base C_Shape "lists_in" 1 ["self", "parent"] (spIn C_Shape) f fd := by
  obtain ⟨f, fd, F, fi, isf, kp⟩ := R.Shape_lists_in
  refine ⟨f, fd, F.ok sc_Shape_lists_in (fun vs H Q E h => ?_) (fun cdv A outer s H vs Q E hr h => ?_), ⟨fi, isf, kp⟩, F.binds (fun _ _ _ _ _ _ us hl => match us, hl with | [_, _], _ => rfl)⟩
  · obtain ⟨p, fl, s, S, par, rfl, _⟩ := h; rfl
  · obtain ⟨p, fl, z, S, par, rfl, ⟨dx, ft, tb, hp, hft, htb⟩, hz, k⟩ := h
    obtain ⟨es, hes, le, hat, hget⟩ := tab_get hz.2.1 htb
    obtain ⟨r4, _⟩ := okSh_rows hz
    have ptb : p ≠ tb := fun e => by rw [e, hes] at hp; cases hp
    refine ⟨_, (pss_one (ps_ret (pe_callB (r := rSortedS K) cr_sortedS (by rfl) T.sorted (by decide +kernel) (pa_cons (pe_lock (pe_lc (own := [("name", 2)]) rfl sc_Shape_lists_in.nd (pi_keys (show PE _ _ (tFld K _ _) from pe_fld (pv 0) rfl)) (blkOk_by (own := [("name", 2)]) (N := ["self", "parent", "name"]) (sc := defScope s_Shape_lists_in) (by decide +kernel)) (fun _ _ _ _ _ => (pg_name (i := 2) sc_Shape_lists_in.nd rfl (Or.inl rfl))) (fun _ _ _ _ _ => (pts_one (pt_cmpR op_eq (pe_ix (r := rIxT K) ix_tup (pe_dget (hu_of hr) (show PE _ _ (tFld K _ _) from pe_fld (pv 0) rfl) (pv 2) (fun _ _ => rfl)) pe_int (fun _ _ => rfl)) (pv 1) (nomark _)))) (fun _ _ _ _ _ => (pv 2)))) pa_nil)))), ?_⟩
    refine ⟨tb, .dK es, hes, trivial, fun od => ⟨_, rfl, p, C_Shape, dx, _, _, rfl, by rw [upd_ne ptb]; exact hp, T.cl_Shape, T.no_Shape_table, shF_table _ _, tb, od, rfl, .inl ⟨es, upd_same, fun Dl hD => ?_⟩⟩⟩
    have nDt : Dl ≠ tb := fun e => by rw [e, upd_same] at hD; cases hD
    refine lc_it (lock_keys (d := tb) (o := od) (es := es)) (fun i H' => Ex (upd H tb (.frz od (.dK es))) H' ∧ H' Dl = some (.lst ((((rowsS z).take i).filter fun r => decide (r.2.1 = par)).map fun r => V.str r.1))) ⟨Ex.new hD, upd_same⟩ (fun i H' _ p => p.1 _ _ upd_same) (fun i x H' H2 hi pv y => ?_) fun H' pv => ?_
    · obtain ⟨rfl, hx⟩ := y
      obtain ⟨e, hl⟩ := pv
      rw [List.getElem?_map] at hx
      cases hc : es[i]? with
      | none => rw [hc] at hx; cases hx
      | some kv =>
      rw [hc] at hx
      obtain ⟨key, v⟩ := kv
      obtain ⟨r, hr1, rfl, hv⟩ := hat i key v hc
      obtain ⟨tp, fv, hv2, htp, _⟩ := hget r (List.mem_of_getElem? hr1)
      have ev : v = .ref tp := Option.some.inj (hv.symm.trans hv2)
      subst ev
      cases hx
      have tt : H2 tp = some (.tup [oV r.2.1, fv]) := e _ _ (upd_tup hes (fun xs h => nomatch h) _ _ htp)
      have pp : H2 p = some (.ins C_Shape dx (shF ft tb)) := e _ _ (by rw [upd_ne ptb]; exact hp)
      have et : (rowsS z).take (i + 1) = (rowsS z).take i ++ [r] := by rw [List.take_add_one, hr1]; rfl
      refine ⟨rfl, _, rfl, p, C_Shape, dx, _, _, rfl, pp, T.cl_Shape, T.no_Shape_table, shF_table _ _, _, rfl, tb, .ref tp, rfl, .inl ⟨es, Sum.inr r.1, .inr ⟨od, e _ _ upd_same⟩, rfl, hv.symm⟩, tp, _, 0, _, rfl, rfl, Evl.st_of tt, rfl, _, rfl, oV_scal _ _, _, rfl, ?_⟩
      rw [oV_inj]
      refine ite2 (fun hc => ?_) (fun hc => ?_)
      · have hc := of_decide_eq_true hc
        refine ⟨_, rfl, _, hl, Evl.sz_lt ?_, Ex.mut e hD, ?_⟩
        · rw [List.length_map]
          exact Nat.lt_of_le_of_lt (List.length_filter_le _ _) (by rw [List.length_take]; omega)
        · rw [upd_same, et, List.filter_append, List.map_append]
          simp [hc, kV]
      · have hc : ¬ r.2.1 = par := fun z => hc (decide_eq_true z)
        refine ⟨e, ?_⟩
        rw [hl, et, List.filter_append, List.map_append]
        simp [hc]
    · obtain ⟨e, hl⟩ := pv
      refine ⟨e _ _ upd_same, Dl, kids z par, rfl, Evl.sq_of ?_, Nat.lt_of_le_of_lt (kids_len par) (by omega), fun ys q perm so hq => ?_⟩
      · rw [upd_ne nDt, hl]
        have et : (rowsS z).take (es.map fun e => kV e.1).length = rowsS z := List.take_of_length_le (by rw [List.length_map]; omega)
        rw [et]
        unfold kids
        rw [List.map_map]; rfl
      · have e2 : Ex H (upd H' tb (.dK es)) := unlock hes e
        exact k _ q ys (e2.trans (Ex.new hq)) (Evl.fresh_back e2 hq) upd_same perm so
def spOuter (C : Addr) : Sp := fun vs H Q _ => ∃ (p : Addr) (fl : List Str) (s : Sh) (S : Addr → Prop), vs = [.ref p] ∧ ShapeAt C H p fl s S ∧ okSh s ∧
  ∀ H' q ys, Ex H H' → H q = none → H' q = some (.lst (ys.map V.str)) → ys.Perm (kids s none) → sortedS ys = true → Q (.ref q) H'
theorem ok_Shape_outer (T : Txt K mg C_Shape C_FORMS) (R : Prg K mg C_Shape C_FORMS) : ∃ f fd, Mt P w K mg base C_Shape "outer" 2 ["self"] (spOuter C_Shape) f fd := by
  obtain ⟨_, _, G_Shape_lists_in⟩ := ok_Shape_lists_in (P := P) (w := w) (base := base) T R
  obtain ⟨f, fd, F, fi, isf, kp⟩ := R.Shape_outer
  refine ⟨f, fd, F.ok sc_Shape_outer (fun vs H Q E h => ?_) (fun cdv A outer s H vs Q E hr h => ?_), ⟨fi, isf, kp⟩, F.binds (fun _ _ _ _ _ _ us hl => match us, hl with | [_], _ => rfl)⟩
  · obtain ⟨p, fl, s, S, rfl, _⟩ := h; rfl
  · obtain ⟨p, fl, z, S, rfl, hS, hz, k⟩ := h
    obtain ⟨dx, ft, tb, hp, hft, htb⟩ := id hS
    refine ⟨_, (pss_one (ps_ret (pmt (pv 0) T.cl_Shape G_Shape_lists_in hr (pa_cons pe_non pa_nil)))), ?_⟩
    exact ⟨_, rfl, p, dx, _, rfl, hp, shF_no _ _ (by decide +kernel) (by decide +kernel), p, fl, z, S, none, rfl, hS, hz, k⟩
def spInner (C : Addr) : Sp := fun vs H Q _ => ∃ (p : Addr) (fl : List Str) (s : Sh) (S : Addr → Prop) (nm : Str), vs = [.ref p, .str nm] ∧ ShapeAt C H p fl s S ∧ okSh s ∧ nm ∈ (rowsS s).map (·.1) ∧
  ∀ H' q ys, Ex H H' → H q = none → H' q = some (.lst (ys.map V.str)) → ys.Perm (kids s (some nm)) → sortedS ys = true → Q (.ref q) H'
theorem ok_Shape_inner (T : Txt K mg C_Shape C_FORMS) (R : Prg K mg C_Shape C_FORMS) : ∃ f fd, Mt P w K mg base C_Shape "inner" 2 ["self", "name"] (spInner C_Shape) f fd := by
  obtain ⟨_, _, G_Shape_lists_in⟩ := ok_Shape_lists_in (P := P) (w := w) (base := base) T R
  obtain ⟨_, _, G_Shape_need_list⟩ := ok_Shape_need_list (P := P) (w := w) (base := base) T R
  obtain ⟨f, fd, F, fi, isf, kp⟩ := R.Shape_inner
  refine ⟨f, fd, F.ok sc_Shape_inner (fun vs H Q E h => ?_) (fun cdv A outer s H vs Q E hr h => ?_), ⟨fi, isf, kp⟩, F.binds (fun _ _ _ _ _ _ us hl => match us, hl with | [_, _], _ => rfl)⟩
  · obtain ⟨p, fl, s, S, nm, rfl, _⟩ := h; rfl
  · obtain ⟨p, fl, z, S, nm, rfl, hS, hz, hm, k⟩ := h
    obtain ⟨dx, ft, tb, hp, hft, htb⟩ := id hS
    refine ⟨_, (pss_cons (ps_expr (pmt (pv 0) T.cl_Shape G_Shape_need_list hr (pa_cons (pv 1) pa_nil)))
  (pss_one (ps_ret (pmt (pv 0) T.cl_Shape G_Shape_lists_in hr (pa_cons (pv 1) pa_nil))))), ?_⟩
    refine ⟨_, rfl, p, dx, _, rfl, hp, shF_no _ _ (by decide +kernel) (by decide +kernel), _, rfl, p, fl, z, S, nm, rfl, hS, hz, hm, fun H1 e1 => ?_⟩
    exact ⟨_, rfl, p, dx, _, rfl, e1 _ _ hp, shF_no _ _ (by decide +kernel) (by decide +kernel), _, rfl, p, fl, z, S, some nm, rfl, hS.ex e1, hz, fun H' q ys e2 hq => k H' q ys (e1.trans e2) (Evl.fresh_back e1 hq)⟩
def spFields (C : Addr) : Sp := fun vs H Q _ => ∃ (p : Addr) (fl : List Str) (s : Sh) (S : Addr → Prop) (r : Ro), vs = [.ref p, .str r.1] ∧ ShapeAt C H p fl s S ∧ okSh s ∧ r ∈ rowsS s ∧
  ∀ H' q, Ex H H' → Rep H' 3 (fun b => H b = none) (flD r.2.2) (.ref q) → Q (.ref q) H'
theorem ok_Shape_fields (T : Txt K mg C_Shape C_FORMS) (R : Prg K mg C_Shape C_FORMS) : ∃ f fd, Mt P w K mg base C_Shape "fields" 2 ["self", "name"] (spFields C_Shape) f fd := by
  obtain ⟨_, _, G_Shape_need_list⟩ := ok_Shape_need_list (P := P) (w := w) (base := base) T R
  obtain ⟨f, fd, F, fi, isf, kp⟩ := R.Shape_fields
  refine ⟨f, fd, F.ok sc_Shape_fields (fun vs H Q E h => ?_) (fun cdv A outer s H vs Q E hr h => ?_), ⟨fi, isf, kp⟩, F.binds (fun _ _ _ _ _ _ us hl => match us, hl with | [_, _], _ => rfl)⟩
  · obtain ⟨p, fl, s, S, r, rfl, _⟩ := h; rfl
  · obtain ⟨p, fl, z, S, r, rfl, hS, hz, hr1, k⟩ := h
    obtain ⟨dx, ft, tb, hp, hft, htb⟩ := id hS
    obtain ⟨es, hes, le, hat, hget⟩ := tab_get hz.2.1 htb
    obtain ⟨tp, fv, hv, htp, hfv⟩ := hget r hr1
    refine ⟨_, (pss_cons (ps_expr (pmt (pv 0) T.cl_Shape G_Shape_need_list hr (pa_cons (pv 1) pa_nil)))
  (pss_one (ps_ret (pe_callTy call_dictD (by rfl) T.dict (by decide +kernel) (pa_cons (pe_ix (r := rIxT K) ix_tup (pe_dget (hu_of hr) (show PE _ _ (tFld K _ _) from pe_fld (pv 0) rfl) (pv 1) (fun _ _ => rfl)) pe_int (fun _ _ => rfl)) pa_nil))))), ?_⟩
    refine ⟨_, rfl, p, dx, _, rfl, hp, shF_no _ _ (by decide +kernel) (by decide +kernel), _, rfl, p, fl, z, S, r.1, rfl, hS, hz, List.mem_map.mpr ⟨r, hr1, rfl⟩, fun H1 e1 => ?_⟩
    obtain ⟨fa, fes, rfl, hfa, _, mk⟩ := fl_new (rep_ex e1 hfv)
    refine ⟨_, rfl, p, C_Shape, dx, _, _, rfl, e1 _ _ hp, T.cl_Shape, T.no_Shape_table, shF_table _ _, _, rfl, tb, .ref tp, rfl, .inl ⟨es, Sum.inr r.1, .inl (e1 _ _ hes), rfl, hv.symm⟩, tp, _, 1, _, rfl, rfl, Evl.st_of (e1 _ _ htp), rfl, fa, fes, rfl, .inl hfa, fun q hq => ?_⟩
    exact k _ q (e1.trans (Ex.new hq)) (mk (fun a xs h => Ex.new hq _ _ h) (Evl.fresh_back e1 hq) upd_same)
end
end Pk

namespace Pk
open PySem PySem.Spec PyProof.Rows L2 Ssb
open Evl (Ex Ev EvT EvL EvA EvU)
/-! ### is_integer, is_choice, check_words -/
section
variable {P : Program} {w : World} {K : PySem.W.Frag} {mg : Str → Option Value} {base : Heap} {C_Shape C_FORMS : Addr}
def preInt : List V → Hp → Prop := fun vs _ => ∃ i lo hi : Int, vs = [.int i, .int lo, .int hi] ∧ lo ≤ i ∧ i ≤ hi
theorem ok_is_integer (T : Txt K mg C_Shape C_FORMS) (R : Prg K mg C_Shape C_FORMS) : ∃ f fd, Fn P w K mg base "is_integer" 1 ["value", "least", "most"] (spV (.bl true) preInt) f fd := by
  obtain ⟨f, fd, at_, F, kp⟩ := R.is_integer
  refine ⟨f, fd, F.ok sc_is_integer (fun vs H Q E h => ?_) (fun cdv A outer s H vs Q E hr h => ?_), at_, kp, F.binds (fun _ _ _ _ _ _ us hl => match us, hl with | [_, _, _], _ => rfl)⟩
  · obtain ⟨⟨i, lo, hi, rfl, _⟩, _⟩ := h; rfl
  · obtain ⟨⟨i, lo, hi, rfl, h1, h2⟩, k⟩ := h
    refine ⟨_, (pss_one (ps_ret (pe_and (pe_callB (r := rIsi K) call_isi (by rfl) T.isinstance (by decide +kernel) (pa_cons (pv 0) (pa_cons (pe_bltn (v := .ty "int") (by rfl) T.int boot_int rfl) pa_nil))) (pe_and (pe_not (pe_callB (r := rIsi K) call_isi (by rfl) T.isinstance (by decide +kernel) (pa_cons (pv 0) (pa_cons (pe_bltn (v := .ty "bool") (by rfl) T.bool boot_bool rfl) pa_nil)))) (pe_one (pe_chain op_le op_le (pv 1) (pv 0) (pv 2))))))), ?_⟩
    refine Evl.s_ret (Evl.ev_is (Evl.ev_andV (a := true) (b := true) (ev_isi (Evl.ev_var rfl) (fun H1 e1 => .base (.int i)) (kit_ty (by decide +kernel))) fun _ => Evl.ev_is (Evl.ev_andV (a := true) (b := true) (Evl.ev_notV (a := false) (ev_isi (Evl.ev_var rfl) (fun H1 e1 => .base (.int i)) (kit_ty (by decide +kernel)))) fun _ => Evl.ev_is (ev_chain (Evl.ev_var rfl) (Evl.ev_var rfl) (Evl.ev_var rfl) Evl.rv_I0 Evl.rv_I0) ?_) rfl) rfl) fun H2 e2 => k H2 e2
    rw [decide_eq_true h1, decide_eq_true h2]; rfl
def txtBl (v : V) : Prop := (∃ s, v = .str s) ∨ ∃ b, v = .bl b
def preChoice : List V → Hp → Prop := fun vs H => ∃ (v : V) (t : Addr) (xs : List V), vs = [v, .ref t] ∧ H t = some (.tup xs) ∧ txtBl v ∧ (∀ x ∈ xs, txtBl x) ∧ v ∈ xs
theorem txtBl_flat {v : V} (h : txtBl v) : flatV v = true := by
  rcases h with ⟨s, rfl⟩ | ⟨b, rfl⟩ <;> rfl
theorem txtBl_eq {v : V} (h : txtBl v) : eqV v v = true := by
  rcases h with ⟨s, rfl⟩ | ⟨b, rfl⟩ <;> simp [eqV]
theorem ok_is_choice (T : Txt K mg C_Shape C_FORMS) (R : Prg K mg C_Shape C_FORMS) : ∃ f fd, Fn P w K mg base "is_choice" 1 ["value", "several"] (spV (.bl true) preChoice) f fd := by
  obtain ⟨f, fd, at_, F, kp⟩ := R.is_choice
  refine ⟨f, fd, F.ok sc_is_choice (fun vs H Q E h => ?_) (fun cdv A outer s H vs Q E hr h => ?_), at_, kp, F.binds (fun _ _ _ _ _ _ us hl => match us, hl with | [_, _], _ => rfl)⟩
  · obtain ⟨⟨v, t, xs, rfl, _⟩, _⟩ := h; rfl
  · obtain ⟨⟨v, t, xs, rfl, ht, hv, hx, hm⟩, k⟩ := h
    refine ⟨_, (pss_one (ps_ret (pe_and (pe_callB (r := rIsiT K) call_isiT (by rfl) T.isinstance (by decide +kernel) (pa_cons (pv 0) (pa_cons (pe_tup (pa_cons (pe_bltn (v := .ty "str") (by rfl) T.str boot_str rfl) (pa_cons (pe_bltn (v := .ty "bool") (by rfl) T.bool boot_bool rfl) pa_nil))) pa_nil))) (pe_one (pe_cmpR (r := rIn K false) op_in_seq (pv 0) (pv 1) (by rfl)))))), ?_⟩
    have kind : ∃ ty, (∀ H1, Ex H H1 → TyX K H1 v ty) ∧ PySem.W.kitAny K ty [.type "str", .type "bool"] = some true := by
      rcases hv with ⟨s, rfl⟩ | ⟨b, rfl⟩
      · exact ⟨_, fun H1 _ => .base (.str s), kitAny_cons (b := true) (kit_ty (by decide +kernel)) (fun h => nomatch h) fun _ => rfl⟩
      · exact ⟨_, fun H1 _ => .base (.bl b), kitAny_cons (b := false) (kit_ty (by decide +kernel)) (fun _ => kitAny_cons (b := true) (kit_ty (by decide +kernel)) (fun h => nomatch h) fun _ => rfl) fun h => nomatch h⟩
    obtain ⟨ty, hty, hk⟩ := kind
    refine Evl.s_ret (Evl.ev_is (Evl.ev_andV (a := true) (b := true) (ev_isi2 (Evl.ev_var rfl) hty hk) fun _ => Evl.ev_is (Evl.ev_op (Evl.ev_var rfl) (Evl.ev_var rfl) (Evl.rv_isT (Evl.st_of ht) (txtBl_flat hv) (List.all_eq_true.mpr fun x hx' => txtBl_flat (hx x hx')))) ?_) rfl) fun H2 e2 => k H2 e2
    have : inV v xs = true := by
      unfold inV
      exact List.any_eq_true.mpr ⟨v, hm, txtBl_eq hv⟩
    rw [this]
/-- choices: from names to tuples of what may be chosen -/
def ChoAt (H : Hp) (ch : Addr) (c : List (Str × List V)) : Prop := ∃ es, H ch = some (.dK es) ∧ Paired (fun (q : Str × List V) (e : Key × V) => e.1 = Sum.inr q.1 ∧ ∃ t, e.2 = .ref t ∧ H t = some (.tup q.2)) c es
theorem ChoAt.ex {H H' : Hp} {ch : Addr} {c : List (Str × List V)} (e : Ex H H') (h : ChoAt H ch c) : ChoAt H' ch c := by
  obtain ⟨es, h1, pr⟩ := h
  exact ⟨es, e _ _ h1, pair_imp pr fun a b h => ⟨h.1, h.2.choose, h.2.choose_spec.1, e _ _ h.2.choose_spec.2⟩⟩
theorem lk_mem {α : Type} : ∀ {c : List (Str × α)} {k : Str}, k ∈ c.map (·.1) → ∃ x, c.lookup k = some x ∧ (k, x) ∈ c
  | [], k, h => nomatch h
  | (j, a) :: c, k, h => by
    rw [lk_cons]
    by_cases e : k = j
    · subst e
      exact ⟨a, by rw [if_pos rfl], List.mem_cons_self⟩
    · rcases List.mem_cons.mp h with h | h
      · exact absurd h e
      · obtain ⟨x, h1, h2⟩ := lk_mem h
        exact ⟨x, by rw [if_neg e]; exact h1, List.mem_cons_of_mem _ h2⟩
theorem pair_lkV {F : List V → V → Prop} : ∀ {l : List (Str × List V)} {es : List (Key × V)}, Paired (fun (q : Str × List V) (e : Key × V) => e.1 = Sum.inr q.1 ∧ F q.2 e.2) l es → ∀ {k : Str} {d : List V}, l.lookup k = some d → ∃ v, valV es (Sum.inr k : Key) = some v ∧ F d v
  | _, _, .nil, k, d, h => by simp [List.lookup] at h
  | (j, d0) :: l, e :: es, .cons h t, k, d, hk => by
    rw [lk_cons] at hk
    rw [vV_cons]
    by_cases c : k = j
    · rw [if_pos c] at hk
      cases hk
      exact ⟨e.2, by rw [if_pos (by rw [h.1, c])], h.2⟩
    · rw [if_neg c] at hk
      obtain ⟨v, h1, h2⟩ := pair_lkV t hk
      exact ⟨v, by rw [if_neg (by rw [h.1]; intro z; exact c (Sum.inr.inj z).symm)]; exact h1, h2⟩
def dV : D → V
  | .str s => .str s
  | .bl b => .bl b
  | _ => .non
theorem rep_dV {H : Hp} {n : Nat} {S : Addr → Prop} {d : D} {v : V} (h : Rep H n S d v) (t : txtBl (dV d)) : v = dV d := by
  cases n with
  | zero => exact h.elim
  | succ n =>
  cases d with
  | str s => exact h
  | bl b => exact h
  | non => rcases t with ⟨_, h⟩ | ⟨_, h⟩ <;> cases h
  | int i => rcases t with ⟨_, h⟩ | ⟨_, h⟩ <;> cases h
  | lst l => rcases t with ⟨_, h⟩ | ⟨_, h⟩ <;> cases h
  | tup l => rcases t with ⟨_, h⟩ | ⟨_, h⟩ <;> cases h
  | dic l => rcases t with ⟨_, h⟩ | ⟨_, h⟩ <;> cases h
/-- chosen fits the choices -/
def fits (l : List (Str × D)) (c : List (Str × List V)) : Prop := l.length = c.length ∧ c.length ≤ 60 ∧ ∀ q ∈ c, (∀ x ∈ q.2, txtBl x) ∧ ∃ d, l.lookup q.1 = some d ∧ dV d ∈ q.2
def preCw : List V → Hp → Prop := fun vs H => ∃ (v pl : V) (ch : Addr) (n : Nat) (S : Addr → Prop) (l : List (Str × D)) (c : List (Str × List V)), vs = [v, .ref ch, pl] ∧ Rep H n S (.dic l) v ∧ ChoAt H ch c ∧ fits l c
theorem ok_check_words (T : Txt K mg C_Shape C_FORMS) (R : Prg K mg C_Shape C_FORMS) : ∃ f fd, Fn P w K mg base "check_words" 2 ["chosen", "choices", "place"] (spV .non preCw) f fd := by
  obtain ⟨_, _, G_has_names⟩ := ok_has_names (P := P) (w := w) (base := base) T R
  obtain ⟨_, _, G_is_choice⟩ := ok_is_choice (P := P) (w := w) (base := base) T R
  obtain ⟨f, fd, at_, F, kp⟩ := R.check_words
  refine ⟨f, fd, F.ok sc_check_words (fun vs H Q E h => ?_) (fun cdv A outer s H vs Q E hr h => ?_), at_, kp, F.binds (fun _ _ _ _ _ _ us hl => match us, hl with | [_, _, _], _ => rfl)⟩
  · obtain ⟨⟨v, pl, ch, n, S, l, c, rfl, _⟩, _⟩ := h; rfl
  · obtain ⟨⟨v, pl, ch, n, S, l, c, rfl, hv, hch, hl, hc60, hq⟩, k⟩ := h
    obtain ⟨es, hes, pr⟩ := id hch
    have le := pair_len pr
    have keys : es.map (fun kv => kV kv.1) = (c.map (·.1)).map V.str := by
      have key : ∀ {c : List (Str × List V)} {es : List (Key × V)}, Paired (fun (q : Str × List V) (e : Key × V) => e.1 = Sum.inr q.1 ∧ ∃ t, e.2 = .ref t ∧ H t = some (.tup q.2)) c es → es.map (fun kv => kV kv.1) = (c.map (·.1)).map V.str := by
        intro c es p
        induction p with
        | nil => rfl
        | cons h t ih => rw [List.map_cons, ih, h.1]; rfl
      exact key pr
    refine ⟨_, (pss_cons (ps_if (pt_not (pt_val (pcl G_has_names hr (pa_cons (pv 0) (pa_cons (pe_callTy (call_listD rfl) (by rfl) T.list (by decide +kernel) (pa_cons (pv 1) pa_nil)) pa_nil))))) pss_never pss_nil)
  (pss_one (ps_for PassesOwn.never rfl (show PI _ _ _ (iList K _) from pi_list (pe_callB (r := rSortedS K) cr_sortedS (by rfl) T.sorted (by decide +kernel) (pa_cons (pe_callTy (call_listD rfl) (by rfl) T.list (by decide +kernel) (pa_cons (pv 1) pa_nil)) pa_nil))) (pg_name (i := 3) sc_check_words.nd rfl (Or.inl rfl))
    (pss_one (ps_if (pt_not (pt_val (pcl G_is_choice hr (pa_cons (pe_dget (hu_of hr) (pv 0) (pv 3) (fun _ _ => rfl)) (pa_cons (pe_dget (hu_of hr) (pv 1) (pv 3) (fun _ _ => rfl)) pa_nil))))) pss_never pss_nil))))), ?_⟩
    refine Evl.q_when (b := false) (Evl.et_not (a := true) (Evl.et_B fun H1 e1 Q' q' => ?_)) (fun h => nomatch h) fun _ H1 e1 => ?_
    · refine ⟨_, rfl, _, rfl, ch, es, rfl, .inl (e1 _ _ hes), fun a ha => ⟨⟨v, a, n, S, l, c.map (·.1), rfl, rep_ex (e1.trans (Ex.new ha)) hv, Evl.sq_of (by rw [upd_same, keys]), by rw [List.length_map]; omega, by rw [List.length_map]; exact hl, fun x hx => ?_⟩, fun H2 e2 => q' H2 ((Ex.new ha).trans e2)⟩⟩
      obtain ⟨q, hq1, rfl⟩ := List.mem_map.mp hx
      obtain ⟨_, d, hd, _⟩ := hq q hq1
      rw [hd]; rfl
    · refine ⟨_, rfl, ch, es, rfl, .inl (e1 _ _ hes), fun a ha => ⟨a, c.map (·.1), rfl, Evl.sq_of (by rw [upd_same, keys]), by rw [List.length_map]; omega, fun ys b perm so hb => ?_⟩⟩
      have e2 : Ex H (upd (upd H1 a (.lst (es.map fun kv => kV kv.1))) b (.lst (ys.map V.str))) := e1.trans ((Ex.new ha).trans (Ex.new hb))
      have hb2 : (upd (upd H1 a (.lst (es.map fun kv => kV kv.1))) b (.lst (ys.map V.str))) b = some (.lst (ys.map V.str)) := upd_same
      generalize (upd (upd H1 a (.lst (es.map fun kv => kV kv.1))) b (.lst (ys.map V.str))) = H2 at e2 hb2 ⊢
      refine ⟨b, rfl, ⟨_, Evl.sq_of hb2⟩, for_list (K := K) (a := b) (xs := ys.map V.str) (fun i σ' H' => ∃ o, σ' = [some v, some (.ref ch), some pl, o] ∧ Ex H2 H') ⟨_, rfl, Ex.refl _⟩ (fun i σ' H' _ ⟨_, _, e⟩ => Evl.sq_of (e _ _ hb2)) (fun i x σ' H' hx ⟨o, eσ, e⟩ => ?_) fun σ' H' ⟨_, _, e⟩ => k H' (e2.trans e)⟩
      subst eσ
      rw [List.getElem?_map] at hx
      cases hy : ys[i]? with
      | none => rw [hy] at hx; cases hx
      | some y =>
      rw [hy] at hx
      cases hx
      obtain ⟨xs, hlk, hmem⟩ := lk_mem (perm.mem_iff.mp (List.mem_of_getElem? hy))
      obtain ⟨htx, d, hd, hin⟩ := hq (y, xs) hmem
      obtain ⟨ve, hve, t, rfl, ht⟩ := pair_lkV (F := fun x v => ∃ t, v = .ref t ∧ H t = some (.tup x)) pr hlk
      cases n with
      | zero => exact hv.elim
      | succ n =>
      obtain ⟨dv, des, rfl, _, hdv, _, dpr⟩ := id hv
      obtain ⟨vd, hvd, hrd⟩ := rep_entry dpr hd
      have evd := rep_dV hrd (htx _ hin)
      subst evd
      have e3 := e2.trans e
      exact Evl.s_when (b := false) (Evl.et_not (a := true) (Evl.et_B (spV_ev (Evl.ea_cons (ev_get (Evl.ev_var rfl) (Evl.ev_var rfl) (.inl (e3 _ _ hdv)) hvd) (Evl.ea_cons (ev_get (Evl.ev_var rfl) (Evl.ev_var rfl) (.inl (e3 _ _ hes)) hve) Evl.ea_nil)) fun H4 e4 => ⟨_, t, xs, rfl, e4 _ _ (e3 _ _ ht), htx _ hin, htx, hin⟩))) (fun h => nomatch h) fun _ H4 e4 => ⟨_, rfl, e.trans e4⟩
end
end Pk

namespace Pk
open PySem PySem.Spec PyProof.Rows L2 Ssb
open Evl (Ex Ev EvT EvL EvA EvU)
/-! ### rows_in -/
/-- the number of rows, m levels of lists deep -/
def rowsN : Nat → D → Int
  | 0, _ => 0
  | m + 1, d => match d with
    | .dic l => match l.lookup ("lists" : Str) with
      | some (.dic ls) => (ls.map fun p => match p.2 with
        | .lst rs => (rs.length : Int) + (rs.map (rowsN m)).sum
        | _ => 0).sum
      | _ => 0
    | _ => 0
def rowsL (m : Nat) : D → Int
  | .lst rs => (rs.length : Int) + (rs.map (rowsN m)).sum
  | _ => 0
/-- data or a row, m levels of lists deep -/
def wfR : Nat → D → Prop
  | 0, _ => False
  | m + 1, d => ∃ l ls, d = .dic l ∧ l.lookup ("lists" : Str) = some (.dic ls) ∧ ∀ p ∈ ls, ∃ rs, p.2 = .lst rs ∧ ∀ r ∈ rs, wfR m r
theorem rowsN_eq {m : Nat} {l ls : List (Str × D)} (h : l.lookup ("lists" : Str) = some (.dic ls)) : rowsN (m + 1) (.dic l) = (ls.map fun p => rowsL m p.2).sum := by
  show (match l.lookup ("lists" : Str) with | some (.dic ls) => _ | _ => (0 : Int)) = _
  rw [h]
  rfl
theorem map_range {α β : Type} {f : Nat → β} {g : α → β} : ∀ {l : List α} {n : Nat}, l.length = n → (∀ (i : Nat) (a : α), l[i]? = some a → f i = g a) → (List.range n).map f = l.map g := fun {l n} hn h => by
  refine List.ext_getElem? fun i => ?_
  rw [List.getElem?_map, List.getElem?_map]
  by_cases hi : i < n
  · have e : l[i]? = some (l[i]'(by omega)) := List.getElem?_eq_getElem (by omega)
    rw [e, List.getElem?_range hi]
    exact congrArg some (h i _ e)
  · have e : l[i]? = none := List.getElem?_eq_none_iff.mpr (by omega)
    rw [e, List.getElem?_eq_none_iff.mpr (by rw [List.length_range]; omega)]
    rfl
section
variable {P : Program} {w : World} {K : PySem.W.Frag} {mg : Str → Option Value} {base : Heap} {C_Shape C_FORMS : Addr}
def spRi (m : Nat) : Sp := fun vs H Q _ => ∃ (v : V) (n : Nat) (S : Addr → Prop) (d : D), vs = [v] ∧ Rep H n S d v ∧ wfR m d ∧ ∀ H', Ex H H' → Q (.int (rowsN m d)) H'
theorem ok_rows_in (T : Txt K mg C_Shape C_FORMS) (R : Prg K mg C_Shape C_FORMS) : ∀ m, ∃ f fd, Fn P w K mg base "rows_in" (m + 1) ["data"] (spRi m) f fd
  | 0 => by
    obtain ⟨f, fd, at_, F, kp⟩ := R.rows_in
    refine ⟨f, fd, F.ok sc_rows_in (fun vs H Q E h => ?_) (fun cdv A outer s H vs Q E hr h => ?_), at_, kp, F.binds (fun _ _ _ _ _ _ us hl => match us, hl with | [_], _ => rfl)⟩
    · obtain ⟨v, n, S, d, rfl, _⟩ := h; rfl
    · obtain ⟨v, n, S, d, rfl, hv, hw, k⟩ := h; exact hw.elim
  | m + 1 => by
    obtain ⟨f0, fd0, G_rows_in⟩ := ok_rows_in T R m
    obtain ⟨f, fd, at_, F, kp⟩ := R.rows_in
    refine ⟨f, fd, F.ok sc_rows_in (fun vs H Q E h => ?_) (fun cdv A outer s H vs Q E hr h => ?_), at_, kp, F.binds (fun _ _ _ _ _ _ us hl => match us, hl with | [_], _ => rfl)⟩
    · obtain ⟨v, n, S, d, rfl, _⟩ := h; rfl
    · obtain ⟨v, n, S, d, rfl, hv, ⟨l, ls, rfl, hl, hw⟩, k⟩ := h
      rw [rowsN_eq hl] at k
      cases n with
      | zero => exact hv.elim
      | succ n =>
      obtain ⟨dv, des, rfl, _, hdv, _, dpr⟩ := id hv
      obtain ⟨vl, hvl, hrl⟩ := rep_entry dpr hl
      cases n with
      | zero => exact hrl.elim
      | succ n =>
      obtain ⟨da, es, rfl, ⟨_, nda⟩, hda, hlen, pr⟩ := id hrl
      have le := pair_len pr
      have lsAt : ∀ (i : Nat) (x : Key) (v : V), es[i]? = some (x, v) → ∃ p, ls[i]? = some p ∧ Rep H (n + 1) (fun b => (S b ∧ b ≠ dv) ∧ b ≠ da) p.2 v := fun i x v hx => by
        obtain ⟨p, hp, _, h2⟩ := pair_back pr hx
        exact ⟨p, hp, rep_up h2⟩
      refine ⟨_, (pss_one (ps_ret (pe_callB (r := rSum K) (cr_sum rfl) (by rfl) T.sum (by decide +kernel) (pa_cons (pe_lock (pe_lc (own := [("rows", 1)]) rfl sc_rows_in.nd (pi_values (pe_dget (hu_of hr) (pv 0) pe_str (fun _ _ => rfl))) (blkOk_by (own := [("rows", 1)]) (N := ["data", "rows", "row"]) (sc := defScope s_rows_in) (by decide +kernel)) (fun _ _ _ _ _ => (pg_name (i := 1) sc_rows_in.nd rfl (Or.inl rfl))) (fun _ _ _ _ _ => pts_nil) (fun _ _ _ _ _ => (pe_op op_add (pe_callB (r := rLenA K) call_len (by rfl) T.len (by decide +kernel) (pa_cons (pv 1) pa_nil)) (pe_callB (r := rSum K) (cr_sum rfl) (by rfl) T.sum (by decide +kernel) (pa_cons (pe_lc (own := [("row", 2)]) rfl sc_rows_in.nd (show PI _ _ _ (iList K _) from pi_list (pv 1)) (blkOk_by (own := [("row", 2)]) (N := ["data", "rows", "row"]) (sc := { kind := .function, names := [(".0", .local), ("rows", .local), ("len", .globalImplicit), ("sum", .globalImplicit)], isGenerator := false, isCoroutine := false }) (by decide +kernel)) (fun _ _ _ _ _ => (pg_name (i := 2) sc_rows_in.nd rfl (Or.inl rfl))) (fun _ _ _ _ _ => pts_nil) (fun _ _ _ _ _ => (pcl G_rows_in hr (pa_cons (pv 2) pa_nil)))) pa_nil)))))) pa_nil)))), ?_⟩
      refine Evl.s_ret (ev_sum (n := es.length) (c := fun i => rowsL m ((ls[i]?.map (·.2)).getD .non)) (el_lcV (d := da) (es := es) (fun H1 e1 od => ev_get (Evl.ev_var rfl) Evl.ev_c (.inl (by rw [upd_ne nda.symm]; exact e1 _ _ hdv)) hvl) hda (by omega) (fun _ => rfl) fun i x v hx od H1 H2 e1 e2 => ?_)) fun H2 e2 => ?_
      · obtain ⟨p, hp, hr1⟩ := lsAt i x v hx
        obtain ⟨rs, ep, hrs⟩ := hw p (List.mem_of_getElem? hp)
        have er : rowsL m ((ls[i]?.map (·.2)).getD .non) = (rs.length : Int) + (rs.map (rowsN m)).sum := by
          rw [hp]
          show rowsL m p.2 = _
          rw [ep]; rfl
        rw [er]
        have hr2 := rep_in (e1 _ _ hda) e2 (rep_ex e1 hr1)
        rw [ep] at hr2
        obtain ⟨ra, xs, rfl, _, hra, hl5, pp⟩ := id hr2
        have lx := pair_len pp
        refine Evl.ev_op (Evl.ev_is (ev_lenL (Evl.ev_var rfl) (.inl (Evl.sq_of hra))) (by rw [← lx])) (Evl.ev_is (ev_sum (n := xs.length) (c := fun j => rowsN m ((rs[j]?).getD .non)) (el_lcA (Evl.ev_var rfl) (Evl.sq_of hra) (by omega) (fun _ => rfl) fun j y hy H3 e3 => ?_)) ?_) Evl.rv_I0
        · obtain ⟨r, hr3, hr4⟩ := pair_back pp hy
          have e5 : rowsN m ((rs[j]?).getD .non) = rowsN m r := by rw [hr3]; rfl
          rw [e5]
          exact ev_fn (Evl.ea_cons (Evl.ev_var rfl) Evl.ea_nil) fun H4 e4 Q' q' => ⟨y, n, _, r, rfl, rep_ex (e3.trans e4) hr4, hrs r (List.mem_of_getElem? hr3), q'⟩
        · congr 1
          congr 1
          exact map_range lx fun j a ha => by rw [ha]; rfl
      · have := k H2 e2
        rw [← map_range (f := fun i => rowsL m ((ls[i]?.map (·.2)).getD .non)) le fun i a ha => by rw [ha]; rfl] at this
        exact this
end
/-! ### valid rows -/
def okFs (f : Fl) (c : List (Str × D)) : Prop := c.length = f.length ∧ ∀ p ∈ f, ∃ x, c.lookup p.1 = some (.str x) ∧ x ∈ p.2
def okRows (s : Sh) : Nat → Ro → D → Prop
  | 0, _, _ => False
  | m + 1, r, d => ∃ (rs : List D) (ids : List Int), d = .lst rs ∧ ids.Nodup ∧ rs.length ≤ 400 ∧ Paired (fun (row : D) (id : Int) => ∃ l fs ls, row = .dic l ∧ l.length = 3 ∧ l.lookup ("id" : Str) = some (.int id) ∧ 0 ≤ id ∧ id ≤ 1000000 ∧
      l.lookup ("fields" : Str) = some (.dic fs) ∧ okFs r.2.2 fs ∧ l.lookup ("lists" : Str) = some (.dic ls) ∧ ls.length = (kids s (some r.1)).length ∧ ∀ r' ∈ rowsS s, r'.2.1 = some r.1 → ∃ d', ls.lookup r'.1 = some d' ∧ okRows s m r' d') rs ids
def okLs (s : Sh) (m : Nat) (par : Option Str) (ls : List (Str × D)) : Prop := ls.length = (kids s par).length ∧ ∀ r' ∈ rowsS s, r'.2.1 = par → ∃ d', ls.lookup r'.1 = some d' ∧ okRows s m r' d'
theorem kids_mem {s : Sh} {par : Option Str} {x : Str} (h : x ∈ kids s par) : ∃ r ∈ rowsS s, r.2.1 = par ∧ r.1 = x := by
  obtain ⟨r, hr, rfl⟩ := List.mem_map.mp h
  have := List.mem_filter.mp hr
  exact ⟨r, this.1, of_decide_eq_true this.2, rfl⟩
section
variable {P : Program} {w : World} {K : PySem.W.Frag} {mg : Str → Option Value} {base : Heap} {C_Shape C_FORMS : Addr}
/-- place: a tuple, not empty, of few parts -/
def PlAt (H : Hp) (v : V) (n : Nat) : Prop := ∃ (a : Addr) (xs : List V), v = .ref a ∧ H a = some (.tup xs) ∧ xs.length ≤ n
theorem PlAt.ex {H H' : Hp} {v : V} {n : Nat} (e : Ex H H') (h : PlAt H v n) : PlAt H' v n := by
  obtain ⟨a, xs, h0, h1, h3⟩ := h; exact ⟨a, xs, h0, e _ _ h1, h3⟩
/-- place + (x,) -/
theorem ev_place {σ : L2.St} {H : Hp} {ta tb : TE} {pl y : V} {n : Nat} (h : Ev ta σ H pl) (hp : PlAt H pl n) (hn : n ≤ 1000) (hy : Ev tb σ H y) : EvP (tOp (rCatA K) ta (tTup (tCons tb tNil))) σ H fun v H' => PlAt H' v (n + 1) := fun H1 e Q q => by
  obtain ⟨a, xs, rfl, ha, hl⟩ := hp
  refine h H1 e _ fun H2 e2 => hy H2 (e.trans e2) _ fun H3 e3 => ⟨(by show 1 ≤ sizeLine; decide), fun t ht => ⟨a, t, xs, [y], rfl, rfl, Evl.st_of ((e.trans (e2.trans (e3.trans (Ex.new ht)))) _ _ ha), Evl.st_of upd_same, Evl.sz_of (by simp only [List.length_singleton]; omega), fun _ => ?_, (fun _ z => nomatch z), fun _ _ p hp => ?_⟩⟩
  · exact q _ _ (e2.trans (e3.trans (Ex.new ht))) ⟨t, [y], rfl, upd_same, by simp⟩
  · exact q _ _ (e2.trans (e3.trans ((Ex.new ht).trans (Ex.new hp)))) ⟨p, xs ++ [y], rfl, upd_same, by simp only [List.length_append, List.length_singleton]; omega⟩
def spCr (C : Addr) (m : Nat) : Sp := fun vs H Q _ => ∃ (p : Addr) (v pl : V) (n : Nat) (S : Addr → Prop) (d : D) (fl : List Str) (s : Sh) (S' : Addr → Prop) (r : Ro) (q : Nat), vs = [.ref p, .str r.1, v, pl] ∧ ShapeAt C H p fl s S' ∧ okSh s ∧ r ∈ rowsS s ∧ Rep H n S d v ∧ okRows s m r d ∧ PlAt H pl q ∧ q + 10 * m ≤ 802 ∧ ∀ H', Ex H H' → Q .non H'
def spCl (C : Addr) (m : Nat) : Sp := fun vs H Q _ => ∃ (p na : Addr) (v pl : V) (n : Nat) (S : Addr → Prop) (ls : List (Str × D)) (fl : List Str) (s : Sh) (S' : Addr → Prop) (par : Option Str) (nms : List Str) (q : Nat), vs = [.ref p, v, .ref na, pl] ∧ ShapeAt C H p fl s S' ∧ okSh s ∧ Rep H n S (.dic ls) v ∧ okLs s m par ls ∧ H na = some (.lst (nms.map V.str)) ∧ nms.Perm (kids s par) ∧ PlAt H pl q ∧ q + 10 * m ≤ 800 ∧ ∀ H', Ex H H' → Q .non H'
theorem ok_check_lists (T : Txt K mg C_Shape C_FORMS) (R : Prg K mg C_Shape C_FORMS) {m c : Nat} (G0 : ∃ f fd, Fn P w K mg base "check_rows" c ["shape", "name", "rows", "place"] (spCr C_Shape m) f fd) : ∃ f fd, Fn P w K mg base "check_lists" (c + 2) ["shape", "lists", "names", "place"] (spCl C_Shape m) f fd := by
  obtain ⟨_, _, G_check_rows⟩ := G0
  obtain ⟨_, _, G_has_names⟩ := ok_has_names (P := P) (w := w) (base := base) T R
  obtain ⟨f, fd, at_, F, kp⟩ := R.check_lists
  refine ⟨f, fd, F.ok sc_check_lists (fun vs H Q E h => ?_) (fun cdv A outer s H vs Q E hr h => ?_), at_, kp, F.binds (fun _ _ _ _ _ _ us hl => match us, hl with | [_, _, _, _], _ => rfl)⟩
  · obtain ⟨p, na, v, pl, n, S, ls, fl, s, S', par, nms, q, rfl, _⟩ := h; rfl
  · obtain ⟨p, na, v, pl, n, S, ls, fl, z, S', par, nms, q, rfl, hS, hz, hv, ⟨hlen, hls⟩, hna, perm, hpl, hq, k⟩ := h
    have ln : nms.length = (kids z par).length := perm.length_eq
    obtain ⟨r4, _⟩ := okSh_rows hz
    have l4 := kids_len (s := z) par
    refine ⟨_, (pss_cons (ps_if (pt_not (pt_val (pcl G_has_names hr (pa_cons (pv 1) (pa_cons (pv 2) pa_nil))))) pss_never pss_nil)
  (pss_one (ps_for PassesOwn.never rfl (show PI _ _ _ (iList K _) from pi_list (pv 2)) (pg_name (i := 4) sc_check_lists.nd rfl (Or.inl rfl))
    (pss_one (ps_expr (pcl G_check_rows hr (pa_cons (pv 0) (pa_cons (pv 4) (pa_cons (pe_dget (hu_of hr) (pv 1) (pv 4) (fun _ _ => rfl)) (pa_cons (pe_op (r := rCatA K) op_catA (pv 3) (pe_tup (pa_cons (pv 4) pa_nil))) pa_nil)))))))))), ?_⟩
    refine Evl.q_when (b := false) (Evl.et_not (a := true) (Evl.et_B (spV_ev (Evl.ea_cons (Evl.ev_var rfl) (Evl.ea_cons (Evl.ev_var rfl) Evl.ea_nil)) fun H1 e1 => ⟨v, na, n, S, ls, nms, rfl, rep_ex e1 hv, Evl.sq_of (e1 _ _ hna), by omega, by omega, fun x hx => ?_⟩))) (fun h => nomatch h) fun _ H1 e1 => ?_
    · obtain ⟨r, hr1, hr2, rfl⟩ := kids_mem (perm.mem_iff.mp hx)
      obtain ⟨d', hd', _⟩ := hls r hr1 hr2
      rw [hd']; rfl
    · refine ⟨_, rfl, na, rfl, ⟨_, Evl.sq_of (e1 _ _ hna)⟩, for_list (K := K) (a := na) (xs := nms.map V.str) (fun i σ' H' => ∃ o, σ' = [some (.ref p), some v, some (.ref na), some pl, o] ∧ Ex H H') ⟨_, rfl, e1⟩ (fun i σ' H' _ ⟨_, _, e⟩ => Evl.sq_of (e _ _ hna)) (fun i x σ' H' hx ⟨o, eσ, e⟩ => ?_) fun σ' H' ⟨_, _, e⟩ => k H' e⟩
      subst eσ
      rw [List.getElem?_map] at hx
      cases hy : nms[i]? with
      | none => rw [hy] at hx; cases hx
      | some y =>
      rw [hy] at hx
      cases hx
      obtain ⟨r, hr1, hr2, rfl⟩ := kids_mem (perm.mem_iff.mp (List.mem_of_getElem? hy))
      obtain ⟨d', hd', hrows⟩ := hls r hr1 hr2
      cases n with
      | zero => exact hv.elim
      | succ n =>
      obtain ⟨da, es, rfl, _, hda, _, pr⟩ := id hv
      obtain ⟨vd, hvd, hrd⟩ := rep_entry pr hd'
      refine ⟨_, rfl, _, rfl, ?_⟩
      refine ev_get (Evl.ev_var rfl) (Evl.ev_var rfl) (.inl (e _ _ hda)) hvd _ (Ex.refl _) _ fun H2 e2 => ?_
      refine ev_place (Evl.ev_var rfl) (hpl.ex (e.trans e2)) (by omega) (Evl.ev_var rfl) _ (Ex.refl _) _ fun v3 H3 e3 hp3 => ?_
      have e4 := e.trans (e2.trans e3)
      exact ⟨p, vd, v3, n, _, d', fl, z, S', r, q + 1, rfl, hS.ex e4, hz, hr1, rep_ex e4 hrd, hrows, hp3, by omega, fun H5 e5 => ⟨_, rfl, e4.trans e5⟩⟩
end
end Pk

namespace Pk
open PySem PySem.Spec PyProof.Rows L2 Ssb
open Evl (Ex Ev EvT EvL EvA EvU)
/-! ### check_row, check_rows, check -/
theorem flD_cho {H : Hp} {n : Nat} {S : Addr → Prop} {f : Fl} {q : Addr} (h : Rep H n S (flD f) (.ref q)) : ChoAt H q (f.map fun p => (p.1, p.2.map V.str)) := by
  cases n with
  | zero => exact h.elim
  | succ n =>
  obtain ⟨a, es, e, _, ha, _, pr⟩ := h
  cases e
  refine ⟨es, ha, ?_⟩
  have key : ∀ {f : Fl} {es : List (Key × V)}, Paired (fun (q' : Str × D) (e : Key × V) => e.1 = Sum.inr q'.1 ∧ Rep H n (fun b => S b ∧ b ≠ q) q'.2 e.2) (f.map fun p => (p.1, D.tup (p.2.map .str))) es →
      Paired (fun (q' : Str × List V) (e : Key × V) => e.1 = Sum.inr q'.1 ∧ ∃ t, e.2 = .ref t ∧ H t = some (.tup q'.2)) (f.map fun p => (p.1, p.2.map V.str)) es := by
    intro f
    induction f with
    | nil => intro es p; cases p; exact .nil
    | cons x f ih =>
      intro es p
      rw [List.map_cons] at p
      cases p with
      | cons h t =>
        refine .cons ⟨h.1, ?_⟩ (ih t)
        exact rep_words h.2
  exact key pr
def okRow (s : Sh) (m : Nat) (r : Ro) (row : D) (id : Int) : Prop := ∃ l fs ls, row = .dic l ∧ l.length = 3 ∧ l.lookup ("id" : Str) = some (.int id) ∧ 0 ≤ id ∧ id ≤ 1000000 ∧
      l.lookup ("fields" : Str) = some (.dic fs) ∧ okFs r.2.2 fs ∧ l.lookup ("lists" : Str) = some (.dic ls) ∧ ls.length = (kids s (some r.1)).length ∧ ∀ r' ∈ rowsS s, r'.2.1 = some r.1 → ∃ d', ls.lookup r'.1 = some d' ∧ okRows s m r' d'
theorem okFs_fits {f : Fl} {c : List (Str × D)} (hf : okFl f) (h : okFs f c) : fits c (f.map fun p => (p.1, p.2.map V.str)) := by
  refine ⟨by rw [List.length_map]; exact h.1, by rw [List.length_map]; have := hf.1; omega, fun q hq => ?_⟩
  obtain ⟨p, hp, rfl⟩ := List.mem_map.mp hq
  refine ⟨fun x hx => ?_, ?_⟩
  · obtain ⟨y, _, rfl⟩ := List.mem_map.mp hx
    exact .inl ⟨y, rfl⟩
  · obtain ⟨x, h1, h2⟩ := h.2 p hp
    exact ⟨_, h1, List.mem_map.mpr ⟨x, h2, rfl⟩⟩
def idE (ids : List Int) : List (Key × V) := ids.map fun i => (Sum.inl i, V.bl true)
theorem idE_no : ∀ {ids : List Int} {i : Int}, i ∉ ids → valV (idE ids) (Sum.inl i : Key) = none
  | [], _, _ => rfl
  | j :: ids, i, h => by
    show valV ((Sum.inl j, V.bl true) :: idE ids) _ = none
    rw [vV_cons, if_neg fun z => h (by rw [Sum.inl.inj z]; exact List.mem_cons_self)]
    exact idE_no fun z => h (List.mem_cons_of_mem _ z)
section
variable {P : Program} {w : World} {K : PySem.W.Frag} {mg : Str → Option Value} {base : Heap} {C_Shape C_FORMS : Addr}
def spCx (C : Addr) (m : Nat) : Sp := fun vs H Q _ => ∃ (p er : Addr) (v pl : V) (n : Nat) (S : Addr → Prop) (d : D) (fl : List Str) (s : Sh) (S' : Addr → Prop) (r : Ro) (q : Nat) (ids : List Int) (id : Int), vs = [.ref p, .str r.1, v, .ref er, pl] ∧ ShapeAt C H p fl s S' ∧ okSh s ∧ r ∈ rowsS s ∧ Rep H n S d v ∧ okRow s m r d id ∧ H er = some (.dK (idE ids)) ∧ id ∉ ids ∧ PlAt H pl q ∧ q + 10 * m ≤ 796 ∧ ∀ H', Ex H H' → Q .non H'
theorem ok_check_row (T : Txt K mg C_Shape C_FORMS) (R : Prg K mg C_Shape C_FORMS) {m c : Nat} (hc : 3 ≤ c) (G0 : ∃ f fd, Fn P w K mg base "check_lists" c ["shape", "lists", "names", "place"] (spCl C_Shape m) f fd) : ∃ f fd, Fn P w K mg base "check_row" (c + 1) ["shape", "name", "row", "earlier", "here"] (spCx C_Shape m) f fd := by
  obtain ⟨_, _, G_check_lists⟩ := G0
  obtain ⟨_, _, G_has_names⟩ := ok_has_names (P := P) (w := w) (base := base) T R
  obtain ⟨_, _, G_is_integer⟩ := ok_is_integer (P := P) (w := w) (base := base) T R
  obtain ⟨_, _, G_check_words⟩ := ok_check_words (P := P) (w := w) (base := base) T R
  obtain ⟨_, _, G_Shape_fields⟩ := ok_Shape_fields (P := P) (w := w) (base := base) T R
  obtain ⟨_, _, G_Shape_inner⟩ := ok_Shape_inner (P := P) (w := w) (base := base) T R
  obtain ⟨tG, gG⟩ := T.g_GREATEST_ID
  obtain ⟨f, fd, at_, F, kp⟩ := R.check_row
  refine ⟨f, fd, F.ok sc_check_row (fun vs H Q E h => ?_) (fun cdv A outer s H vs Q E hr h => ?_), at_, kp, F.binds (fun _ _ _ _ _ _ us hl => match us, hl with | [_, _, _, _, _], _ => rfl)⟩
  · obtain ⟨p, er, v, pl, n, S, d, fl, s, S', r, q, ids, id, rfl, _⟩ := h; rfl
  · obtain ⟨p, er, v, pl, n, S, d, fl, z, S', r, q, ids, id, rfl, hS, hz, hr1, hv, ⟨l, fs, ls, rfl, hl3, hid, i0, i1, hfs, okf, hls, lls, okl⟩, her, nid, hpl, hq, k⟩ := h
    obtain ⟨dx, ft, tb, hp, hft, htb⟩ := _root_.id hS
    obtain ⟨_, rok⟩ := okSh_rows hz
    cases n with
    | zero => exact hv.elim
    | succ n =>
    obtain ⟨dv, des, rfl, _, hdv, _, dpr⟩ := _root_.id hv
    obtain ⟨vi, hvi, hri⟩ := rep_entry dpr hid
    obtain ⟨vf, hvf, hrf⟩ := rep_entry dpr hfs
    obtain ⟨vl, hvl, hrl⟩ := rep_entry dpr hls
    have evi : vi = .int id := by
      cases n with
      | zero => exact hri.elim
      | succ n => exact hri
    subst evi
    refine ⟨_, (pss_cons (ps_if (pt_not (pt_val (pcl G_has_names hr (pa_cons (pv 2) (pa_cons (pe_lst (pa_cons pe_str (pa_cons pe_str (pa_cons pe_str pa_nil)))) pa_nil))))) pss_never pss_nil)
  (pss_cons (ps_if (PW.pt (pw_or (pt_not (pt_val (pcl G_is_integer hr (pa_cons (pe_dget (hu_of hr) (pv 2) pe_str (fun _ _ => rfl)) (pa_cons pe_int (pa_cons (pe_glob (v := .int 1000000) rfl gG ⟨_, rfl⟩) pa_nil)))))) (pw_or1 (pt_cmp (pc_din (hu_of hr) (pe_dget (hu_of hr) (pv 2) pe_str (fun _ _ => rfl)) (pv 3)))))) pss_never pss_nil)
  (pss_cons (ps_expr (pcl G_check_words hr (pa_cons (pe_dget (hu_of hr) (pv 2) pe_str (fun _ _ => rfl)) (pa_cons (pmt (pv 0) T.cl_Shape G_Shape_fields hr (pa_cons (pv 1) pa_nil)) (pa_cons (pe_op (r := rCatA K) op_catA (pv 4) (pe_tup (pa_cons pe_str pa_nil))) pa_nil)))))
  (pss_one (ps_expr (pcl G_check_lists hr (pa_cons (pv 0) (pa_cons (pe_dget (hu_of hr) (pv 2) pe_str (fun _ _ => rfl)) (pa_cons (pmt (pv 0) T.cl_Shape G_Shape_inner hr (pa_cons (pv 1) pa_nil)) (pa_cons (pe_op (r := rCatA K) op_catA (pv 4) (pe_tup (pa_cons pe_str pa_nil))) pa_nil)))))))))), ?_⟩
    refine Evl.q_when (b := false) (Evl.et_not (a := true) (Evl.et_B (ev_fnL (Evl.ev_var rfl) (Evl.el_lst (Evl.ea_cons Evl.ev_c (Evl.ea_cons Evl.ev_c (Evl.ea_cons Evl.ev_c Evl.ea_nil))) (by show 3 ≤ 100000; decide)) fun a H4 e4 ha Q q => ⟨⟨_, a, n + 1, S, l, ["id", "fields", "lists"], rfl, rep_ex e4 hv, Evl.sq_of ha, by show 3 ≤ 1000; decide, hl3, fun z hz => ?_⟩, q⟩))) (fun h => nomatch h) fun _ H1 e1 => ?_
    · rcases List.mem_cons.mp hz with rfl | hz
      · rw [hid]; rfl
      · rcases List.mem_cons.mp hz with rfl | hz
        · rw [hfs]; rfl
        · rw [List.mem_singleton.mp hz, hls]; rfl
    refine Evl.q_when (b := false) (Evl.et_or (a := false) (b := false) (Evl.et_not (a := true) (Evl.et_B (spV_ev (Evl.ea_cons (ev_get (Evl.ev_var rfl) Evl.ev_c (.inl (e1 _ _ hdv)) hvi) (Evl.ea_cons Evl.ev_c (Evl.ea_cons Evl.ev_c Evl.ea_nil))) fun H2 e2 => ⟨id, 0, 1000000, rfl, i0, i1⟩))) fun _ => Evl.et_test fun H2 e2 Q' q' => ?_) (fun h => nomatch h) fun _ H2 e2 => ?_
    · exact ev_get (Evl.ev_var rfl) Evl.ev_c (.inl (e1 _ _ hdv)) hvi H2 e2 _ fun H3 e3 => ⟨_, rfl, er, none, rfl, .inl ⟨idE ids, Sum.inl id, .inl ((e1.trans (e2.trans e3)) _ _ her), rfl, (idE_no nid).symm⟩, q' H3 e3⟩
    have e02 := e1.trans e2
    -- check_words
    refine ev_get (Evl.ev_var rfl) Evl.ev_c (.inl (e02 _ _ hdv)) hvf _ (Ex.refl _) _ fun H3 e3 => ?_
    have e03 := e02.trans e3
    refine ⟨_, rfl, p, dx, _, rfl, e03 _ _ hp, shF_no _ _ (by decide +kernel) (by decide +kernel), _, rfl, p, fl, z, S', r, rfl, hS.ex e03, hz, hr1, fun H4 q4 e4 hq4 => ?_⟩
    have e04 := e03.trans e4
    refine ev_place (Evl.ev_var rfl) (hpl.ex e04) (by omega) Evl.ev_c _ (Ex.refl _) _ fun v5 H5 e5 hp5 => ?_
    have e05 := e04.trans e5
    refine ⟨⟨vf, v5, q4, n, _, fs, r.2.2.map fun p => (p.1, p.2.map V.str), rfl, rep_ex e05 hrf, flD_cho (rep_ex e5 hq4), okFs_fits (rok r hr1).2 okf⟩, fun H6 e6 => ?_⟩
    have e06 := e05.trans e6
    -- check_lists
    refine ⟨_, rfl, ?_⟩
    refine ev_get (Evl.ev_var rfl) Evl.ev_c (.inl (e06 _ _ hdv)) hvl _ (Ex.refl _) _ fun H7 e7 => ?_
    have e07 := e06.trans e7
    refine ⟨_, rfl, p, dx, _, rfl, e07 _ _ hp, shF_no _ _ (by decide +kernel) (by decide +kernel), _, rfl, p, fl, z, S', r.1, rfl, hS.ex e07, hz, List.mem_map.mpr ⟨r, hr1, rfl⟩, fun H8 q8 nms e8 nq8 hq8 perm _ => ?_⟩
    have e08 := e07.trans e8
    refine ev_place (Evl.ev_var rfl) (hpl.ex e08) (by omega) Evl.ev_c _ (Ex.refl _) _ fun v9 H9 e9 hp9 => ?_
    have e09 := e08.trans e9
    exact ⟨p, q8, vl, v9, n, _, ls, fl, z, S', some r.1, nms, q + 1, rfl, hS.ex e09, hz, rep_ex e09 hrl, ⟨lls, okl⟩, e9 _ _ hq8, perm, hp9, by omega, fun H10 e10 => k H10 (e09.trans e10)⟩
theorem ok_check_rows0 (T : Txt K mg C_Shape C_FORMS) (R : Prg K mg C_Shape C_FORMS) : ∃ f fd, Fn P w K mg base "check_rows" 1 ["shape", "name", "rows", "place"] (spCr C_Shape 0) f fd := by
  obtain ⟨f, fd, at_, F, kp⟩ := R.check_rows
  refine ⟨f, fd, F.ok sc_check_rows (fun vs H Q E h => ?_) (fun cdv A outer s H vs Q E hr h => ?_), at_, kp, F.binds (fun _ _ _ _ _ _ us hl => match us, hl with | [_, _, _, _], _ => rfl)⟩
  · obtain ⟨p, v, pl, n, S, d, fl, s, S', r, q, rfl, _⟩ := h; rfl
  · obtain ⟨p, v, pl, n, S, d, fl, s, S', r, q, rfl, _, _, _, _, h, _⟩ := h; exact h.elim
theorem ok_check_rows (T : Txt K mg C_Shape C_FORMS) (R : Prg K mg C_Shape C_FORMS) {m c : Nat} (G0 : ∃ f fd, Fn P w K mg base "check_row" c ["shape", "name", "row", "earlier", "here"] (spCx C_Shape m) f fd) : ∃ f fd, Fn P w K mg base "check_rows" (c + 1) ["shape", "name", "rows", "place"] (spCr C_Shape (m + 1)) f fd := by
  obtain ⟨_, _, G_check_row⟩ := G0
  obtain ⟨f, fd, at_, F, kp⟩ := R.check_rows
  refine ⟨f, fd, F.ok sc_check_rows (fun vs H Q E h => ?_) (fun cdv A outer s H vs Q E hr h => ?_), at_, kp, F.binds (fun _ _ _ _ _ _ us hl => match us, hl with | [_, _, _, _], _ => rfl)⟩
  · obtain ⟨p, v, pl, n, S, d, fl, s, S', r, q, rfl, _⟩ := h; rfl
  · obtain ⟨p, v, pl, n, S, d, fl, z, S', r, q, rfl, hS, hz, hr1, hv, ⟨rs, ids, rfl, ndi, lrs, prs⟩, hpl, hq, k⟩ := h
    cases n with
    | zero => exact hv.elim
    | succ n =>
    obtain ⟨ra, xs, rfl, _, hra, _, pp⟩ := _root_.id hv
    have lx := pair_len pp
    have li := pair_len prs
    refine ⟨_, (pss_cons (ps_if (pt_not (pt_val (pe_callB (r := rIsi K) call_isi (by rfl) T.isinstance (by decide +kernel) (pa_cons (pv 2) (pa_cons (pe_bltn (v := .ty "list") (by rfl) T.list boot_list rfl) pa_nil))))) pss_never pss_nil)
  (pss_cons (ps_set (i := 4) sc_check_rows.nd rfl (Or.inl rfl) pe_dnewK)
  (pss_one (ps_for PassesOwn.never rfl (pi_enum (by rfl) T.enumerate (pa_cons (pv 2) pa_nil)) (show PG _ _ (gTup K 2 _) from pg_tup (n := 2) rfl (pgs_cons (pg_name (i := 5) sc_check_rows.nd rfl (Or.inl rfl)) (pgs_cons (pg_name (i := 6) sc_check_rows.nd rfl (Or.inl rfl)) pgs_nil)))
    (pss_cons (ps_expr (pcl G_check_row hr (pa_cons (pv 0) (pa_cons (pv 1) (pa_cons (pv 6) (pa_cons (pv 4) (pa_cons (pe_op (r := rCatA K) op_catA (pv 3) (pe_tup (pa_cons (pv 5) pa_nil))) pa_nil)))))))
  (pss_one (ps_dput (hu_of hr) (pv 4) (pe_dget (hu_of hr) (pv 6) pe_str (fun _ _ => rfl)) pe_bl rfl))))))), ?_⟩
    refine Evl.q_when (b := false) (Evl.et_not (a := true) (Evl.et_B (ev_isi (Evl.ev_var rfl) (fun H1 e1 => .base (.lst (e1 _ _ hra))) (kit_ty (by decide +kernel))))) (fun h => nomatch h) fun _ H1 e1 => ?_
    intro er her
    have e2 : Ex H1 (upd H1 er (.dK [])) := Ex.new her
    refine ⟨_, rfl, ra, xs, rfl, Evl.sq_of (e2 _ _ (e1 _ _ hra)), for_it walk_enum (fun i σ' H' => (∃ o5 o6, σ' = [some (.ref p), some (.str r.1), some (.ref ra), some pl, some (.ref er), o5, o6]) ∧ Ex H1 H' ∧ H' er = some (.dK (idE (ids.take i)))) ⟨⟨_, _, rfl⟩, e2, upd_same⟩ (fun i σ' H' _ pv => Evl.sq_of (pv.2.1 _ _ (e1 _ _ hra))) (fun i x σ' H' H'' hi pv y => ?_) fun σ' H' pv => k H' (e1.trans pv.2.1)⟩
    obtain ⟨⟨o5, o6, rfl⟩, e3, hes⟩ := pv
    obtain ⟨tp, x1, x2, rfl, ht, rfl, e, hx2⟩ := y
    cases e
    obtain ⟨row, hrow, hrr⟩ := pair_back pp hx2
    obtain ⟨id, hid, okr⟩ := pair_at prs hrow
    have e4 : Ex H1 (upd H' tp (.tup [.int (i : Nat), x2])) := e3.trans (Ex.new ht)
    have hes4 : (upd H' tp (.tup [.int (i : Nat), x2])) er = some (.dK (idE (ids.take i))) := (Ex.new ht) _ _ hes
    refine ⟨tp, _, rfl, Evl.st_of upd_same, rfl, _, _, rfl, _, _, rfl, rfl, ?_⟩
    generalize (upd H' tp (.tup [.int (i : Nat), x2])) = H4 at e4 hes4 ⊢
    have e04 := e1.trans e4
    have tk : ids.take (i + 1) = ids.take i ++ [id] := by rw [List.take_add_one, hid]; rfl
    have nid : id ∉ ids.take i := fun hm => by
      have := (List.nodup_append.mp (by rw [← tk]; exact List.Sublist.nodup (List.take_sublist _ _) ndi : (ids.take i ++ [id]).Nodup)).2.2
      exact this id hm id (List.mem_singleton.mpr rfl) rfl
    refine ⟨_, rfl, _, rfl, _, rfl, _, rfl, ?_⟩
    refine ev_place (Evl.ev_var rfl) (hpl.ex e04) (by omega) (Evl.ev_var rfl) _ (Ex.refl _) _ fun v5 H5 e5 hp5 => ?_
    have e05 := e04.trans e5
    refine ⟨p, er, x2, v5, n, _, row, fl, z, S', r, q + 1, ids.take i, id, rfl, hS.ex e05, hz, hr1, rep_ex e05 hrr, okr, e5 _ _ hes4, nid, hp5, by omega, fun H6 e6 => ?_⟩
    have e06 := e05.trans e6
    obtain ⟨l, fs, ls, rfl, _, hidl, _⟩ := okr
    cases n with
    | zero => exact hrr.elim
    | succ n =>
    obtain ⟨rv, res, rfl, _, hrv, _, rpr⟩ := _root_.id hrr
    obtain ⟨vi, hvi, hri⟩ := rep_entry rpr hidl
    have evi : vi = .int id := by
      cases n with
      | zero => exact hri.elim
      | succ n => exact hri
    subst evi
    refine ⟨_, rfl, ?_⟩
    refine ev_get (Evl.ev_var rfl) Evl.ev_c (.inl (e06 _ _ hrv)) hvi _ (Ex.refl _) _ fun H7 e7 => ?_
    have hes7 : H7 er = some (.dK (idE (ids.take i))) := e7 _ _ (e6 _ _ (e5 _ _ hes4))
    refine ⟨er, _, rfl, .inl ⟨idE (ids.take i), Sum.inl id, hes7, rfl, ?_, rfl⟩, ⟨_, _, rfl⟩, ?_, ?_⟩
    · unfold idE; rw [List.length_map, List.length_take]; exact Evl.sz_lt (by omega)
    · exact Ex.mut (e4.trans (e5.trans (e6.trans e7))) her
    · rw [upd_same, putK_new _ (idE_no nid), tk]
      unfold idE; rw [List.map_append]; rfl
/-- the whole tree of checks -/
theorem ok_check_lists2 (T : Txt K mg C_Shape C_FORMS) (R : Prg K mg C_Shape C_FORMS) : ∃ f fd, Fn P w K mg base "check_lists" 11 ["shape", "lists", "names", "place"] (spCl C_Shape 2) f fd :=
  ok_check_lists T R (ok_check_rows T R (ok_check_row T R (by decide) (ok_check_lists T R (ok_check_rows T R (ok_check_row T R (by decide) (ok_check_lists T R (ok_check_rows0 T R)))))))
def okD (fl : List Str) (s : Sh) (d : D) : Prop := ∃ l fgs ls, d = .dic l ∧ l.length = 2 ∧ l.lookup ("flags" : Str) = some (.dic fgs) ∧ fgs.length = fl.length ∧ (∀ x ∈ fl, ∃ b, fgs.lookup x = some (.bl b)) ∧ l.lookup ("lists" : Str) = some (.dic ls) ∧ okLs s 2 none ls ∧ wfR 3 d ∧ rowsN 3 d ≤ 300
def spCk (C : Addr) : Sp := fun vs H Q _ => ∃ (p : Addr) (v : V) (n : Nat) (S : Addr → Prop) (d : D) (fl : List Str) (s : Sh) (S' : Addr → Prop), vs = [.ref p, v] ∧ ShapeAt C H p fl s S' ∧ fl.length ≤ 2 ∧ fl.Nodup ∧ okSh s ∧ Rep H n S d v ∧ okD fl s d ∧ ∀ H', Ex H H' → Q .non H'
def flE (fl : List Str) : List (Str × List V) := fl.map fun x => (x, [V.bl true, V.bl false])
theorem cho_no {H : Hp} {fl : List Str} {es : List (Key × V)} {x : Str} : Paired (fun (q : Str × List V) (e : Key × V) => e.1 = Sum.inr q.1 ∧ ∃ t, e.2 = .ref t ∧ H t = some (.tup q.2)) (flE fl) es → x ∉ fl → valV es (Sum.inr x : Key) = none := by
  intro p
  generalize hc : flE fl = c at p
  induction p generalizing fl with
  | nil => intro _; rfl
  | @cons a b c es h t ih =>
    intro hx
    cases fl with
    | nil => cases hc
    | cons y fl =>
      unfold flE at hc
      rw [List.map_cons, List.cons.injEq] at hc
      rw [vV_cons, if_neg, ih hc.2 fun z => hx (List.mem_cons_of_mem _ z)]
      rw [h.1, ← hc.1]
      intro z
      exact hx (by rw [← Sum.inr.inj z]; exact List.mem_cons_self)
theorem ok_check (T : Txt K mg C_Shape C_FORMS) (R : Prg K mg C_Shape C_FORMS) : ∃ f fd, Fn P w K mg base "check" 13 ["shape", "data"] (spCk C_Shape) f fd := by
  obtain ⟨_, _, G_check_lists⟩ := ok_check_lists2 (P := P) (w := w) (base := base) T R
  obtain ⟨_, _, G_has_names⟩ := ok_has_names (P := P) (w := w) (base := base) T R
  obtain ⟨_, _, G_check_words⟩ := ok_check_words (P := P) (w := w) (base := base) T R
  obtain ⟨_, _, G_rows_in⟩ := ok_rows_in (P := P) (w := w) (base := base) T R 3
  obtain ⟨_, _, G_Shape_outer⟩ := ok_Shape_outer (P := P) (w := w) (base := base) T R
  obtain ⟨tG, gG⟩ := T.g_MOST_ROWS
  obtain ⟨f, fd, at_, F, kp⟩ := R.check
  refine ⟨f, fd, F.ok sc_check (fun vs H Q E h => ?_) (fun cdv A outer s H vs Q E hr h => ?_), at_, kp, F.binds (fun _ _ _ _ _ _ us hl => match us, hl with | [_, _], _ => rfl)⟩
  · obtain ⟨p, v, n, S, d, fl, s, S', rfl, _⟩ := h; rfl
  · obtain ⟨p, v, n, S, d, fl, z, S', rfl, hS, fl2, fln, hz, hv, ⟨l, fgs, ls, rfl, hl2, hfg, lfg, okg, hls, okl, wf, few⟩, k⟩ := h
    obtain ⟨dx, ft, tb, hp, hft, htb⟩ := id hS
    cases n with
    | zero => exact hv.elim
    | succ n =>
    obtain ⟨dv, des, rfl, _, hdv, _, dpr⟩ := id hv
    obtain ⟨vf, hvf, hrf⟩ := rep_entry dpr hfg
    obtain ⟨vl, hvl, hrl⟩ := rep_entry dpr hls
    refine ⟨_, (pss_cons (ps_if (pt_not (pt_val (pcl G_has_names hr (pa_cons (pv 1) (pa_cons (pe_lst (pa_cons pe_str (pa_cons pe_str pa_nil))) pa_nil))))) pss_never pss_nil)
  (pss_cons (ps_expr (pcl G_check_words hr (pa_cons (pe_dget (hu_of hr) (pv 1) pe_str (fun _ _ => rfl)) (pa_cons (pe_dc (own := [("flag", 2)]) rfl sc_check.nd (show PI _ _ _ (iTup K _) from pi_tup (show PE _ _ (tFld K _ _) from pe_fld (pv 0) rfl)) (blkOk_by (own := [("flag", 2)]) (N := ["shape", "data", "flag"]) (sc := defScope s_check) (by decide +kernel)) (fun _ _ _ _ _ => (pg_name (i := 2) sc_check.nd rfl (Or.inl rfl))) (fun _ _ _ _ _ => pts_nil) (fun _ _ _ _ _ => (pv 2)) (fun _ _ _ _ _ => (pe_tup (pa_cons pe_bl (pa_cons pe_bl pa_nil))))) (pa_cons (pe_tup (pa_cons pe_str pa_nil)) pa_nil)))))
  (pss_cons (ps_expr (pcl G_check_lists hr (pa_cons (pv 0) (pa_cons (pe_dget (hu_of hr) (pv 1) pe_str (fun _ _ => rfl)) (pa_cons (pmt0 (pv 0) T.cl_Shape G_Shape_outer hr) (pa_cons (pe_tup (pa_cons pe_str pa_nil)) pa_nil))))))
  (pss_one (ps_if (pt_cmpR op_gt (pcl G_rows_in hr (pa_cons (pv 1) pa_nil)) (pe_glob (v := .int 300) rfl gG ⟨_, rfl⟩) (nomark _)) pss_never pss_nil))))), ?_⟩
    refine Evl.q_when (b := false) (Evl.et_not (a := true) (Evl.et_B (ev_fnL (Evl.ev_var rfl) (Evl.el_lst (Evl.ea_cons Evl.ev_c (Evl.ea_cons Evl.ev_c Evl.ea_nil)) (by show 2 ≤ 100000; decide)) fun a H4 e4 ha Q q => ⟨⟨_, a, n + 1, S, l, ["flags", "lists"], rfl, rep_ex e4 hv, Evl.sq_of ha, by show 2 ≤ 1000; decide, hl2, fun z hz => ?_⟩, q⟩))) (fun h => nomatch h) fun _ H1 e1 => ?_
    · rcases List.mem_cons.mp hz with rfl | hz
      · rw [hfg]; rfl
      · rw [List.mem_singleton.mp hz, hls]; rfl
    -- check_words
    refine ev_get (Evl.ev_var rfl) Evl.ev_c (.inl (e1 _ _ hdv)) hvf _ (Ex.refl _) _ fun H3 e3 => ?_
    have e03 := e1.trans e3
    refine ⟨_, rfl, p, C_Shape, dx, _, _, rfl, e03 _ _ hp, T.cl_Shape, T.no_Shape_flags, shF_flags _ _, ft, rfl, ⟨_, Evl.st_of (e03 _ _ hft)⟩, fun Dd hD => ?_⟩
    refine dc_tup (xs := fl.map V.str) (fun i H' => Ex H3 H' ∧ ∃ es, H' Dd = some (.dK es) ∧ Paired (fun (q : Str × List V) (e : Key × V) => e.1 = Sum.inr q.1 ∧ ∃ t, e.2 = .ref t ∧ H' t = some (.tup q.2)) (flE (fl.take i)) es) ⟨Ex.new hD, [], upd_same, .nil⟩ (fun i H' _ pv => Evl.st_of (pv.1 _ _ (e03 _ _ hft))) (fun i x H' hx pv => ?_) fun H4 pv => ?_
    · obtain ⟨e4, es, hes, pes⟩ := pv
      rw [List.getElem?_map] at hx
      cases hy : fl[i]? with
      | none => rw [hy] at hx; cases hx
      | some y =>
      rw [hy] at hx
      cases hx
      refine ⟨rfl, ?_⟩
      refine yes_go ?_
      refine ⟨_, rfl, (by show 2 ≤ sizeLine; decide), fun tp htp => ?_⟩
      have nDt : Dd ≠ tp := fun e => by rw [← e, hes] at htp; cases htp
      have tk : fl.take (i + 1) = fl.take i ++ [y] := by rw [List.take_add_one, hy]; rfl
      have nin : y ∉ fl.take i := fun hm => (List.nodup_append.mp (by rw [← tk]; exact List.Sublist.nodup (List.take_sublist _ _) fln : (fl.take i ++ [y]).Nodup)).2.2 y hm y (List.mem_singleton.mpr rfl) rfl
      have nv := cho_no pes nin
      have les : es.length ≤ 2 := by
        rw [← pair_len pes]; unfold flE; rw [List.length_map, List.length_take]; omega
      refine ⟨es, Sum.inr y, rfl, by rw [upd_ne nDt]; exact hes, Evl.sz_lt (by omega), Ex.mut (e4.trans (Ex.new htp)) hD, es ++ [(Sum.inr y, .ref tp)], by rw [upd_same, putK_new _ nv], ?_⟩
      have et : flE (fl.take (i + 1)) = flE (fl.take i) ++ [(y, [V.bl true, V.bl false])] := by rw [tk]; unfold flE; rw [List.map_append]; rfl
      rw [et]
      have keep : ∀ t xs, H' t = some (.tup xs) → (upd (upd H' tp (.tup [V.bl true, V.bl false])) Dd (.dK (putK es (Sum.inr y) (.ref tp)))) t = some (.tup xs) := fun t xs ht => by
        have nt : t ≠ Dd := fun e => by rw [e, hes] at ht; cases ht
        rw [upd_ne nt]
        exact Ex.new htp _ _ ht
      refine pair_snoc (pair_imp pes fun a b h => ⟨h.1, h.2.choose, h.2.choose_spec.1, keep _ _ h.2.choose_spec.2⟩) ⟨rfl, tp, rfl, ?_⟩
      rw [upd_ne (Ne.symm nDt), upd_same]
    obtain ⟨e4, es, hes, pes⟩ := pv
    rw [List.length_map, List.take_of_length_le (Nat.le_refl _)] at pes
    have e04 := e03.trans e4
    refine ⟨(by show 1 ≤ sizeLine; decide), fun tp htp => ?_⟩
    have e05 := e04.trans (Ex.new (o := .tup [V.str "flags"]) htp)
    refine ⟨⟨vf, .ref tp, Dd, n, _, fgs, flE fl, rfl, rep_ex e05 hrf, ChoAt.ex (Ex.new htp) ⟨es, hes, pes⟩, ⟨by unfold flE; rw [List.length_map]; exact lfg, by unfold flE; rw [List.length_map]; omega, fun q hq => ?_⟩⟩, fun H6 e6 => ?_⟩
    · obtain ⟨x, hx, rfl⟩ := List.mem_map.mp hq
      refine ⟨fun y hy => ?_, ?_⟩
      · rcases List.mem_cons.mp hy with rfl | hy
        · exact .inr ⟨_, rfl⟩
        · exact .inr ⟨_, List.mem_singleton.mp hy⟩
      · obtain ⟨b, hb⟩ := okg x hx
        refine ⟨_, hb, ?_⟩
        cases b <;> simp [dV]
    have e06 := e05.trans e6
    -- check_lists
    refine ⟨_, rfl, ?_⟩
    refine ev_get (Evl.ev_var rfl) Evl.ev_c (.inl (e06 _ _ hdv)) hvl _ (Ex.refl _) _ fun H7 e7 => ?_
    have e07 := e06.trans e7
    refine ⟨_, rfl, p, dx, _, rfl, e07 _ _ hp, shF_no _ _ (by decide +kernel) (by decide +kernel), p, fl, z, S', rfl, hS.ex e07, hz, fun H8 q8 nms e8 nq8 hq8 perm _ => ?_⟩
    have e08 := e07.trans e8
    refine ⟨(by show 1 ≤ sizeLine; decide), fun tp9 htp9 => ?_⟩
    have e9 : Ex H8 (upd H8 tp9 (.tup [V.str "lists"])) := Ex.new htp9
    have e09 := e08.trans e9
    refine ⟨p, q8, vl, .ref tp9, n, _, ls, fl, z, S', none, nms, 1, rfl, hS.ex e09, hz, rep_ex e09 hrl, okl, e9 _ _ hq8, perm, ⟨tp9, _, rfl, upd_same, by show 1 ≤ 1; decide⟩, by omega, fun H10 e10 => ?_⟩
    have e010 := e09.trans e10
    refine Evl.s_when (b := false) (Evl.et_is (Evl.et_test (Evl.ev_op (ev_fn (Evl.ea_cons (Evl.ev_var rfl) Evl.ea_nil) fun H4 e4 Q' q' => ⟨.ref dv, n + 1, S, .dic l, rfl, rep_ex (e010.trans e4) hv, wf, q'⟩) Evl.ev_c Evl.rv_I0)) (decide_eq_false (by omega))) (fun h => nomatch h) fun _ H11 e11 => k H11 (e010.trans e11)
end
end Pk

namespace Pk
open PySem PySem.Spec PyProof.Rows L2 Ssb
open Evl (Ex Ev EvT EvL EvA EvU)
theorem gname_go {i : Nat} {v : V} {σ : L2.St} {H : Hp} {k : L2.St → Hp → Prop} (h : k (σ.set i (some v)) H) : gName i v σ H k := h
/-! ### the stream -/
/-- the state of a law's draws: what is left of a great number, the place, the cells, the seed, the count -/
def StAt (H : Hp) (S c : Addr) : Prop := S ≠ c ∧ ∃ (k : Int × Int × Int × Int) (cs : List Int), H S = some (.lst [.int k.1, .int k.2.1, .ref c, .int k.2.2.1, .int k.2.2.2]) ∧ H c = some (.lst (cs.map V.int)) ∧ 0 ≤ k.2.1 ∧ cs.length ≤ 63
/-- from H to H': the stream moved, all else stands -/
structure Mv (S c : Addr) (H H' : Hp) : Prop where
  a : StAt H S c
  z : StAt H' S c
  fr : ∀ b o, b ≠ S → b ≠ c → H b = some o → H' b = some o
theorem StAt.ex {S c : Addr} {H H' : Hp} (e : Ex H H') (h : StAt H S c) : StAt H' S c := by
  obtain ⟨n, k, cs, h1, h2, h3⟩ := h; exact ⟨n, k, cs, e _ _ h1, e _ _ h2, h3⟩
theorem Mv.ex {S c : Addr} {H H' : Hp} (a : StAt H S c) (e : Ex H H') : Mv S c H H' := ⟨a, a.ex e, fun b o _ _ h => e b o h⟩
theorem Mv.trans {S c : Addr} {H H' H2 : Hp} (m : Mv S c H H') (m2 : Mv S c H' H2) : Mv S c H H2 := ⟨m.a, m2.z, fun b o n1 n2 h => m2.fr b o n1 n2 (m.fr b o n1 n2 h)⟩
theorem Mv.tx {S c : Addr} {H H' H2 : Hp} (m : Mv S c H H') (e : Ex H' H2) : Mv S c H H2 := m.trans (.ex m.z e)
theorem StAt.someS {S c : Addr} {H : Hp} (a : StAt H S c) {b : Addr} (h : H b = none) : b ≠ S ∧ b ≠ c := by
  obtain ⟨n, k, cs, h1, h2, h3⟩ := a
  exact ⟨fun e => (by rw [e, h1] at h; cases h), fun e => (by rw [e, h2] at h; cases h)⟩
theorem Mv.back {S c : Addr} {H H' : Hp} (m : Mv S c H H') {b : Addr} (h : H' b = none) : H b = none := by
  obtain ⟨n1, n2⟩ := m.z.someS h
  cases e : H b with
  | none => rfl
  | some o => rw [m.fr b o n1 n2 e] at h; cases h
/-- an object that H does not know may change -/
theorem Mv.mut {S c : Addr} {H H' : Hp} {p : Addr} {o : HO} (m : Mv S c H H') (h : H p = none) : Mv S c H (upd H' p o) := by
  obtain ⟨n1, n2⟩ := m.a.someS h
  obtain ⟨n, k, cs, h1, h2, h3⟩ := m.z
  refine ⟨m.a, ⟨n, k, cs, by rw [upd_ne (Ne.symm n1)]; exact h1, by rw [upd_ne (Ne.symm n2)]; exact h2, h3⟩, fun b o' b1 b2 hb => ?_⟩
  have : b ≠ p := fun e => by rw [e, h] at hb; cases hb
  rw [upd_ne this]
  exact m.fr b o' b1 b2 hb
theorem Mv.new {S c : Addr} {H : Hp} {p : Addr} {o : HO} (a : StAt H S c) (h : H p = none) : Mv S c H (upd H p o) := .ex a (Ex.new h)
theorem rep_mv {S c : Addr} {H H' : Hp} (m : Mv S c H H') {n : Nat} {P : Addr → Prop} {d : D} {v : V} (n1 : ¬ P S) (n2 : ¬ P c) (h : Rep H n P d v) : Rep H' n P d v := by
  obtain ⟨_, k, cs, h1, h2, _⟩ := m.a
  refine rep_to (fun b o hb hp => m.fr b o (fun e => ?_) (fun e => ?_) hb) h
  · rw [e] at hp hb
    rcases hp with hp | ⟨xs, rfl⟩
    · exact n1 hp
    · rw [h1] at hb; cases hb
  · rw [e] at hp hb
    rcases hp with hp | ⟨xs, rfl⟩
    · exact n2 hp
    · rw [h2] at hb; cases hb
theorem Mv.tup {S c : Addr} {H H' : Hp} (m : Mv S c H H') {t : Addr} {xs : List V} (h : H t = some (.tup xs)) : H' t = some (.tup xs) := by
  obtain ⟨_, k, cs, h1, h2, _⟩ := m.a
  exact m.fr t _ (fun e => by rw [e, h1] at h; cases h) (fun e => by rw [e, h2] at h; cases h) h
theorem ev_int1 {te : TE} {σ : L2.St} {H : Hp} {i : Int} (h : Ev te σ H (.int i)) : Ev (tCB (fun xs H Q => (∃ i, xs = [V.int i] ∧ Q (.int i) H) ∨ ∃ k, xs = [V.bl k] ∧ Q (.int (if k then 1 else 0)) H) (tCons te tNil)) σ H (.int i) := fun H1 e Q q => h H1 e _ fun H2 e2 => .inl ⟨i, rfl, q H2 e2⟩
theorem at_get {α : Type} {xs : List α} {i : Int} (h0 : 0 ≤ i) (h1 : i < (xs.length : Int)) : ∃ v, xs[i.toNat]? = some v ∧ atI xs i = some v := by
  have h2 : i.toNat < xs.length := by omega
  refine ⟨xs[i.toNat], List.getElem?_eq_getElem h2, ?_⟩
  have := atI_nat (List.getElem?_eq_getElem h2)
  rw [show ((i.toNat : Nat) : Int) = i by omega] at this
  exact this
theorem shaped_ints (ns : List Int) : SeqAt.shaped (.list (ns.map PyData.int)) = true := by
  have h : PyData.canLayAll0 (ns.map PyData.int) = true ∧ PyData.depthAll (ns.map PyData.int) ≤ 1 := by
    induction ns with
    | nil => exact ⟨by simp [PyData.canLayAll0], by simp [PyData.depthAll]⟩
    | cons n ns ih => exact ⟨by simp [PyData.canLayAll0, PyData.canLay0, ih.1], by have := ih.2; simp [PyData.depthAll, PyData.depth]; omega⟩
  unfold SeqAt.shaped
  have h2 := h.2
  simp only [PyData.canLay0, PyData.depth, h.1, Bool.true_and]
  exact decide_eq_true (by omega)
theorem dp_ints {K : PySem.W.Frag} {H : Hp} {a : Addr} {ns : List Int} (h : SqL K H a (ns.map V.int)) : Dp K H (.ref a) (.list (ns.map PyData.int)) := by
  refine .lst h ?_
  clear h
  induction ns with
  | nil => exact .nil
  | cons n ns ih => exact .cons (.int n) ih
theorem el_lcN {K : PySem.W.Frag} {σ : L2.St} {H : Hp} {te tl : TE} {vs : List Nat} {j : Nat} {f : Nat → V} {xs : List V} (h : EvL tl σ H xs) (hz : xs.length ≤ 100000) (hw : ∀ x, wipe ((wipe σ vs).set j (some x)) vs = wipe σ vs)
    (he : ∀ (i : Nat) (x : V), xs[i]? = some x → ∀ H2, Ex H H2 → Ev te ((wipe σ vs).set j (some x)) H2 (f i)) : EvL (tLc (iList K tl) (gName j) tYes te vs) σ H ((List.range xs.length).map f) := fun H1 e Q q =>
  h H1 e _ fun a H2 ha e2 hx => ⟨a, rfl, ⟨xs, Evl.sq_of hx⟩, fun Dl hD =>
    el_walk (f := f) walk_list hz (fun H3 e3 => Evl.ex_l e3 (Evl.sq_of hx)) hw (fun i x h3 H3 e3 => he i x h3 H3 ((e.trans e2).trans e3)) (fun p H3 hp e3 hl => q p H3 (Evl.fresh_back e2 hp) (e2.trans e3) hl) Dl hD⟩
theorem q_asgS {te : TE} {g : TG} {tz : TS} {D_ : Ends} {σ : L2.St} {H : Hp} (h : te σ H fun v H1 => g v σ H1 fun σ' H' => tz D_ σ' H') : tSeq (tAsg te g) tz D_ σ H := h
theorem s_args3 {D_ : Ends} {σ : L2.St} {H : Hp} {te : TE} {v1 v2 v3 v4 : V} (h : te σ H fun x H1 => ([v1, v2, x, v3, v4] : List V).length ≤ sizeLine ∧ ∀ p, H1 p = none → D_.rt (.ref p) (upd H1 p (.lst [v1, v2, x, v3, v4]))) : tRet (tLst (tCons (tC v1) (tCons (tC v2) (tCons te (tCons (tC v3) (tCons (tC v4) tNil)))))) D_ σ H := h
section
variable {P : Program} {w : World} {K : PySem.W.Frag} {mg : Str → Option Value} {base : Heap} {C_Shape C_FORMS : Addr}
def spOpen (K : PySem.W.Frag) : Sp := fun vs H Q _ => ∃ (a : Addr) (ns : List Int), vs = [.ref a] ∧ SqL K H a (ns.map V.int) ∧ ns.length ≤ 63 ∧ ∀ H' S c, StAt H' S c → Q (.ref S) H'
theorem ok__law_open (T : Txt K mg C_Shape C_FORMS) (R : Prg K mg C_Shape C_FORMS) : ∃ f fd, Fn P w K mg base "_law_open" 1 ["_law_script"] (spOpen K) f fd := by
  obtain ⟨f, fd, at_, F, kp⟩ := R._law_open
  refine ⟨f, fd, F.ok sc__law_open (fun vs H Q E h => ?_) (fun cdv A outer s H vs Q E hr h => ?_), at_, kp, F.binds (fun _ _ _ _ _ _ us hl => match us, hl with | [_], _ => rfl)⟩
  · obtain ⟨a, ns, rfl, _⟩ := h; rfl
  · obtain ⟨a, ns, rfl, hs, l63, k⟩ := h
    refine ⟨_, (pss_one (ps_ret (pe_lst (pa_cons pe_int (pa_cons pe_int (pa_cons (pe_lc (own := [("_law_cell", 1)]) rfl sc__law_open.nd (show PI _ _ _ (iList K _) from pi_list (pe_slice (r := rSlL K) sl_list (pv 0) po_none (po_some pe_int))) (blkOk_by (own := [("_law_cell", 1)]) (N := ["_law_script", "_law_cell"]) (sc := defScope s__law_open) (by decide +kernel)) (fun _ _ _ _ _ => (pg_name (i := 1) sc__law_open.nd rfl (Or.inl rfl))) (fun _ _ _ _ _ => pts_nil) (fun _ _ _ _ _ => (pe_callTy call_int1 (by rfl) T.int (by decide +kernel) (pa_cons (pv 1) pa_nil)))) (pa_cons pe_int (pa_cons pe_int pa_nil)))))))), ?_⟩
    have cut : EvL (tSl (rSlL K) (tVar 0) tNoPart (tPart (tC (.int 63)))) [some (.ref a), none] H ((ns.take 63).map V.int) := by
      have := Evl.el_sl (K := K) (te := tVar 0) (σ := [some (.ref a), none]) (H := H) (Evl.ev_var rfl) Evl.eo_none (Evl.eo_some (i := 63) Evl.ev_c) hs
      have e : cutV (ns.map V.int) none (some 63) = (ns.take 63).map V.int := by
        unfold cutV
        rw [show ((63 : Int)) = ((63 : Nat) : Int) from rfl, HT.sIx_nat, HT.sIx_none, List.drop_zero, Nat.sub_zero, List.map_take, List.length_map, Nat.min_eq_right (by omega), List.take_of_length_le (by rw [List.length_map]; exact Nat.le_refl _), List.take_of_length_le (by rw [List.length_map]; omega)]
      rw [e] at this
      exact this
    have lc := el_lcN (K := K) (te := tCB (fun xs H Q => (∃ i, xs = [V.int i] ∧ Q (.int i) H) ∨ ∃ k, xs = [V.bl k] ∧ Q (.int (if k then 1 else 0)) H) (tCons (tVar 1) tNil)) (vs := [1]) (j := 1) (f := fun i => .int ((ns.take 63).getD i 0)) cut (by rw [List.length_map, List.length_take]; omega) (fun _ => rfl) fun i x hx H2 e2 => by
      rw [List.getElem?_map] at hx
      obtain ⟨m, hm, rfl⟩ := Option.map_eq_some_iff.mp hx
      have : (ns.take 63).getD i 0 = m := by rw [List.getD_eq_getElem?_getD, hm]; rfl
      rw [this]
      exact ev_int1 (Evl.ev_var rfl)
    rw [map_range (g := V.int) (l := ns.take 63) (by rw [List.length_map]) fun i a ha => by rw [List.getD_eq_getElem?_getD, ha]; rfl] at lc
    refine s_args3 (lc H (Ex.refl _) _ fun c H1 nc e1 hc => ⟨by show 5 ≤ sizeLine; decide, fun S nS => ?_⟩)
    have ne : S ≠ c := fun e => by rw [e, hc] at nS; cases nS
    exact k _ S c ⟨ne, (0, 0, 1, 0), ns.take 63, upd_same, by rw [upd_ne (Ne.symm ne)]; exact hc, Int.le_refl _, by rw [List.length_take]; omega⟩
def spMixed : Sp := fun vs H Q _ => ∃ i : Int, vs = [.int i] ∧ ∀ H' j, Ex H H' → Q (.int j) H'
theorem ok__law_mixed (T : Txt K mg C_Shape C_FORMS) (R : Prg K mg C_Shape C_FORMS) : ∃ f fd, Fn P w K mg base "_law_mixed" 1 ["_law_one"] spMixed f fd := by
  obtain ⟨f, fd, at_, F, kp⟩ := R._law_mixed
  refine ⟨f, fd, F.ok sc__law_mixed (fun vs H Q E h => ?_) (fun cdv A outer s H vs Q E hr h => ?_), at_, kp, F.binds (fun _ _ _ _ _ _ us hl => match us, hl with | [_], _ => rfl)⟩
  · obtain ⟨i, rfl, _⟩ := h; rfl
  · obtain ⟨i, rfl, k⟩ := h
    refine ⟨_, (pss_cons (ps_set (i := 0) sc__law_mixed.nd rfl (Or.inl rfl) (pe_op op_add (pe_op op_mod (pe_callTy call_int1 (by rfl) T.int (by decide +kernel) (pa_cons (pe_op op_add (pe_op op_mul (pv 0) pe_int) pe_int) pa_nil)) pe_int) pe_int))
  (pss_cons (ps_set (i := 1) sc__law_mixed.nd rfl (Or.inl rfl) (pe_op op_mod (pe_callTy call_int1 (by rfl) T.int (by decide +kernel) (pa_cons (pe_op op_mul (pv 0) (pe_op op_add (pe_op op_fdiv (pv 0) pe_int) pe_int)) pa_nil)) pe_int))
  (pss_one (ps_ret (pe_op op_mod (pe_callTy call_int1 (by rfl) T.int (by decide +kernel) (pa_cons (pe_op op_mul (pv 1) (pe_op op_add (pe_op op_fdiv (pv 1) pe_int) pe_int)) pa_nil)) pe_int))))), ?_⟩
    refine Evl.q_asg (Evl.ev_op (Evl.ev_op (ev_int1 (Evl.ev_op (Evl.ev_op (Evl.ev_var rfl) Evl.ev_c (Evl.rv_I (.inr ⟨by decide, by decide⟩))) Evl.ev_c Evl.rv_I0)) Evl.ev_c (Evl.rv_I (by decide))) Evl.ev_c Evl.rv_I0) fun H1 e1 => ?_
    have b0 : 0 ≤ (i * 48271 + 30103) % 2147483629 := Int.emod_nonneg _ (by decide)
    have b1 : (i * 48271 + 30103) % 2147483629 < 2147483629 := Int.emod_lt_of_pos _ (by decide)
    generalize (i * 48271 + 30103) % 2147483629 = y at b0 b1 ⊢
    refine Evl.q_asg (Evl.ev_op (ev_int1 (Evl.ev_op (Evl.ev_var rfl) (Evl.ev_op (Evl.ev_op (Evl.ev_var rfl) Evl.ev_c (Evl.rv_I ⟨by decide, by decide⟩)) Evl.ev_c Evl.rv_I0) (Evl.rv_I (.inl ⟨by omega, by omega⟩)))) Evl.ev_c (Evl.rv_I (by decide))) fun H2 e2 => ?_
    have c0 : 0 ≤ (y + 1) * ((y + 1) / 1009 + 69621) % 2147483647 := Int.emod_nonneg _ (by decide)
    have c1 : (y + 1) * ((y + 1) / 1009 + 69621) % 2147483647 < 2147483647 := Int.emod_lt_of_pos _ (by decide)
    generalize (y + 1) * ((y + 1) / 1009 + 69621) % 2147483647 = z at c0 c1 ⊢
    exact Evl.s_ret (Evl.ev_op (ev_int1 (Evl.ev_op (Evl.ev_var rfl) (Evl.ev_op (Evl.ev_op (Evl.ev_var rfl) Evl.ev_c (Evl.rv_I ⟨by decide, by decide⟩)) Evl.ev_c Evl.rv_I0) (Evl.rv_I (.inl ⟨by omega, by omega⟩)))) Evl.ev_c (Evl.rv_I (by decide))) fun H3 e3 => k H3 _ ((e1.trans e2).trans e3)
theorem Mv.setS {S c : Addr} {H H1 : Hp} (m : Mv S c H H1) {d i x n : Int} (h : 0 ≤ i) : Mv S c H (upd H1 S (.lst [.int d, .int i, .ref c, .int x, .int n])) := by
  obtain ⟨ne, k, cs, h1, h2, _, h3⟩ := m.z
  exact ⟨m.a, ⟨ne, (d, i, x, n), cs, upd_same, by rw [upd_ne (Ne.symm ne)]; exact h2, h, h3⟩, fun b o b1 b2 hb => by rw [upd_ne b1]; exact m.fr b o b1 b2 hb⟩
def spDraw : Sp := fun vs H Q _ => ∃ (S c : Addr) (m : Int), vs = [.ref S, .int m] ∧ StAt H S c ∧ 1 ≤ m ∧ m < 1073741824 * 1073741824 * 1073741824 * 1073741824 ∧ ∀ H' r, Mv S c H H' → 0 ≤ r → r < m → Q (.int r) H'
theorem ok__law_draw (T : Txt K mg C_Shape C_FORMS) (R : Prg K mg C_Shape C_FORMS) : ∃ f fd, Fn P w K mg base "_law_draw" 2 ["_law_state", "_law_many"] spDraw f fd := by
  obtain ⟨_, _, G__law_mixed⟩ := ok__law_mixed (P := P) (w := w) (base := base) T R
  obtain ⟨f, fd, at_, F, kp⟩ := R._law_draw
  refine ⟨f, fd, F.ok sc__law_draw (fun vs H Q E h => ?_) (fun cdv A outer s H vs Q E hr h => ?_), at_, kp, F.binds (fun _ _ _ _ _ _ us hl => match us, hl with | [_, _], _ => rfl)⟩
  · obtain ⟨S, c, m, rfl, _⟩ := h; rfl
  · obtain ⟨S, c, m, rfl, st, m1, m2, k⟩ := h
    have lg : m.natAbs.log2 < 9000 := by
      have : m.natAbs < 2 ^ 120 := by omega
      have h2 : m.natAbs.log2 < 120 := (Nat.log2_lt (by omega)).mpr this
      omega
    refine ⟨_, (pss_cons (ps_if (pt_cmpR op_gt (pe_ix (r := rIxL K) ix_list (pv 0) pe_int (fun _ _ => rfl)) pe_int (nomark _)) (pss_cons (ps_set (i := 2) sc__law_draw.nd rfl (Or.inl rfl) (pe_op op_mod (pe_callTy call_int1 (by rfl) T.int (by decide +kernel) (pa_cons (pe_ix (r := rIxL K) ix_list (pv 0) pe_int (fun _ _ => rfl)) pa_nil)) (pv 1)))
  (pss_cons (ps_asg (pe_op op_fdivW (pe_ix (r := rIxL K) ix_list (pv 0) pe_int (fun _ _ => rfl)) (pv 1)) (pg_sub (pv 0) pe_int set_list))
  (pss_one (ps_ret (pv 2))))) pss_nil)
  (pss_cons (ps_set (i := 3) sc__law_draw.nd rfl (Or.inl rfl) pe_int)
  (Evl.pss_cut (ps_if (pt_cmpR op_lt (pe_ix (r := rIxL K) ix_list (pv 0) pe_int (fun _ _ => rfl)) (pe_callB (r := rLenA K) call_len (by rfl) T.len (by decide +kernel) (pa_cons (pe_ix (r := rIxL K) ix_list (pv 0) pe_int (fun _ _ => rfl)) pa_nil)) (nomark _)) (pss_cons (ps_set (i := 3) sc__law_draw.nd rfl (Or.inl rfl) (pe_ix (r := rIxL K) ix_list (pe_ix (r := rIxL K) ix_list (pv 0) pe_int (fun _ _ => rfl)) (pe_ix (r := rIxL K) ix_list (pv 0) pe_int (fun _ _ => rfl)) (fun _ _ => rfl)))
  (pss_one (ps_asg (pe_op op_add (pe_ix (r := rIxL K) ix_list (pv 0) pe_int (fun _ _ => rfl)) pe_int) (pg_sub (pv 0) pe_int set_list)))) pss_nil)
  (pss_cons (ps_if (PW.pt (pw_or (pt_cmpR op_ge (pv 3) (pe_op op_pow pe_int pe_int) (nomark _)) (pw_or1 (pt_cmpR op_le (pv 3) (pe_un un_neg (pe_op op_pow pe_int pe_int)) (nomark _))))) (pss_cons (ps_asg (pe_op op_fdivW (pe_callB call_abs (by rfl) T.abs (by decide +kernel) (pa_cons (pv 3) pa_nil)) (pv 1)) (pg_sub (pv 0) pe_int set_list))
  (pss_one (ps_ret (pe_op op_mod (pe_callTy call_int1 (by rfl) T.int (by decide +kernel) (pa_cons (pe_callB call_abs (by rfl) T.abs (by decide +kernel) (pa_cons (pv 3) pa_nil)) pa_nil)) (pv 1))))) pss_nil)
  (pss_cons (ps_asg (pe_op op_add (pe_ix (r := rIxL K) ix_list (pv 0) pe_int (fun _ _ => rfl)) pe_int) (pg_sub (pv 0) pe_int set_list))
  (pss_cons (ps_asg (pcl G__law_mixed hr (pa_cons (pe_op op_add (pe_op op_add (pe_ix (r := rIxL K) ix_list (pv 0) pe_int (fun _ _ => rfl)) (pe_op op_mul (pv 3) pe_int)) (pe_op op_mul (pe_ix (r := rIxL K) ix_list (pv 0) pe_int (fun _ _ => rfl)) pe_int)) pa_nil)) (pg_sub (pv 0) pe_int set_list))
  (pss_one (ps_ret (pe_op op_mod (pe_callTy call_int1 (by rfl) T.int (by decide +kernel) (pa_cons (pe_op op_fdiv (pe_ix (r := rIxL K) ix_list (pv 0) pe_int (fun _ _ => rfl)) pe_int) pa_nil)) (pv 1)))))))))), ?_⟩
    obtain ⟨ne, ⟨d0, i0, x0, n0⟩, cs, hS, hc, i00, c63⟩ := id st
    have i00 : 0 ≤ i0 := i00
    have ix : ∀ {H1 : Hp} {o2 o3 : Option V} {ys : List V} {j : Nat} {z : V}, H1 S = some (.lst ys) → ys[j]? = some z → Ev (tOp (rIxL K) (tVar 0) (tC (.int (j : Int)))) [some (.ref S), some (.int m), o2, o3] H1 z := fun h hz => Evl.ev_op (Evl.ev_var rfl) Evl.ev_c (Evl.rv_ixL (Evl.sq_of h) (atI_nat hz))
    refine Evl.q_when (b := decide (d0 > 0)) (Evl.et_test (Evl.ev_op (ix (j := 0) hS rfl) Evl.ev_c Evl.rv_I0)) (fun _ H1 e1 => ?_) (fun _ H1 e1 => ?_)
    · refine Evl.q_asg (Evl.ev_op (ev_int1 (ix (j := 0) (e1 _ _ hS) rfl)) (Evl.ev_var rfl) (Evl.rv_I (by omega))) fun H2 e2 => ?_
      have e02 := e1.trans e2
      refine Evl.q_setL (l := S) (j := 0) (v := .int (d0 / m)) (e02 _ _ hS) (Evl.ev_op (ix (j := 0) (e02 _ _ hS) rfl) (Evl.ev_var rfl) (Evl.rv_I ⟨by omega, lg⟩)) (Evl.ev_var rfl) Evl.ev_c (by show 0 < 5; decide) fun H3 e3 => ?_
      have mv : Mv S c H (upd H3 S (.lst [.int (d0 / m), .int i0, .ref c, .int x0, .int n0])) := (Mv.ex st (e02.trans e3)).setS i00
      exact Evl.s_ret (Evl.ev_var rfl) fun H4 e4 => k H4 _ (mv.tx e4) (Int.emod_nonneg _ (by omega)) (Int.emod_lt_of_pos _ (by omega))
    · refine Evl.q_asg Evl.ev_c fun H2 e2 => ?_
      have e02 := e1.trans e2
      have hS2 := e02 _ _ hS
      have hc2 := e02 _ _ hc
      refine Evl.q_cut (M := fun σ' H' => ∃ cell : Int, σ' = [some (.ref S), some (.int m), none, some (.int cell)] ∧ Mv S c H H') ?_ ?_
      · refine Evl.s_if (Evl.et_test (Evl.ev_op (ix (j := 1) hS2 rfl) (ev_lenL (ix (j := 2) hS2 rfl) (.inl (Evl.sq_of hc2))) Evl.rv_I0)) (fun hb H3 e3 => ?_) (fun _ H3 e3 => ⟨0, rfl, .ex st (e02.trans e3)⟩)
        have hb : i0 < (((cs.map V.int).length : Nat) : Int) := of_decide_eq_true hb
        obtain ⟨v, hv, hat⟩ := at_get i00 hb
        obtain ⟨x, rfl⟩ : ∃ x, v = V.int x := by
          rw [List.getElem?_map] at hv
          cases hy : cs[i0.toNat]? with
          | none => rw [hy] at hv; cases hv
          | some y => rw [hy] at hv; exact ⟨y, (Option.some.inj hv).symm⟩
        have e03 := e02.trans e3
        refine Evl.q_asg (Evl.ev_op (ix (j := 2) (e03 _ _ hS) rfl) (ix (j := 1) (e03 _ _ hS) rfl) (Evl.rv_ixL (Evl.sq_of (e03 _ _ hc)) hat)) fun H4 e4 => ?_
        have e04 := e03.trans e4
        refine Evl.s_setL (l := S) (j := 1) (v := .int (i0 + 1)) (e04 _ _ hS) (Evl.ev_op (ix (j := 1) (e04 _ _ hS) rfl) Evl.ev_c Evl.rv_I0) (Evl.ev_var rfl) Evl.ev_c (by show 1 < 5; decide) fun H5 e5 => ⟨x, rfl, (Mv.ex st (e04.trans e5)).setS (i := i0 + 1) (by omega)⟩
      · rintro σ' H3 ⟨cell, rfl, mv⟩
        obtain ⟨_, ⟨d, i, x, n⟩, cs', hS3, hc3, i1, _⟩ := id mv.z
        have i1 : 0 ≤ i := i1
        have p18 : ∀ {σ : L2.St} {H1 : Hp}, Ev (tOp (rI CPow fun i j => .int (i ^ j.toNat)) (tC (.int 10)) (tC (.int 18))) σ H1 (.int (10 ^ (18 : Int).toNat)) := Evl.ev_op Evl.ev_c Evl.ev_c (Evl.rv_I ⟨by decide, by decide, by decide⟩)
        have ab : ∀ {H1 : Hp}, Ev (tCB (fun xs H Q => ∃ i, xs = [V.int i] ∧ Q (.int (if i < 0 then -i else i)) H) (tCons (tVar 3) tNil)) [some (.ref S), some (.int m), none, some (.int cell)] H1 (.int (if cell < 0 then -cell else cell)) := fun H2 e2 Q q => ⟨_, rfl, cell, rfl, q H2 (Ex.refl _)⟩
        refine Evl.q_when (Evl.et_or (Evl.et_test (Evl.ev_op (Evl.ev_var rfl) p18 Evl.rv_I0)) fun _ => Evl.et_test (Evl.ev_op (Evl.ev_var rfl) (Evl.ev_un p18 Evl.ru_neg) Evl.rv_I0)) (fun _ H4 e4 => ?_) (fun _ H4 e4 => ?_)
        · refine Evl.q_setL (l := S) (j := 0) (v := .int ((if cell < 0 then -cell else cell) / m)) (e4 _ _ hS3) (Evl.ev_op ab (Evl.ev_var rfl) (Evl.rv_I ⟨by omega, lg⟩)) (Evl.ev_var rfl) Evl.ev_c (by show 0 < 5; decide) fun H5 e5 => ?_
          have mv5 : Mv S c H (upd H5 S (.lst [.int ((if cell < 0 then -cell else cell) / m), .int i, .ref c, .int x, .int n])) := (mv.tx (e4.trans e5)).setS i1
          exact Evl.s_ret (Evl.ev_op (ev_int1 ab) (Evl.ev_var rfl) (Evl.rv_I (by omega))) fun H6 e6 => k H6 _ (mv5.tx e6) (Int.emod_nonneg _ (by omega)) (Int.emod_lt_of_pos _ (by omega))
        · refine Evl.q_setL (l := S) (j := 4) (v := .int (n + 1)) (e4 _ _ hS3) (Evl.ev_op (ix (j := 4) (e4 _ _ hS3) rfl) Evl.ev_c Evl.rv_I0) (Evl.ev_var rfl) Evl.ev_c (by show 4 < 5; decide) fun H5 e5 => ?_
          have mv5 : Mv S c H (upd H5 S (.lst [.int d, .int i, .ref c, .int x, .int (n + 1)])) := (mv.tx (e4.trans e5)).setS i1
          have hS5 : (upd H5 S (.lst [.int d, .int i, .ref c, .int x, .int (n + 1)])) S = some (.lst [.int d, .int i, .ref c, .int x, .int (n + 1)]) := upd_same
          show tSeq _ _ _ _ (upd H5 S (.lst [.int d, .int i, .ref c, .int x, .int (n + 1)]))
          generalize (upd H5 S (.lst [.int d, .int i, .ref c, .int x, .int (n + 1)])) = H6 at mv5 hS5 ⊢
          refine q_asgS ((Evl.ev_op (Evl.ev_op (ix (j := 3) hS5 rfl) (Evl.ev_op (Evl.ev_var rfl) Evl.ev_c (Evl.rv_I (.inr ⟨by decide, by decide⟩))) Evl.rv_I0) (Evl.ev_op (ix (j := 4) hS5 rfl) Evl.ev_c (Evl.rv_I (.inr ⟨by decide, by decide⟩))) Evl.rv_I0) H6 (Ex.refl _) _ fun H7 e7 => ⟨_, rfl, fun H8 j e8 => ?_⟩)
          have hS8 := (e7.trans e8) _ _ hS5
          have mv8 := mv5.tx (e7.trans e8)
          refine ⟨_, rfl, S, _, 3, 3, rfl, rfl, hS8, Evl.ixN_nat (by show 3 < 5; decide), ?_⟩
          have mv9 : Mv S c H (upd H8 S (.lst [.int d, .int i, .ref c, .int j, .int (n + 1)])) := mv8.setS i1
          have hS9 : (upd H8 S (.lst [.int d, .int i, .ref c, .int j, .int (n + 1)])) S = some (.lst [.int d, .int i, .ref c, .int j, .int (n + 1)]) := upd_same
          show tRet _ _ _ (upd H8 S (.lst [.int d, .int i, .ref c, .int j, .int (n + 1)]))
          generalize (upd H8 S (.lst [.int d, .int i, .ref c, .int j, .int (n + 1)])) = H9 at mv9 hS9 ⊢
          exact Evl.s_ret (Evl.ev_op (ev_int1 (Evl.ev_op (ix (j := 3) hS9 rfl) Evl.ev_c (Evl.rv_I ⟨by decide, by decide⟩))) (Evl.ev_var rfl) (Evl.rv_I (by omega))) fun H10 e10 => k H10 _ (mv9.tx e10) (Int.emod_nonneg _ (by omega)) (Int.emod_lt_of_pos _ (by omega))
end
end Pk

namespace Pk
open PySem PySem.Spec PyProof.Rows L2 Ssb
open Evl (Ex Ev EvT EvL EvA EvU)
theorem take_snoc {α : Type} {l : List α} {i : Nat} {x : α} (h : l[i]? = some x) : l.take (i + 1) = l.take i ++ [x] := by rw [List.take_add_one, h]; rfl
theorem not_take {α : Type} {l : List α} {i : Nat} {x : α} (nd : l.Nodup) (h : l[i]? = some x) : x ∉ l.take i := fun hm =>
  (List.nodup_append.mp (by rw [← take_snoc h]; exact List.Sublist.nodup (List.take_sublist _ _) nd : (l.take i ++ [x]).Nodup)).2.2 x hm x (List.mem_singleton.mpr rfl) rfl
theorem rep_upd {H : Hp} {n : Nat} {S : Addr → Prop} {d : D} {v : V} {a : Addr} {o u : HO} (ha : H a = some o) (no : ∀ xs, o ≠ .tup xs) (hS : ∀ b, S b → b ≠ a) (h : Rep H n S d v) : Rep (upd H a u) n S d v :=
  rep_to (fun b o' hb z => by
    have ne : b ≠ a := by
      rcases z with z | ⟨xs, rfl⟩
      · exact hS b z
      · intro e; rw [e, ha] at hb; exact no xs (Option.some.inj hb)
    rw [upd_ne ne]; exact hb) h
theorem vV_no : ∀ {es : List (Key × V)} {k : Key}, k ∉ es.map (·.1) → valV es k = none
  | [], _, _ => rfl
  | e :: es, k, h => by
    rw [vV_cons, if_neg (fun z => h (by rw [← z]; exact List.mem_cons_self))]
    exact vV_no fun z => h (List.mem_cons_of_mem _ z)
theorem inr_not {ks : List Str} {k : Str} (h : k ∉ ks) : (Sum.inr k : Key) ∉ ks.map Sum.inr := fun hm => by
  obtain ⟨x, hx, e⟩ := List.mem_map.mp hm
  exact h (by rw [← Sum.inr.inj e]; exact hx)
theorem pair_keys {α : Type} {F : Str × α → Key × V → Prop} {l : List (Str × α)} {es : List (Key × V)} (h : Paired (fun p e => e.1 = Sum.inr p.1 ∧ F p e) l es) : es.map (·.1) = (l.map (·.1)).map Sum.inr := by
  induction h with
  | nil => rfl
  | cons h t ih => rw [List.map_cons, List.map_cons, List.map_cons, ih, h.1]
theorem inr_nd {ks : List Str} (h : ks.Nodup) : (ks.map (Sum.inr : Str → Key)).Nodup := List.Pairwise.map _ (fun a b h z => h (Sum.inr.inj z)) h
def dT : D → String
  | .non => "NoneType" | .bl _ => "bool" | .int _ => "int" | .str _ => "str" | .lst _ => "list" | .tup _ => "tuple" | .dic _ => "dict"
theorem rep_ty {K : PySem.W.Frag} {H : Hp} {n : Nat} {S : Addr → Prop} {d : D} {v : V} (h : Rep H (n + 1) S d v) : TyOf K H v (.type (dT d)) := by
  cases d with
  | non => have e : v = .non := h; subst e; exact .non
  | bl b => have e : v = .bl b := h; subst e; exact .bl b
  | int i => have e : v = .int i := h; subst e; exact .int i
  | str s => have e : v = .str s := h; subst e; exact .str s
  | lst l => obtain ⟨a, xs, rfl, _, ha, _⟩ := h; exact .lst ha
  | tup l => obtain ⟨a, xs, rfl, ha, _⟩ := h; exact .tup ha
  | dic l => obtain ⟨a, es, rfl, _, ha, _⟩ := h; exact .dK ha
theorem ev_kind {K : PySem.W.Frag} {σ : L2.St} {H : Hp} {te : TE} {n : Nat} {S : Addr → Prop} {d : D} {v : V} {T : String} (b : Bool) (h : Ev te σ H v) (hr : Rep H (n + 1) S d v) (hk : kitB (dT d) T = some b) : Ev (tCB (rIsi K) (tCons te (tCons (tC (.ty T)) tNil))) σ H (.bl b) :=
  ev_isi h (fun H1 e1 => .base (rep_ty (rep_ex e1 hr))) (kit_ty hk)
/-- names of a dict are different, all the way down -/
def kn : Nat → D → Prop
  | n + 1, .lst l => ∀ x ∈ l, kn n x
  | n + 1, .tup l => ∀ x ∈ l, kn n x
  | n + 1, .dic l => (l.map (·.1)).Nodup ∧ ∀ p ∈ l, kn n p.2
  | _, _ => True
/-- and no tuples -/
def pl : Nat → D → Prop
  | n + 1, .lst l => ∀ x ∈ l, pl n x
  | _ + 1, .tup _ => False
  | _ + 1, .non => False
  | n + 1, .dic l => (l.map (·.1)).Nodup ∧ ∀ p ∈ l, pl n p.2
  | _, _ => True
theorem pl_kn : ∀ {n : Nat} {d : D}, pl n d → kn n d
  | 0, d, _ => by cases d <;> trivial
  | n + 1, .non, h => h.elim
  | n + 1, .bl _, _ => trivial
  | n + 1, .int _, _ => trivial
  | n + 1, .str _, _ => trivial
  | n + 1, .lst l, h => fun x hx => pl_kn (h x hx)
  | n + 1, .tup l, h => h.elim
  | n + 1, .dic l, h => ⟨h.1, fun p hp => pl_kn (h.2 p hp)⟩
theorem kit_list : ∀ t ∈ ["NoneType", "bool", "int", "str", "tuple", "dict"], kitB t "list" = some false := by decide +kernel
theorem kit_tuple : ∀ t ∈ ["NoneType", "bool", "int", "str", "list", "dict"], kitB t "tuple" = some false := by decide +kernel
theorem kit_dict : ∀ t ∈ ["NoneType", "bool", "int", "str", "list", "tuple"], kitB t "dict" = some false := by decide +kernel
section
variable {P : Program} {w : World} {K : PySem.W.Frag} {mg : Str → Option Value} {base : Heap} {C_Shape C_FORMS : Addr}
def spCopy (n : Nat) : Sp := fun vs H Q _ => ∃ (v : V) (P : Addr → Prop) (d : D), vs = [v] ∧ Rep H n P d v ∧ kn n d ∧ ∀ H' v', Ex H H' → Rep H' n (fun b => H b = none) d v' → Q v' H'
theorem ok__law_copy (T : Txt K mg C_Shape C_FORMS) (R : Prg K mg C_Shape C_FORMS) : ∀ n, ∃ f fd, Fn P w K mg base "_law_copy" (n + 1) ["_law_value"] (spCopy n) f fd
  | 0 => by
    obtain ⟨f, fd, at_, F, kp⟩ := R._law_copy
    refine ⟨f, fd, F.ok sc__law_copy (fun vs H Q E h => ?_) (fun cdv A outer s H vs Q E hr h => ?_), at_, kp, F.binds (fun _ _ _ _ _ _ us hl => match us, hl with | [_], _ => rfl)⟩
    · obtain ⟨v, P, d, rfl, _⟩ := h; rfl
    · obtain ⟨v, P, d, rfl, h, _⟩ := h; exact h.elim
  | n + 1 => by
    obtain ⟨_, _, G__law_copy⟩ := ok__law_copy T R n
    obtain ⟨f, fd, at_, F, kp⟩ := R._law_copy
    refine ⟨f, fd, F.ok sc__law_copy (fun vs H Q E h => ?_) (fun cdv A outer s H vs Q E hr h => ?_), at_, kp, F.binds (fun _ _ _ _ _ _ us hl => match us, hl with | [_], _ => rfl)⟩
    · obtain ⟨v, P, d, rfl, _⟩ := h; rfl
    · obtain ⟨v, PP, d, rfl, hv, hkn, k⟩ := h
      refine ⟨_, (pss_cons (ps_if (pt_val (pe_callB (r := rIsi K) call_isi (by rfl) T.isinstance (by decide +kernel) (pa_cons (pv 0) (pa_cons (pe_bltn (v := .ty "list") (by rfl) T.list boot_list rfl) pa_nil)))) (pss_one (ps_ret (pe_lc (own := [("_law_part", 3)]) rfl sc__law_copy.nd (show PI _ _ _ (iList K _) from pi_list (pv 0)) (blkOk_by (own := [("_law_part", 3)]) (N := ["_law_value", "_law_result", "_law_name", "_law_part"]) (sc := defScope s__law_copy) (by decide +kernel)) (fun _ _ _ _ _ => (pg_name (i := 3) sc__law_copy.nd rfl (Or.inl rfl))) (fun _ _ _ _ _ => pts_nil) (fun _ _ _ _ _ => (pcl G__law_copy hr (pa_cons (pv 3) pa_nil)))))) pss_nil)
  (pss_cons (ps_if (pt_val (pe_callB (r := rIsi K) call_isi (by rfl) T.isinstance (by decide +kernel) (pa_cons (pv 0) (pa_cons (pe_bltn (v := .ty "tuple") (by rfl) T.tuple boot_tuple rfl) pa_nil)))) (pss_one (ps_ret (pe_callTy (r := rTupA K) call_tuple_of (by rfl) T.tuple (by decide +kernel) (pa_cons (pe_lc (own := [("_law_part", 3)]) rfl sc__law_copy.nd (show PI _ _ _ (iTup K _) from pi_tup (pv 0)) (blkOk_by (own := [("_law_part", 3)]) (N := ["_law_value", "_law_result", "_law_name", "_law_part"]) (sc := defScope s__law_copy) (by decide +kernel)) (fun _ _ _ _ _ => (pg_name (i := 3) sc__law_copy.nd rfl (Or.inl rfl))) (fun _ _ _ _ _ => pts_nil) (fun _ _ _ _ _ => (pcl G__law_copy hr (pa_cons (pv 3) pa_nil)))) pa_nil)))) pss_nil)
  (pss_cons (ps_if (pt_val (pe_callB (r := rIsi K) call_isi (by rfl) T.isinstance (by decide +kernel) (pa_cons (pv 0) (pa_cons (pe_bltn (v := .ty "dict") (by rfl) T.dict boot_dict rfl) pa_nil)))) (pss_cons (ps_set (i := 1) sc__law_copy.nd rfl (Or.inl rfl) pe_dnewK)
  (pss_cons (ps_lock (ps_for PassesOwn.never rfl (pi_keys (pv 0)) (pg_name (i := 2) sc__law_copy.nd rfl (Or.inl rfl))
    (pss_one (ps_dput (hu_of hr) (pv 1) (pv 2) (pcl G__law_copy hr (pa_cons (pe_dget (hu_of hr) (pv 0) (pv 2) (fun _ _ => rfl)) pa_nil)) rfl))))
  (pss_one (ps_ret (pv 1))))) pss_nil)
  (pss_one (ps_ret (pv 0)))))), ?_⟩
      -- a part of a list or a tuple
      have kidL : ∀ {l : List D} {xs : List V} {H1 : Hp} {Q2 : VK} {J : It}, Walk J xs.length (fun H' => Ex H1 H') (YAt xs) → xs.length ≤ 100000 → Paired (fun d x => Rep H1 n PP d x) l xs → (∀ x ∈ l, kn n x) → (∀ H' Dl ys, H1 Dl = none → Ex H1 H' → H' Dl = some (.lst ys) → Paired (fun d x => Rep H' n (fun b => H1 b = none ∧ b ≠ Dl) d x) l ys → Q2 (.ref Dl) H') →
          ∀ Dl, H1 Dl = none → ∃ W : Nat → Nat → Hp → Prop, (∃ m, W 0 m (upd H1 Dl (.lst []))) ∧ ∀ i m H, W i m H → (J.stop i H ∧ Q2 (.ref Dl) H) ∨ (J.go i H ∧ ∃ Nx : Hp → Prop, (∀ H', Nx H' → ∃ m', m' < m ∧ W (i + 1) m' H') ∧ ∀ x H', J.yld i H x H' → gName 3 x (wipe [some v, none, none, none] [3]) H' fun σ2 H2 => wipe σ2 [3] = wipe [some v, none, none, none] [3] ∧ tYes σ2 H2 fun b H3 =>
            if b = true then tCall (spCopy n) [] E0 (tCons (tVar 3) tNil) σ2 H3 fun y H4 => ∃ acc, H4 Dl = some (.lst acc) ∧ acc.length < sizeLine ∧ Nx (upd H4 Dl (.lst (acc ++ [y]))) else Nx H3) := by
        intro l xs H1 Q2 J wk l5 pr hk q Dl hD
        refine lc_it wk (fun i H' => Ex H1 H' ∧ ∃ ys, H' Dl = some (.lst ys) ∧ Paired (fun d x => Rep H' n (fun b => H1 b = none ∧ b ≠ Dl) d x) (l.take i) ys) ⟨Ex.new hD, [], upd_same, .nil⟩ (fun i H' _ p => p.1) (fun i x H0 H' hi pv y => ?_) fun H' pv => ?_
        · obtain ⟨e, ys, hys, pys⟩ := pv
          obtain ⟨rfl, hx⟩ := y
          obtain ⟨dx, hdx, hrx⟩ := pair_back pr hx
          refine ⟨rfl, ?_⟩
          refine yes_go ?_
          refine ⟨_, rfl, x, PP, dx, rfl, rep_ex e hrx, hk _ (List.mem_of_getElem? hdx), fun H3 v3 e3 hr3 => ⟨ys, e3 _ _ hys, ?_, Ex.mut (e.trans e3) hD, ys ++ [v3], upd_same, ?_⟩⟩
          · rw [← pair_len pys, List.length_take]; exact Evl.sz_lt (by omega)
          · rw [take_snoc hdx]
            refine pair_snoc (pair_imp pys fun a b h => rep_upd (e3 _ _ hys) (fun _ z => nomatch z) (fun b z => z.2) (rep_ex e3 h)) (rep_upd (e3 _ _ hys) (fun _ z => nomatch z) (fun b z => z.2) (rep_S (fun b hb => ⟨Evl.fresh_back e hb, fun z => by rw [z, hys] at hb; cases hb⟩) hr3))
        · obtain ⟨e, ys, hys, pys⟩ := pv
          rw [← pair_len pr, List.take_of_length_le (Nat.le_refl _)] at pys
          exact q H' Dl ys hD e hys pys
      have leaf : ∀ {H1 : Hp}, Ex H H1 → (∀ l, d ≠ .lst l) → (∀ l, d ≠ .tup l) → (∀ l, d ≠ .dic l) → Q v H1 := fun {H1} e1 a b c => by
        refine k H1 v e1 ?_
        cases d with
        | lst l => exact absurd rfl (a l)
        | tup l => exact absurd rfl (b l)
        | dic l => exact absurd rfl (c l)
        | non => exact hv
        | bl b => exact hv
        | int i => exact hv
        | str s => exact hv
      have skip1 : (∀ l, d ≠ .lst l) → kitB (dT d) "list" = some false := fun a => by
        refine kit_list _ ?_
        cases d with
        | lst l => exact absurd rfl (a l)
        | _ => simp [dT]
      have skip2 : (∀ l, d ≠ .tup l) → kitB (dT d) "tuple" = some false := fun a => by
        refine kit_tuple _ ?_
        cases d with
        | tup l => exact absurd rfl (a l)
        | _ => simp [dT]
      have skip3 : (∀ l, d ≠ .dic l) → kitB (dT d) "dict" = some false := fun a => by
        refine kit_dict _ ?_
        cases d with
        | dic l => exact absurd rfl (a l)
        | _ => simp [dT]
      by_cases c1 : ∃ l, d = .lst l
      · obtain ⟨l, rfl⟩ := c1
        obtain ⟨a, xs, rfl, _, ha, l5, pr⟩ := id hv
        refine Evl.q_when (b := true) (Evl.et_B (ev_kind (d := .lst l) true (Evl.ev_var rfl) hv (show kitB "list" "list" = some true by decide +kernel))) (fun _ H1 e1 => ?_) (fun h => nomatch h)
        have hv1 := pair_imp pr fun a b h => rep_ex e1 h
        refine ⟨_, rfl, a, rfl, ⟨_, Evl.sq_of (e1 _ _ ha)⟩, kidL (walk_list.mono (fun H' e => Evl.sq_of (e _ _ (e1 _ _ ha))) fun i H v H' _ _ y => y) (by rw [← pair_len pr]; exact l5) hv1 hkn fun H' Dl ys hD e hys pys => ?_⟩
        exact k H' _ (e1.trans e) ⟨Dl, ys, rfl, Evl.fresh_back e1 hD, hys, l5, pair_imp pys fun a b h => rep_S (fun b hb => Evl.fresh_back e1 hb.1) h⟩
      have c1 : ∀ l, d ≠ .lst l := fun l e => c1 ⟨l, e⟩
      refine Evl.q_when (b := false) (Evl.et_B (ev_kind false (Evl.ev_var rfl) hv (skip1 c1))) (fun h => nomatch h) fun _ H1 e1 => ?_
      have hv1 := rep_ex e1 hv
      by_cases c2 : ∃ l, d = .tup l
      · obtain ⟨l, rfl⟩ := c2
        obtain ⟨a, xs, rfl, ha, l5, pr⟩ := id hv1
        refine Evl.q_when (b := true) (Evl.et_B (ev_kind (d := .tup l) true (Evl.ev_var rfl) hv1 (show kitB "tuple" "tuple" = some true by decide +kernel))) (fun _ H2 e2 => ?_) (fun h => nomatch h)
        have hv2 := pair_imp pr fun a b h => rep_ex e2 h
        have e12 := e1.trans e2
        refine ⟨_, rfl, a, rfl, ⟨_, Evl.st_of (e2 _ _ ha)⟩, kidL (Q2 := fun x H' => rTupA K [x] H' Q) (walk_tup.mono (fun H' e => Evl.st_of (e _ _ (e2 _ _ ha))) fun i H v H' _ _ y => y) (by rw [← pair_len pr]; exact l5) hv2 hkn fun H' Dl ys hD e hys pys => ?_⟩
        refine ⟨Dl, ys, rfl, .inl ⟨Evl.sq_of hys, fun t ht => ?_⟩⟩
        exact k _ _ (e12.trans (e.trans (Ex.new ht))) ⟨t, ys, rfl, upd_same, l5, pair_imp pys fun a b h => rep_ex (Ex.new ht) (rep_S (fun b hb => Evl.fresh_back e12 hb.1) h)⟩
      have c2 : ∀ l, d ≠ .tup l := fun l e => c2 ⟨l, e⟩
      refine Evl.q_when (b := false) (Evl.et_B (ev_kind false (Evl.ev_var rfl) hv1 (skip2 c2))) (fun h => nomatch h) fun _ H2 e2 => ?_
      have hv2 := rep_ex e2 hv1
      have e12 := e1.trans e2
      by_cases c3 : ∃ l, d = .dic l
      · obtain ⟨l, rfl⟩ := c3
        obtain ⟨a, es, rfl, _, ha, l5, pr⟩ := id hv2
        have ekeys := pair_keys pr
        have le := pair_len pr
        refine Evl.q_when (b := true) (Evl.et_B (ev_kind (d := .dic l) true (Evl.ev_var rfl) hv2 (show kitB "dict" "dict" = some true by decide +kernel))) (fun _ H3 e3 => ?_) (fun h => nomatch h)
        have ha3 := e3 _ _ ha
        have e13 := e12.trans e3
        intro a1 h1
        have n1a : a1 ≠ a := fun e => by rw [e, ha3] at h1; cases h1
        refine for_lock (J := fun od => Itk a od es) (xs := fun _ => none) (d := a) (es := es) (by rw [upd_ne n1a.symm]; exact ha3) (fun od R r => ⟨_, rfl, a, od, rfl, .inl ⟨es, upd_same, r⟩⟩) (fun od => walk_keys) (fun od j σ' H' => ∃ (es' : List (Key × V)) (o2 : Option V), σ' = [some (.ref a), some (.ref a1), o2, none] ∧ Ex (upd H3 a (.frz od (.dK es))) H' ∧ H' a1 = some (.dK es') ∧ Paired (fun (x : Str × D) (e : Key × V) => e.1 = Sum.inr x.1 ∧ Rep H' n (fun b => H3 b = none ∧ b ≠ a1) x.2 e.2) (l.take j) es')
          (fun od => ⟨[], _, rfl, fun b o hb => ?_, by rw [upd_ne n1a]; exact upd_same, .nil⟩) (fun od j σ' H' _ ⟨_, _, _, e, _⟩ => e _ _ upd_same) (fun od j x σ' H0 H' hlt pv y => ?_) fun od σ' H' pv => ?_
        · by_cases e : b = a
          · rw [e] at hb ⊢; rw [upd_same] at hb ⊢; exact hb
          · rw [upd_ne e] at hb ⊢
            have : b ≠ a1 := fun z => by rw [z, h1] at hb; cases hb
            rw [upd_ne this]; exact hb
        · obtain ⟨es', o2, rfl, e, h1', pes⟩ := pv
          obtain ⟨rfl, kk, vj, hkv, rfl⟩ := y
          obtain ⟨⟨nm, dj⟩, hdj, hk, hrj⟩ := pair_back pr hkv
          have hk : kk = Sum.inr nm := hk
          subst hk
          have hvj : valV es (Sum.inr nm : Key) = some vj := valV_at (by rw [ekeys]; exact inr_nd hkn.1) hkv
          have hrj' := rep_in ha3 e (rep_ex e3 hrj)
          refine ⟨_, rfl, _, rfl, a, vj, rfl, .inl ⟨es, Sum.inr nm, .inr ⟨od, e _ _ upd_same⟩, rfl, hvj.symm⟩, vj, _, dj, rfl, hrj', hkn.2 _ (List.mem_of_getElem? hdj), fun H4 v4 e4 hr4 => ?_⟩
          have nv : valV es' (Sum.inr nm : Key) = none := vV_no (by rw [pair_keys pes, List.map_take]; exact inr_not (not_take hkn.1 (by rw [List.getElem?_map, hdj]; rfl)))
          refine ⟨_, rfl, _, rfl, a1, _, rfl, .inl ⟨es', Sum.inr nm, e4 _ _ h1', rfl, ?_, rfl⟩, es' ++ [(Sum.inr nm, v4)], _, rfl, Ex.mut (e.trans e4) (by rw [upd_ne n1a]; exact h1), by rw [upd_same, putK_new _ nv], ?_⟩
          · rw [← pair_len pes, List.length_take]; exact Evl.sz_lt (by omega)
          · rw [take_snoc hdj]
            have back : ∀ b, H' b = none → H3 b = none := fun b hb => by
              have := Evl.fresh_back e hb
              by_cases z : b = a
              · rw [z, upd_same] at this; cases this
              · rw [upd_ne z] at this; exact this
            exact pair_snoc (pair_imp pes fun a b h => ⟨h.1, rep_upd (e4 _ _ h1') (fun _ z => nomatch z) (fun b z => z.2) (rep_ex e4 h.2)⟩) ⟨rfl, rep_upd (e4 _ _ h1') (fun _ z => nomatch z) (fun b z => z.2) (rep_S (fun b hb => ⟨back b hb, fun z => by rw [z, h1'] at hb; cases hb⟩) hr4)⟩
        · obtain ⟨es', o2, rfl, e, h1', pes⟩ := pv
          rw [← le, List.take_of_length_le (Nat.le_refl _)] at pes
          have eu : Ex H3 (upd H' a (.dK es)) := unlock ha3 e
          refine Evl.s_ret (Evl.ev_var rfl) fun H7 e7 => k H7 _ (e13.trans (eu.trans e7)) (rep_ex e7 ⟨a1, es', rfl, Evl.fresh_back e13 h1, by rw [upd_ne n1a]; exact h1', l5, pair_imp pes fun x en h => ⟨h.1, ?_⟩⟩)
          refine rep_S (fun b hb => ⟨Evl.fresh_back e13 hb.1, hb.2⟩) (rep_upd (e _ _ upd_same) (fun _ z => nomatch z) (fun b z ez => ?_) h.2)
          rw [ez] at z
          rw [ha3] at z
          exact nomatch z.1
      have c3 : ∀ l, d ≠ .dic l := fun l e => c3 ⟨l, e⟩
      refine Evl.q_when (b := false) (Evl.et_B (ev_kind false (Evl.ev_var rfl) hv2 (skip3 c3))) (fun h => nomatch h) fun _ H3 e3 => Evl.s_ret (Evl.ev_var rfl) fun H4 e4 => leaf (e12.trans (e3.trans e4)) c1 c2 c3
end
section
variable {J : It} {n : Nat} {G : Hp → Prop} {Y : Nat → Hp → V → Hp → Prop}
/-- a dict by a comprehension: Pv by the turn and the heap (the new dict at Dl within) -/
theorem dc_it (w : Walk J n G Y) {g : TG} {tt : TT} {tk tv : TE} {vs : List Nat} {σ : L2.St} {H1 : Hp} {Dl : Addr} {Qd : Hp → Prop} (Pv : Nat → Hp → Prop) (h0 : Pv 0 (upd H1 Dl (.dK []))) (hG : ∀ i H, i ≤ n → Pv i H → G H)
    (hs : ∀ i x H H', i < n → Pv i H → Y i H x H' → g x (wipe σ vs) H' fun σ2 H2 => wipe σ2 vs = wipe σ vs ∧ tt σ2 H2 fun b H3 =>
      if b = true then tk σ2 H3 fun y H4 => tv σ2 H4 fun z H5 => ∃ kvs k, y = kV k ∧ H5 Dl = some (.dK kvs) ∧ kvs.length < sizeLine ∧ Pv (i + 1) (upd H5 Dl (.dK (putK kvs k z))) else Pv (i + 1) H3) (hd : ∀ H, Pv n H → Qd H) :
    ∃ W : Nat → Nat → Hp → Prop, (∃ m, W 0 m (upd H1 Dl (.dK []))) ∧ ∀ i m H, W i m H →
      (J.stop i H ∧ Qd H) ∨ (J.go i H ∧ ∃ Nx : Hp → Prop, (∀ H', Nx H' → ∃ m', m' < m ∧ W (i + 1) m' H') ∧ ∀ x H', J.yld i H x H' → g x (wipe σ vs) H' fun σ2 H2 => wipe σ2 vs = wipe σ vs ∧ tt σ2 H2 fun b H3 =>
        if b = true then tk σ2 H3 fun y H4 => tv σ2 H4 fun z H5 => ∃ kvs k, y = kV k ∧ H5 Dl = some (.dK kvs) ∧ kvs.length < sizeLine ∧ Nx (upd H5 Dl (.dK (putK kvs k z))) else Nx H3) := by
  refine ⟨fun i m H => m = n - i ∧ i ≤ n ∧ Pv i H, ⟨n, by simp, Nat.zero_le _, h0⟩, ?_⟩
  rintro i m H ⟨rfl, hi, p⟩
  have q := hG i H hi p
  by_cases hlt : i < n
  · refine .inr ⟨w.goes i H hlt q, Pv (i + 1), fun H' p' => ⟨n - (i + 1), by omega, rfl, hlt, p'⟩, fun x H' y => hs i x H H' hlt p (w.yields i H x H' hlt q y)⟩
  · have e : i = n := by omega
    subst e
    exact .inl ⟨w.stops H q, hd H p⟩
end
section
variable {P : Program} {w : World} {K : PySem.W.Frag} {mg : Str → Option Value} {base : Heap} {C_Shape C_FORMS : Addr}
def spFresh (n : Nat) : Sp := fun vs H Q _ => ∃ (v : V) (P : Addr → Prop) (d : D), vs = [v] ∧ Rep H n P d v ∧ pl n d ∧ ∀ H' v', Ex H H' → Rep H' n (fun b => H b = none) d v' → Q v' H'
theorem ok_fresh (T : Txt K mg C_Shape C_FORMS) (R : Prg K mg C_Shape C_FORMS) : ∀ n, ∃ f fd, Fn P w K mg base "fresh" (n + 1) ["value"] (spFresh n) f fd
  | 0 => by
    obtain ⟨f, fd, at_, F, kp⟩ := R.fresh
    refine ⟨f, fd, F.ok sc_fresh (fun vs H Q E h => ?_) (fun cdv A outer s H vs Q E hr h => ?_), at_, kp, F.binds (fun _ _ _ _ _ _ us hl => match us, hl with | [_], _ => rfl)⟩
    · obtain ⟨v, P, d, rfl, _⟩ := h; rfl
    · obtain ⟨v, P, d, rfl, h, _⟩ := h; exact h.elim
  | n + 1 => by
    obtain ⟨_, _, G_fresh⟩ := ok_fresh T R n
    obtain ⟨f, fd, at_, F, kp⟩ := R.fresh
    refine ⟨f, fd, F.ok sc_fresh (fun vs H Q E h => ?_) (fun cdv A outer s H vs Q E hr h => ?_), at_, kp, F.binds (fun _ _ _ _ _ _ us hl => match us, hl with | [_], _ => rfl)⟩
    · obtain ⟨v, P, d, rfl, _⟩ := h; rfl
    · obtain ⟨v, PP, d, rfl, hv, hkn, k⟩ := h
      refine ⟨_, (pss_cons (ps_if (pt_val (pe_callB (r := rIsi K) call_isi (by rfl) T.isinstance (by decide +kernel) (pa_cons (pv 0) (pa_cons (pe_bltn (v := .ty "list") (by rfl) T.list boot_list rfl) pa_nil)))) (pss_one (ps_ret (pe_lc (own := [("one", 1)]) rfl sc_fresh.nd (show PI _ _ _ (iList K _) from pi_list (pv 0)) (blkOk_by (own := [("one", 1)]) (N := ["value", "one", "key"]) (sc := defScope s_fresh) (by decide +kernel)) (fun _ _ _ _ _ => (pg_name (i := 1) sc_fresh.nd rfl (Or.inl rfl))) (fun _ _ _ _ _ => pts_nil) (fun _ _ _ _ _ => (pcl G_fresh hr (pa_cons (pv 1) pa_nil)))))) pss_nil)
  (pss_cons (ps_if (pt_val (pe_callB (r := rIsi K) call_isi (by rfl) T.isinstance (by decide +kernel) (pa_cons (pv 0) (pa_cons (pe_bltn (v := .ty "tuple") (by rfl) T.tuple boot_tuple rfl) pa_nil)))) pss_never pss_nil)
  (pss_cons (ps_if (pt_val (pe_callB (r := rIsi K) call_isi (by rfl) T.isinstance (by decide +kernel) (pa_cons (pv 0) (pa_cons (pe_bltn (v := .ty "dict") (by rfl) T.dict boot_dict rfl) pa_nil)))) (pss_one (ps_ret (pe_lock (pe_dc (own := [("key", 2), ("one", 1)]) rfl sc_fresh.nd (pi_items (pv 0)) (blkOk_by (own := [("key", 2), ("one", 1)]) (N := ["value", "one", "key"]) (sc := defScope s_fresh) (by decide +kernel)) (fun _ _ _ _ _ => (show PG _ _ (gTup K 2 _) from pg_tup (n := 2) rfl (pgs_cons (pg_name (i := 2) sc_fresh.nd rfl (Or.inl rfl)) (pgs_cons (pg_name (i := 1) sc_fresh.nd rfl (Or.inl rfl)) pgs_nil)))) (fun _ _ _ _ _ => pts_nil) (fun _ _ _ _ _ => (pv 2)) (fun _ _ _ _ _ => (pcl G_fresh hr (pa_cons (pv 1) pa_nil))))))) pss_nil)
  (pss_one (ps_ret (pv 0)))))), ?_⟩
      -- a part of a list or a tuple
      have kidL : ∀ {l : List D} {xs : List V} {H1 : Hp} {Q2 : VK} {J : It}, Walk J xs.length (fun H' => Ex H1 H') (YAt xs) → xs.length ≤ 100000 → Paired (fun d x => Rep H1 n PP d x) l xs → (∀ x ∈ l, pl n x) → (∀ H' Dl ys, H1 Dl = none → Ex H1 H' → H' Dl = some (.lst ys) → Paired (fun d x => Rep H' n (fun b => H1 b = none ∧ b ≠ Dl) d x) l ys → Q2 (.ref Dl) H') →
          ∀ Dl, H1 Dl = none → ∃ W : Nat → Nat → Hp → Prop, (∃ m, W 0 m (upd H1 Dl (.lst []))) ∧ ∀ i m H, W i m H → (J.stop i H ∧ Q2 (.ref Dl) H) ∨ (J.go i H ∧ ∃ Nx : Hp → Prop, (∀ H', Nx H' → ∃ m', m' < m ∧ W (i + 1) m' H') ∧ ∀ x H', J.yld i H x H' → gName 1 x (wipe [some v, none, none] [1]) H' fun σ2 H2 => wipe σ2 [1] = wipe [some v, none, none] [1] ∧ tYes σ2 H2 fun b H3 =>
            if b = true then tCall (spFresh n) [] E0 (tCons (tVar 1) tNil) σ2 H3 fun y H4 => ∃ acc, H4 Dl = some (.lst acc) ∧ acc.length < sizeLine ∧ Nx (upd H4 Dl (.lst (acc ++ [y]))) else Nx H3) := by
        intro l xs H1 Q2 J wk l5 pr hk q Dl hD
        refine lc_it wk (fun i H' => Ex H1 H' ∧ ∃ ys, H' Dl = some (.lst ys) ∧ Paired (fun d x => Rep H' n (fun b => H1 b = none ∧ b ≠ Dl) d x) (l.take i) ys) ⟨Ex.new hD, [], upd_same, .nil⟩ (fun i H' _ p => p.1) (fun i x H0 H' hi pv y => ?_) fun H' pv => ?_
        · obtain ⟨e, ys, hys, pys⟩ := pv
          obtain ⟨rfl, hx⟩ := y
          obtain ⟨dx, hdx, hrx⟩ := pair_back pr hx
          refine ⟨rfl, ?_⟩
          refine yes_go ?_
          refine ⟨_, rfl, x, PP, dx, rfl, rep_ex e hrx, hk _ (List.mem_of_getElem? hdx), fun H3 v3 e3 hr3 => ⟨ys, e3 _ _ hys, ?_, Ex.mut (e.trans e3) hD, ys ++ [v3], upd_same, ?_⟩⟩
          · rw [← pair_len pys, List.length_take]; exact Evl.sz_lt (by omega)
          · rw [take_snoc hdx]
            refine pair_snoc (pair_imp pys fun a b h => rep_upd (e3 _ _ hys) (fun _ z => nomatch z) (fun b z => z.2) (rep_ex e3 h)) (rep_upd (e3 _ _ hys) (fun _ z => nomatch z) (fun b z => z.2) (rep_S (fun b hb => ⟨Evl.fresh_back e hb, fun z => by rw [z, hys] at hb; cases hb⟩) hr3))
        · obtain ⟨e, ys, hys, pys⟩ := pv
          rw [← pair_len pr, List.take_of_length_le (Nat.le_refl _)] at pys
          exact q H' Dl ys hD e hys pys
      have leaf : ∀ {H1 : Hp}, Ex H H1 → (∀ l, d ≠ .lst l) → (∀ l, d ≠ .tup l) → (∀ l, d ≠ .dic l) → Q v H1 := fun {H1} e1 a b c => by
        refine k H1 v e1 ?_
        cases d with
        | lst l => exact absurd rfl (a l)
        | tup l => exact absurd rfl (b l)
        | dic l => exact absurd rfl (c l)
        | non => exact hv
        | bl b => exact hv
        | int i => exact hv
        | str s => exact hv
      have skip1 : (∀ l, d ≠ .lst l) → kitB (dT d) "list" = some false := fun a => by
        refine kit_list _ ?_
        cases d with
        | lst l => exact absurd rfl (a l)
        | _ => simp [dT]
      have skip2 : (∀ l, d ≠ .tup l) → kitB (dT d) "tuple" = some false := fun a => by
        refine kit_tuple _ ?_
        cases d with
        | tup l => exact absurd rfl (a l)
        | _ => simp [dT]
      have skip3 : (∀ l, d ≠ .dic l) → kitB (dT d) "dict" = some false := fun a => by
        refine kit_dict _ ?_
        cases d with
        | dic l => exact absurd rfl (a l)
        | _ => simp [dT]
      by_cases c1 : ∃ l, d = .lst l
      · obtain ⟨l, rfl⟩ := c1
        obtain ⟨a, xs, rfl, _, ha, l5, pr⟩ := id hv
        refine Evl.q_when (b := true) (Evl.et_B (ev_kind (d := .lst l) true (Evl.ev_var rfl) hv (show kitB "list" "list" = some true by decide +kernel))) (fun _ H1 e1 => ?_) (fun h => nomatch h)
        have hv1 := pair_imp pr fun a b h => rep_ex e1 h
        refine ⟨_, rfl, a, rfl, ⟨_, Evl.sq_of (e1 _ _ ha)⟩, kidL (walk_list.mono (fun H' e => Evl.sq_of (e _ _ (e1 _ _ ha))) fun i H v H' _ _ y => y) (by rw [← pair_len pr]; exact l5) hv1 hkn fun H' Dl ys hD e hys pys => ?_⟩
        exact k H' _ (e1.trans e) ⟨Dl, ys, rfl, Evl.fresh_back e1 hD, hys, l5, pair_imp pys fun a b h => rep_S (fun b hb => Evl.fresh_back e1 hb.1) h⟩
      have c1 : ∀ l, d ≠ .lst l := fun l e => c1 ⟨l, e⟩
      refine Evl.q_when (b := false) (Evl.et_B (ev_kind false (Evl.ev_var rfl) hv (skip1 c1))) (fun h => nomatch h) fun _ H1 e1 => ?_
      have hv1 := rep_ex e1 hv
      by_cases c2 : ∃ l, d = .tup l
      · obtain ⟨l, rfl⟩ := c2
        exact (show False from hkn).elim
      have c2 : ∀ l, d ≠ .tup l := fun l e => c2 ⟨l, e⟩
      refine Evl.q_when (b := false) (Evl.et_B (ev_kind false (Evl.ev_var rfl) hv1 (skip2 c2))) (fun h => nomatch h) fun _ H2 e2 => ?_
      have hv2 := rep_ex e2 hv1
      have e12 := e1.trans e2
      by_cases c3 : ∃ l, d = .dic l
      · obtain ⟨l, rfl⟩ := c3
        obtain ⟨a, es, rfl, _, ha, l5, pr⟩ := id hv2
        have ekeys := pair_keys pr
        have le := pair_len pr
        refine Evl.q_when (b := true) (Evl.et_B (ev_kind (d := .dic l) true (Evl.ev_var rfl) hv2 (show kitB "dict" "dict" = some true by decide +kernel))) (fun _ H3 e3 => ?_) (fun h => nomatch h)
        have ha3 := e3 _ _ ha
        have e13 := e12.trans e3
        refine ⟨a, .dK es, ha3, trivial, fun od => ⟨_, rfl, a, od, es, rfl, upd_same, fun Dl hD => ?_⟩⟩
        have nDa : Dl ≠ a := fun e => by rw [e, upd_same] at hD; cases hD
        have hD3 : H3 Dl = none := by rw [upd_ne nDa] at hD; exact hD
        refine dc_it walk_items (vs := [2, 1]) (fun i H' => ∃ es' : List (Key × V), Ex (upd H3 a (.frz od (.dK es))) H' ∧ H' Dl = some (.dK es') ∧ Paired (fun (q : Str × D) (e : Key × V) => e.1 = Sum.inr q.1 ∧ Rep H' n (fun b => H3 b = none ∧ b ≠ Dl) q.2 e.2) (l.take i) es') ⟨[], Ex.new hD, upd_same, .nil⟩ (fun i H' _ ⟨_, e, _⟩ => e _ _ upd_same) (fun i x H0 H' hlt pv y => ?_) fun H' pv => ?_
        · obtain ⟨es', e, h1', pes⟩ := pv
          obtain ⟨Tq, x1, y1, rfl, nT, rfl, hx1, hy1⟩ := y
          obtain ⟨⟨kk, vj⟩, hkv, rfl⟩ := Option.map_eq_some_iff.mp hx1
          have hy1 : es[i]?.map Prod.snd = some y1 := hy1
          rw [hkv] at hy1
          cases hy1
          obtain ⟨⟨nm, dj⟩, hdj, hk, hrj⟩ := pair_back pr hkv
          have hk : kk = Sum.inr nm := hk
          subst hk
          have eT := Ex.new (o := .tup [kV (Sum.inr nm : Key), vj]) nT
          refine ⟨Tq, _, rfl, Evl.st_of upd_same, rfl, _, _, rfl, _, _, rfl, rfl, ?_⟩
          have hrj' := rep_ex eT (rep_in ha3 e (rep_ex e3 hrj))
          have e := e.trans eT
          have h1' := eT _ _ h1'
          have pes := pair_imp pes fun a b h => (⟨h.1, rep_ex eT h.2⟩ : _ ∧ _)
          generalize (upd H0 Tq (.tup [kV (Sum.inr nm : Key), vj])) = HT at e h1' pes hrj' ⊢
          refine ⟨rfl, yes_go ?_⟩
          refine ⟨_, rfl, _, rfl, vj, _, dj, rfl, hrj', hkn.2 _ (List.mem_of_getElem? hdj), fun H4 v4 e4 hr4 => ?_⟩
          have nv : valV es' (Sum.inr nm : Key) = none := vV_no (by rw [pair_keys pes, List.map_take]; exact inr_not (not_take hkn.1 (by rw [List.getElem?_map, hdj]; rfl)))
          refine ⟨es', Sum.inr nm, rfl, e4 _ _ h1', ?_, es' ++ [(Sum.inr nm, v4)], Ex.mut (e.trans e4) hD, by rw [upd_same, putK_new _ nv], ?_⟩
          · rw [← pair_len pes, List.length_take]; exact Evl.sz_lt (by omega)
          · rw [take_snoc hdj]
            have back : ∀ b, HT b = none → H3 b = none := fun b hb => by
              have := Evl.fresh_back e hb
              by_cases z : b = a
              · rw [z, upd_same] at this; cases this
              · rw [upd_ne z] at this; exact this
            exact pair_snoc (pair_imp pes fun a b h => ⟨h.1, rep_upd (e4 _ _ h1') (fun _ z => nomatch z) (fun b z => z.2) (rep_ex e4 h.2)⟩) ⟨rfl, rep_upd (e4 _ _ h1') (fun _ z => nomatch z) (fun b z => z.2) (rep_S (fun b hb => ⟨back b hb, fun z => by rw [z, h1'] at hb; cases hb⟩) hr4)⟩
        · obtain ⟨es', e, h1', pes⟩ := pv
          rw [← le, List.take_of_length_le (Nat.le_refl _)] at pes
          have eu : Ex H3 (upd H' a (.dK es)) := unlock ha3 e
          refine ⟨e _ _ upd_same, k _ _ (e13.trans eu) ⟨Dl, es', rfl, Evl.fresh_back e13 hD3, by rw [upd_ne nDa]; exact h1', l5, pair_imp pes fun x en h => ⟨h.1, ?_⟩⟩⟩
          refine rep_S (fun b hb => ⟨Evl.fresh_back e13 hb.1, hb.2⟩) (rep_upd (e _ _ upd_same) (fun _ z => nomatch z) (fun b z ez => ?_) h.2)
          rw [ez] at z
          rw [ha3] at z
          exact nomatch z.1
      have c3 : ∀ l, d ≠ .dic l := fun l e => c3 ⟨l, e⟩
      refine Evl.q_when (b := false) (Evl.et_B (ev_kind false (Evl.ev_var rfl) hv2 (skip3 c3))) (fun h => nomatch h) fun _ H3 e3 => Evl.s_ret (Evl.ev_var rfl) fun H4 e4 => leaf (e12.trans (e3.trans e4)) c1 c2 c3
end
end Pk

namespace Pk
open PySem PySem.Spec PyProof.Rows L2 Ssb
open Evl (Ex Ev EvT EvL EvA EvU)
def forms : List (Str × Int) := [("append", 3), ("cut", 2), ("insert", 4), ("remove", 3), ("move", 4), ("field", 5), ("flag", 2)]
def isS (s : Str) : D → Bool
  | .str t => decide (t = s)
  | _ => false
theorem isS_iff {s : Str} {d : D} : isS s d = true ↔ d = .str s := by
  cases d with
  | str t => show decide (t = s) = true ↔ _; rw [decide_eq_true_eq]; simp
  | _ => simp [isS]
def hasF : D → Bool
  | .tup (d :: l) => forms.any fun p => isS p.1 d && decide (p.2 = ((l.length + 1 : Nat) : Int))
  | _ => false
theorem rep_str {H : Hp} {n : Nat} {S : Addr → Prop} {d : D} {v : V} (h : Rep H (n + 1) S d v) (s : Str) : v = .str s ↔ d = .str s := by
  cases d with
  | non => have e : v = .non := h; subst e; simp
  | bl b => have e : v = .bl b := h; subst e; simp
  | int i => have e : v = .int i := h; subst e; simp
  | str s => have e : v = .str s := h; subst e; simp
  | lst l => obtain ⟨a, xs, rfl, _⟩ := h; simp
  | tup l => obtain ⟨a, xs, rfl, _⟩ := h; simp
  | dic l => obtain ⟨a, xs, rfl, _⟩ := h; simp
theorem rep_kd {H : Hp} {n : Nat} {S : Addr → Prop} {d : D} {v : V} (h : Rep H (n + 1) S d v) : Kd H v := by
  cases d with
  | non => have e : v = .non := h; subst e; exact .flat rfl
  | bl b => have e : v = .bl b := h; subst e; exact .flat rfl
  | int i => have e : v = .int i := h; subst e; exact .flat rfl
  | str s => have e : v = .str s := h; subst e; exact .flat rfl
  | lst l => obtain ⟨a, xs, rfl, _, ha, _⟩ := h; exact .lst ha
  | tup l => obtain ⟨a, xs, rfl, ha, _⟩ := h; exact .tup ha
  | dic l => obtain ⟨a, xs, rfl, _, ha, _⟩ := h; exact .dic ha
theorem u65 {k : Nat} {A : Around} (r : Room k A) : A.units + 65 < cLine := by have := r.un; omega
section
variable {P : Program} {w : World} {K : PySem.W.Frag} {mg : Str → Option Value} {base : Heap} {C_Shape C_FORMS : Addr}
def spHasF (K : PySem.W.Frag) (C : Addr) : Sp := fun vs H Q _ => ∃ (v : V) (n : Nat) (S : Addr → Prop) (d : D), vs = [v, .ref C] ∧ Rep H (n + 2) S d v ∧ ∀ H', Ex H H' → Q (.bl (hasF d)) H'
theorem ok_has_form (T : Txt K mg C_Shape C_FORMS) (R : Prg K mg C_Shape C_FORMS) : ∃ f fd, Fn P w K mg base "has_form" 1 ["value", "forms"] (spHasF K C_FORMS) f fd := by
  obtain ⟨f, fd, at_, F, kp⟩ := R.has_form
  refine ⟨f, fd, F.ok sc_has_form (fun vs H Q E h => ?_) (fun cdv A outer s H vs Q E hr h => ?_), at_, kp, F.binds (fun _ _ _ _ _ _ us hl => match us, hl with | [_, _], _ => rfl)⟩
  · obtain ⟨v, n, S, d, rfl, _⟩ := h; rfl
  · obtain ⟨v, n, S, d, rfl, hv, k⟩ := h
    refine ⟨_, (pss_one (ps_ret (pe_and (pe_callB (r := rIsi K) call_isi (by rfl) T.isinstance (by decide +kernel) (pa_cons (pv 0) (pa_cons (pe_bltn (v := .ty "tuple") (by rfl) T.tuple boot_tuple rfl) pa_nil))) (pe_and (pe_cmpR op_gt (pe_callB (r := rLenA K) call_len (by rfl) T.len (by decide +kernel) (pa_cons (pv 0) pa_nil)) pe_int (nomark _)) (pe_one (pe_cmpR (r := rInF K) (op_inF (u65 hr)) (pe_tup (pa_cons (pe_ix (r := rIxT K) ix_tup (pv 0) pe_int (fun _ _ => rfl)) (pa_cons (pe_callB (r := rLenA K) call_len (by rfl) T.len (by decide +kernel) (pa_cons (pv 0) pa_nil)) pa_nil))) (pv 1) (by rfl))))))), ?_⟩
    have no : kitB (dT d) "tuple" = some false → hasF d = false → _ := fun hk e =>
      Evl.s_ret (D := { nx := fun x H' => Q V.non H', rt := Q }) (σ := [some v, some (.ref C_FORMS)]) (H := H) (te := tAndV (tCB (rIsi K) (tCons (tVar 0) (tCons (tC (.ty "tuple")) tNil))) (tAndV (tOp (rI0 fun i j => .bl (decide (i > j))) (tCB (rLenA K) (tCons (tVar 0) tNil)) (tC (.int 0))) (tOp (rInF K) (tTup (tCons (tOp (rIxT K) (tVar 0) (tC (.int 0))) (tCons (tCB (rLenA K) (tCons (tVar 0) tNil)) tNil))) (tVar 1)))) (v := .bl false) (Evl.ev_is (Evl.ev_andV (a := false) (b := true) (ev_kind false (Evl.ev_var rfl) hv hk) fun h => nomatch h) rfl) fun H1 e1 => by have := k H1 e1; rw [e] at this; exact this
    cases d with
    | non => exact no (by show kitB "NoneType" "tuple" = _; decide +kernel) rfl
    | bl b => exact no (by show kitB "bool" "tuple" = _; decide +kernel) rfl
    | int i => exact no (by show kitB "int" "tuple" = _; decide +kernel) rfl
    | str s => exact no (by show kitB "str" "tuple" = _; decide +kernel) rfl
    | lst l => exact no (by show kitB "list" "tuple" = _; decide +kernel) rfl
    | dic l => exact no (by show kitB "dict" "tuple" = _; decide +kernel) rfl
    | tup l =>
      obtain ⟨a, xs, rfl, ha, l5, pr⟩ := id hv
      have lx := pair_len pr
      cases pr with
      | nil =>
        exact Evl.s_ret (v := .bl false) (Evl.ev_is (Evl.ev_andV (a := true) (b := false) (ev_kind true (Evl.ev_var rfl) hv (by show kitB "tuple" "tuple" = _; decide +kernel)) fun _ => Evl.ev_is (Evl.ev_andV (a := false) (b := true) (Evl.ev_is (Evl.ev_op (ev_lenL (Evl.ev_var rfl) (.inr (Evl.st_of ha))) Evl.ev_c Evl.rv_I0) rfl) fun h => nomatch h) rfl) rfl) fun H1 e1 => k H1 e1
      | @cons d x l xs hx pr =>
        obtain ⟨cs, hc, pc⟩ := TupK.forms (fs := forms) T.tu_FORMS
        refine Evl.s_ret (v := .bl (hasF (.tup (d :: l)))) (Evl.ev_is (Evl.ev_andV (a := true) (b := hasF (.tup (d :: l))) (ev_kind true (Evl.ev_var rfl) hv (by show kitB "tuple" "tuple" = _; decide +kernel)) fun _ => Evl.ev_is (Evl.ev_andV (a := true) (b := hasF (.tup (d :: l))) (Evl.ev_is (Evl.ev_op (ev_lenL (Evl.ev_var rfl) (.inr (Evl.st_of ha))) Evl.ev_c Evl.rv_I0) (by rw [decide_eq_true (by simp only [List.length_cons]; omega)])) fun _ => ?_) rfl) rfl) fun H1 e1 => k H1 e1
        intro H1 e1 Q1 q1
        refine Evl.eu_tup (σ := [some (.ref a), some (.ref C_FORMS)]) (vs := [x, .int ((x :: xs).length : Int)]) (Evl.ea_cons (Evl.ev_op (Evl.ev_var rfl) Evl.ev_c (Evl.rv_ixT (Evl.st_of ha) (atI_nat (j := 0) rfl))) (Evl.ea_cons (ev_lenL (Evl.ev_var rfl) (.inr (Evl.st_of ha))) Evl.ea_nil)) (by show 2 ≤ 100000; decide) H1 e1 _ fun p H2 np e2 hp => ?_
        refine ⟨_, rfl, p, x, ((x :: xs).length : Int), C_FORMS, cs, forms, rfl, hp, rep_kd (rep_ex (e1.trans e2) hx), rfl, hc, pc, ?_⟩
        have : (forms.any fun p => decide (x = .str p.1) && decide (p.2 = (((x :: xs).length : Nat) : Int))) = hasF (.tup (d :: l)) := by
          unfold hasF
          congr 1
          funext p
          have e1 : decide (x = .str p.1) = isS p.1 d := by rw [Bool.eq_iff_iff, decide_eq_true_eq, isS_iff]; exact rep_str hx p.1
          rw [e1, ← lx]; rfl
        rw [this]
        exact q1 H2 e2
end
/-- one form of the module -/
theorem form_mk {K : PySem.W.Frag} {b : Addr} {s : Str} {i : Int} {k t : Tok} {d : Option Addr} {n : Nat} {l : Array (Option Value)} (h : K.lookup b = some ⟨.type "tuple", d, .seq #[.str s k, .int i t] n, l⟩) : RepK K 3 (.tup [.str s, .int i]) (.ref b) :=
  ⟨_, [.str _, .int _], rfl, ⟨_, _, _, h, rfl, rfl, by show 2 ≤ sizeLine; decide, .cons ⟨_, rfl⟩ (.cons ⟨_, rfl⟩ .nil)⟩, .cons rfl (.cons rfl .nil)⟩
theorem tup_mk7 {K : PySem.W.Frag} {a a1 a2 a3 a4 a5 a6 a7 : Addr} {D1 D2 D3 D4 D5 D6 D7 : D} {d0 : Option Addr} {n0 : Nat} {l0 : Array (Option Value)}
    (h0 : K.lookup a = some ⟨.type "tuple", d0, .seq #[.ref a1, .ref a2, .ref a3, .ref a4, .ref a5, .ref a6, .ref a7] n0, l0⟩)
    (h1 : RepK K 3 D1 (.ref a1)) (h2 : RepK K 3 D2 (.ref a2)) (h3 : RepK K 3 D3 (.ref a3)) (h4 : RepK K 3 D4 (.ref a4)) (h5 : RepK K 3 D5 (.ref a5)) (h6 : RepK K 3 D6 (.ref a6)) (h7 : RepK K 3 D7 (.ref a7)) : TupK K a [D1, D2, D3, D4, D5, D6, D7] :=
  ⟨[.ref a1, .ref a2, .ref a3, .ref a4, .ref a5, .ref a6, .ref a7], ⟨_, _, _, h0, rfl, rfl, by show 7 ≤ sizeLine; decide, .cons rfl (.cons rfl (.cons rfl (.cons rfl (.cons rfl (.cons rfl (.cons rfl .nil))))))⟩, .cons h1 (.cons h2 (.cons h3 (.cons h4 (.cons h5 (.cons h6 (.cons h7 .nil))))))⟩
end Pk

namespace Pk
open PySem PySem.Spec PyProof.Rows L2 Ssb
open Evl (Ex Ev EvT EvL EvA EvU)
/-! ### indexes of a deed -/
def FitsIx (xs : List V) (many : Int) : Prop :=
  (∃ w r, xs = [.str "append", w, r]) ∨ (∃ w, xs = [.str "cut", w] ∧ 0 < many) ∨ (∃ w r, ∃ i : Int, xs = [.str "insert", w, .int i, r] ∧ 0 ≤ i ∧ i ≤ many) ∨
  (∃ w, ∃ i : Int, xs = [.str "remove", w, .int i] ∧ 0 ≤ i ∧ i ≤ many - 1) ∨ (∃ w, ∃ i j : Int, xs = [.str "move", w, .int i, .int j] ∧ 0 ≤ i ∧ i ≤ many - 1 ∧ 0 ≤ j ∧ j ≤ many - 1) ∨ (∃ w, ∃ i : Int, ∃ f x, xs = [.str "field", w, .int i, f, x] ∧ 0 ≤ i ∧ i ≤ many - 1)
section
variable {P : Program} {w : World} {K : PySem.W.Frag} {mg : Str → Option Value} {base : Heap} {C_Shape C_FORMS : Addr}
def spIF : Sp := fun vs H Q _ => ∃ (t : Addr) (xs : List V) (many : Int), vs = [.ref t, .int many] ∧ H t = some (.tup xs) ∧ FitsIx xs many ∧ ∀ H', Ex H H' → Q (.bl true) H'
theorem ok_indexes_fit (T : Txt K mg C_Shape C_FORMS) (R : Prg K mg C_Shape C_FORMS) : ∃ f fd, Fn P w K mg base "indexes_fit" 2 ["deed", "many"] spIF f fd := by
  obtain ⟨_, _, G_is_integer⟩ := ok_is_integer (P := P) (w := w) (base := base) T R
  obtain ⟨f, fd, at_, F, kp⟩ := R.indexes_fit
  refine ⟨f, fd, F.ok sc_indexes_fit (fun vs H Q E h => ?_) (fun cdv A outer s H vs Q E hr h => ?_), at_, kp, F.binds (fun _ _ _ _ _ _ us hl => match us, hl with | [_, _], _ => rfl)⟩
  · obtain ⟨t, xs, many, rfl, _⟩ := h; rfl
  · obtain ⟨t, xs, many, rfl, ht, hx, k⟩ := h
    refine ⟨_, (pss_cons (ps_if (pt_cmpR op_eq (pe_ix (r := rIxT K) ix_tup (pv 0) pe_int (fun _ _ => rfl)) pe_str (nomark _)) (pss_one (ps_ret pe_bl)) pss_nil)
  (pss_cons (ps_if (pt_cmpR op_eq (pe_ix (r := rIxT K) ix_tup (pv 0) pe_int (fun _ _ => rfl)) pe_str (nomark _)) (pss_one (ps_ret (pe_cmpR op_gt (pv 1) pe_int (nomark _)))) pss_nil)
  (pss_cons (ps_if (pt_cmpR op_eq (pe_ix (r := rIxT K) ix_tup (pv 0) pe_int (fun _ _ => rfl)) pe_str (nomark _)) (pss_one (ps_ret (pcl G_is_integer hr (pa_cons (pe_ix (r := rIxT K) ix_tup (pv 0) pe_int (fun _ _ => rfl)) (pa_cons pe_int (pa_cons (pv 1) pa_nil)))))) pss_nil)
  (pss_cons (ps_if (PW.pt (pw_and (pt_cmpR op_eq (pe_ix (r := rIxT K) ix_tup (pv 0) pe_int (fun _ _ => rfl)) pe_str (nomark _)) (pw_and1 (pt_not (pt_val (pcl G_is_integer hr (pa_cons (pe_ix (r := rIxT K) ix_tup (pv 0) pe_int (fun _ _ => rfl)) (pa_cons pe_int (pa_cons (pe_op op_sub (pv 1) pe_int) pa_nil))))))))) pss_never pss_nil)
  (pss_one (ps_ret (pcl G_is_integer hr (pa_cons (pe_ix (r := rIxT K) ix_tup (pv 0) pe_int (fun _ _ => rfl)) (pa_cons pe_int (pa_cons (pe_op op_sub (pv 1) pe_int) pa_nil)))))))))), ?_⟩
    have ix : ∀ {j : Nat} {z : V} {H3 : Hp}, Ex H H3 → xs[j]? = some z → Ev (tOp (rIxT K) (tVar 0) (tC (.int (j : Int)))) [some (.ref t), some (.int many)] H3 z := fun e3 hz => Evl.ev_op (Evl.ev_var rfl) Evl.ev_c (Evl.rv_ixT (Evl.st_of (e3 _ _ ht)) (atI_nat hz))
    have is : ∀ {H3 : Hp} {a b : String} (r : Bool), Ex H H3 → xs[0]? = some (.str a) → decide (V.str a = V.str b) = r → EvT (tTest (tOp rEq (tOp (rIxT K) (tVar 0) (tC (.int 0))) (tC (.str b)))) [some (.ref t), some (.int many)] H3 r := fun r e3 h0 hr => Evl.et_is (Evl.et_test (Evl.ev_op (ix (j := 0) e3 h0) Evl.ev_c (Evl.rv_eq rfl))) hr
    rcases hx with ⟨w, r, rfl⟩ | ⟨w, rfl, h1⟩ | ⟨w, r, i, rfl, h1, h2⟩ | ⟨w, i, rfl, h1, h2⟩ | ⟨w, i, j, rfl, h1, h2, h3, h4⟩ | ⟨w, i, f, x, rfl, h1, h2⟩
    · refine Evl.q_when (is (a := "append") (b := "append") true (Ex.refl _) rfl (by decide)) (fun _ H1 e1 => Evl.s_ret Evl.ev_c fun H2 e2 => k H2 (e1.trans e2)) (fun h => nomatch h)
    · refine Evl.q_when (is (a := "cut") (b := "append") false (Ex.refl _) rfl (by decide)) (fun h => nomatch h) (fun _ H1 e1 => ?_)
      refine Evl.q_when (is (a := "cut") (b := "cut") true e1 rfl (by decide)) (fun _ H2 e2 => ?_) (fun h => nomatch h)
      exact Evl.s_ret (v := .bl true) (Evl.ev_is (Evl.ev_op (Evl.ev_var rfl) Evl.ev_c Evl.rv_I0) (by rw [decide_eq_true h1])) fun H3 e3 => k H3 ((e1.trans e2).trans e3)
    · refine Evl.q_when (is (a := "insert") (b := "append") false (Ex.refl _) rfl (by decide)) (fun h => nomatch h) (fun _ H1 e1 => ?_)
      refine Evl.q_when (is (a := "insert") (b := "cut") false e1 rfl (by decide)) (fun h => nomatch h) (fun _ H2 e2 => ?_)
      have e02 := e1.trans e2
      refine Evl.q_when (is (a := "insert") (b := "insert") true e02 rfl (by decide)) (fun _ H3 e3 => ?_) (fun h => nomatch h)
      have e03 := e02.trans e3
      exact Evl.s_ret (spV_ev (Evl.ea_cons (ix (j := 2) e03 rfl) (Evl.ea_cons Evl.ev_c (Evl.ea_cons (Evl.ev_var rfl) Evl.ea_nil))) fun H4 _ => ⟨i, 0, many, rfl, h1, h2⟩) fun H4 e4 => k H4 (e03.trans e4)
    · refine Evl.q_when (is (a := "remove") (b := "append") false (Ex.refl _) rfl (by decide)) (fun h => nomatch h) (fun _ H1 e1 => ?_)
      refine Evl.q_when (is (a := "remove") (b := "cut") false e1 rfl (by decide)) (fun h => nomatch h) (fun _ H2 e2 => ?_)
      have e02 := e1.trans e2
      refine Evl.q_when (is (a := "remove") (b := "insert") false e02 rfl (by decide)) (fun h => nomatch h) (fun _ H3 e3 => ?_)
      have e03 := e02.trans e3
      refine Evl.q_when (b := false && true) (Evl.et_and (a := false) (b := true) (is (a := "remove") (b := "move") false e03 rfl (by decide)) fun h => nomatch h) (fun h => nomatch h) (fun _ H4 e4 => ?_)
      have e04 := e03.trans e4
      exact Evl.s_ret (spV_ev (Evl.ea_cons (ix (j := 2) e04 rfl) (Evl.ea_cons Evl.ev_c (Evl.ea_cons (Evl.ev_op (Evl.ev_var rfl) Evl.ev_c Evl.rv_I0) Evl.ea_nil))) fun H5 _ => ⟨i, 0, many - 1, rfl, h1, h2⟩) fun H5 e5 => k H5 (e04.trans e5)
    · refine Evl.q_when (is (a := "move") (b := "append") false (Ex.refl _) rfl (by decide)) (fun h => nomatch h) (fun _ H1 e1 => ?_)
      refine Evl.q_when (is (a := "move") (b := "cut") false e1 rfl (by decide)) (fun h => nomatch h) (fun _ H2 e2 => ?_)
      have e02 := e1.trans e2
      refine Evl.q_when (is (a := "move") (b := "insert") false e02 rfl (by decide)) (fun h => nomatch h) (fun _ H3 e3 => ?_)
      have e03 := e02.trans e3
      refine Evl.q_when (b := true && !true) (Evl.et_and (is (a := "move") (b := "move") true e03 rfl (by decide)) fun _ => Evl.et_not (Evl.et_B (spV_ev (Evl.ea_cons (ix (j := 3) e03 rfl) (Evl.ea_cons Evl.ev_c (Evl.ea_cons (Evl.ev_op (Evl.ev_var rfl) Evl.ev_c Evl.rv_I0) Evl.ea_nil))) fun H5 _ => ⟨j, 0, many - 1, rfl, h3, h4⟩))) (fun h => nomatch h) (fun _ H4 e4 => ?_)
      have e04 := e03.trans e4
      exact Evl.s_ret (spV_ev (Evl.ea_cons (ix (j := 2) e04 rfl) (Evl.ea_cons Evl.ev_c (Evl.ea_cons (Evl.ev_op (Evl.ev_var rfl) Evl.ev_c Evl.rv_I0) Evl.ea_nil))) fun H5 _ => ⟨i, 0, many - 1, rfl, h1, h2⟩) fun H5 e5 => k H5 (e04.trans e5)
    · refine Evl.q_when (is (a := "field") (b := "append") false (Ex.refl _) rfl (by decide)) (fun h => nomatch h) (fun _ H1 e1 => ?_)
      refine Evl.q_when (is (a := "field") (b := "cut") false e1 rfl (by decide)) (fun h => nomatch h) (fun _ H2 e2 => ?_)
      have e02 := e1.trans e2
      refine Evl.q_when (is (a := "field") (b := "insert") false e02 rfl (by decide)) (fun h => nomatch h) (fun _ H3 e3 => ?_)
      have e03 := e02.trans e3
      refine Evl.q_when (b := false && true) (Evl.et_and (a := false) (b := true) (is (a := "field") (b := "move") false e03 rfl (by decide)) fun h => nomatch h) (fun h => nomatch h) (fun _ H4 e4 => ?_)
      have e04 := e03.trans e4
      exact Evl.s_ret (spV_ev (Evl.ea_cons (ix (j := 2) e04 rfl) (Evl.ea_cons Evl.ev_c (Evl.ea_cons (Evl.ev_op (Evl.ev_var rfl) Evl.ev_c Evl.rv_I0) Evl.ea_nil))) fun H5 _ => ⟨i, 0, many - 1, rfl, h1, h2⟩) fun H5 e5 => k H5 (e04.trans e5)
end
end Pk

namespace Pk
open PySem PySem.Spec PyProof.Rows L2 Ssb
open Evl (Ex Ev EvT EvL EvA EvU)
/-! ### the list that a deed speaks of -/
/-- where a deed is: a list, or a list within a row -/
def AtW (s : Sh) (ls : List (Str × D)) (xs : List V) (nm : Str) : Prop :=
  (xs = [.str nm] ∧ nm ∈ kids s none) ∨
  ∃ (n1 : Str) (id : Int) (rs : List D) (ids : List Int), xs = [.str n1, .int id, .str nm] ∧ n1 ∈ kids s none ∧ nm ∈ kids s (some n1) ∧ ls.lookup n1 = some (.lst rs) ∧ rs.length ≤ 400 ∧ Paired (fun (row : D) (i : Int) => ∃ l, row = .dic l ∧ l.lookup ("id" : Str) = some (.int i)) rs ids ∧ id ∈ ids ∧ 0 ≤ id ∧ id ≤ 1000000
theorem inV_str {x : Str} {ys : List Str} : inV (.str x) (ys.map V.str) = decide (x ∈ ys) := by
  induction ys with
  | nil => rfl
  | cons y ys ih =>
    show (eqV (.str y) (.str x) || inV (.str x) (ys.map V.str)) = _
    rw [ih]
    show ((y == x) || decide (x ∈ ys)) = _
    rw [Bool.eq_iff_iff, Bool.or_eq_true, beq_iff_eq, decide_eq_true_eq, decide_eq_true_eq, List.mem_cons]
    exact or_congr eq_comm Iff.rfl
theorem inV_int {x : Int} {ys : List Int} : inV (.int x) (ys.map V.int) = decide (x ∈ ys) := by
  induction ys with
  | nil => rfl
  | cons y ys ih =>
    show (eqV (.int y) (.int x) || inV (.int x) (ys.map V.int)) = _
    rw [ih]
    show ((y == x) || decide (x ∈ ys)) = _
    rw [Bool.eq_iff_iff, Bool.or_eq_true, beq_iff_eq, decide_eq_true_eq, decide_eq_true_eq, List.mem_cons]
    exact or_congr eq_comm Iff.rfl
theorem all_flat_str (ys : List Str) : (ys.map V.str).all flatV = true := by
  rw [List.all_map]; exact List.all_eq_true.mpr fun _ _ => rfl
theorem rep_succ {H : Hp} {n : Nat} {S : Addr → Prop} {d : D} {v : V} (h : Rep H n S d v) : ∃ m, n = m + 1 := by
  cases n with
  | zero => exact h.elim
  | succ m => exact ⟨m, rfl⟩
section
variable {P : Program} {w : World} {K : PySem.W.Frag} {mg : Str → Option Value} {base : Heap} {C_Shape C_FORMS : Addr}
def spLA (C : Addr) : Sp := fun vs H Q _ => ∃ (p t : Addr) (v : V) (n : Nat) (S S' : Addr → Prop) (fl : List Str) (s : Sh) (l ls : List (Str × D)) (xs : List V) (nm : Str), vs = [.ref p, v, .ref t] ∧ ShapeAt C H p fl s S' ∧ okSh s ∧ Rep H n S (.dic l) v ∧ l.lookup ("lists" : Str) = some (.dic ls) ∧ H t = some (.tup xs) ∧ AtW s ls xs nm ∧ ∀ H', Ex H H' → Q (.str nm) H'
theorem ok_list_at (T : Txt K mg C_Shape C_FORMS) (R : Prg K mg C_Shape C_FORMS) : ∃ f fd, Fn P w K mg base "list_at" 5 ["shape", "data", "where"] (spLA C_Shape) f fd := by
  obtain ⟨_, _, G_is_integer⟩ := ok_is_integer (P := P) (w := w) (base := base) T R
  obtain ⟨_, _, G_Shape_outer⟩ := ok_Shape_outer (P := P) (w := w) (base := base) T R
  obtain ⟨_, _, G_Shape_inner⟩ := ok_Shape_inner (P := P) (w := w) (base := base) T R
  obtain ⟨tG, gG⟩ := T.g_GREATEST_ID
  obtain ⟨f, fd, at_, F, kp⟩ := R.list_at
  refine ⟨f, fd, F.ok sc_list_at (fun vs H Q E h => ?_) (fun cdv A outer s H vs Q E hr h => ?_), at_, kp, F.binds (fun _ _ _ _ _ _ us hl => match us, hl with | [_, _, _], _ => rfl)⟩
  · obtain ⟨p, t, v, n, S, S', fl, s, l, ls, xs, nm, rfl, _⟩ := h; rfl
  · obtain ⟨p, t, v, n, S, S', fl, z, l, ls, xs, nm, rfl, hS, hz, hv, hls, ht, hat, k⟩ := h
    obtain ⟨dx, ft, tb, hp, _, _⟩ := id hS
    refine ⟨_, (pss_cons (ps_if (PW.pt (pw_or (pt_not (pt_val (pe_callB (r := rIsi K) call_isi (by rfl) T.isinstance (by decide +kernel) (pa_cons (pv 2) (pa_cons (pe_bltn (v := .ty "tuple") (by rfl) T.tuple boot_tuple rfl) pa_nil))))) (pw_or (pt_cmpR (r := rIn K true) op_notIn_seq (pe_callB (r := rLenA K) call_len (by rfl) T.len (by decide +kernel) (pa_cons (pv 2) pa_nil)) (pe_tup (pa_cons pe_int (pa_cons pe_int pa_nil))) (by rfl)) (pw_or1 (pt_cmpR (r := rIn K true) op_notIn_seq (pe_ix (r := rIxT K) ix_tup (pv 2) pe_int (fun _ _ => rfl)) (pmt0 (pv 0) T.cl_Shape G_Shape_outer hr) (by rfl)))))) pss_never pss_nil)
  (pss_cons (ps_if (pt_cmpR op_eq (pe_callB (r := rLenA K) call_len (by rfl) T.len (by decide +kernel) (pa_cons (pv 2) pa_nil)) pe_int (nomark _)) (pss_one (ps_ret (pe_ix (r := rIxT K) ix_tup (pv 2) pe_int (fun _ _ => rfl)))) pss_nil)
  (pss_cons (ps_if (PW.pt (pw_or (pt_not (pt_val (pcl G_is_integer hr (pa_cons (pe_ix (r := rIxT K) ix_tup (pv 2) pe_int (fun _ _ => rfl)) (pa_cons pe_int (pa_cons (pe_glob (v := .int 1000000) rfl gG ⟨_, rfl⟩) pa_nil)))))) (pw_or1 (pt_cmpR (r := rIn K true) op_notIn_seq (pe_ix (r := rIxT K) ix_tup (pv 2) pe_int (fun _ _ => rfl)) (pmt (pv 0) T.cl_Shape G_Shape_inner hr (pa_cons (pe_ix (r := rIxT K) ix_tup (pv 2) pe_int (fun _ _ => rfl)) pa_nil)) (by rfl))))) pss_never pss_nil)
  (pss_one (ps_ret (pe_ifExp (pt_cmpR (r := rIn K false) op_in_seq (pe_ix (r := rIxT K) ix_tup (pv 2) pe_int (fun _ _ => rfl)) (pe_lc (own := [("row", 3)]) rfl sc_list_at.nd (show PI _ _ _ (iList K _) from pi_list (pe_dget (hu_of hr) (pe_dget (hu_of hr) (pv 1) pe_str (fun _ _ => rfl)) (pe_ix (r := rIxT K) ix_tup (pv 2) pe_int (fun _ _ => rfl)) (fun _ _ => rfl))) (blkOk_by (own := [("row", 3)]) (N := ["shape", "data", "where", "row"]) (sc := defScope s_list_at) (by decide +kernel)) (fun _ _ _ _ _ => (pg_name (i := 3) sc_list_at.nd rfl (Or.inl rfl))) (fun _ _ _ _ _ => pts_nil) (fun _ _ _ _ _ => (pe_dget (hu_of hr) (pv 3) pe_str (fun _ _ => rfl)))) (by rfl)) (pe_ix (r := rIxT K) ix_tup (pv 2) pe_int (fun _ _ => rfl)) pe_non)))))), ?_⟩
    have ix : ∀ {j : Nat} {y : V} {H3 : Hp} {o : Option V}, Ex H H3 → xs[j]? = some y → Ev (tOp (rIxT K) (tVar 2) (tC (.int (j : Int)))) [some (.ref p), some v, some (.ref t), o] H3 y := fun e3 hy => Evl.ev_op (Evl.ev_var rfl) Evl.ev_c (Evl.rv_ixT (Evl.st_of (e3 _ _ ht)) (atI_nat hy))
    have len : ∀ {H1 : Hp} {o : Option V}, Ex H H1 → Ev (tCB (rLenA K) (tCons (tVar 2) tNil)) [some (.ref p), some v, some (.ref t), o] H1 (.int (xs.length : Int)) := fun e => ev_lenL (Evl.ev_var rfl) (.inr (Evl.st_of (e _ _ ht)))
    have isT : EvT (tNot (tB (tCB (rIsi K) (tCons (tVar 2) (tCons (tC (.ty "tuple")) tNil))))) [some (.ref p), some v, some (.ref t), none] H (!true) := Evl.et_not (Evl.et_B (ev_isi (ty := .type "tuple") (Evl.ev_var rfl) (fun H1 e1 => .base (.tup (e1 _ _ ht))) (kit_ty (by decide +kernel))))
    have few : ∀ {b : Bool}, (!inV (.int (xs.length : Int)) [.int 1, .int 3]) = b → EvT (tTest (tOp (rIn K true) (tCB (rLenA K) (tCons (tVar 2) tNil)) (tTup (tCons (tC (.int 1)) (tCons (tC (.int 3)) tNil))))) [some (.ref p), some v, some (.ref t), none] H b := fun hb =>
      Evl.et_is (Evl.et_test (Evl.ev_niU (len (Ex.refl _)) (Evl.eu_tup (Evl.ea_cons Evl.ev_c (Evl.ea_cons Evl.ev_c Evl.ea_nil)) (by show 2 ≤ 100000; decide)) rfl rfl)) hb
    rcases hat with ⟨rfl, hk⟩ | ⟨n1, id, rs, ids, rfl, hk1, hk2, hl1, l400, prs, hid, i0, i1⟩
    · refine Evl.q_when (b := !true || (false || false)) (Evl.et_or isT fun _ => Evl.et_or (few rfl) fun _ => ?_) (fun h => nomatch h) (fun _ H1 e1 => ?_)
      · refine Evl.et_test (Evl.ev_is (v := .bl (!decide (nm ∈ kids z none))) ?_ (by rw [decide_eq_true hk]; rfl))
        intro H1 e1 Q1 q1
        refine ix (j := 0) e1 rfl H1 (Ex.refl _) _ fun H2 e2 => ?_
        have e02 := e1.trans e2
        refine ⟨_, rfl, p, dx, _, rfl, e02 _ _ hp, shF_no _ _ (by decide +kernel) (by decide +kernel), p, fl, z, S', rfl, hS.ex e02, hz, fun H8 q8 nms e8 nq8 hq8 perm _ => ?_⟩
        refine ⟨q8, nms.map V.str, rfl, .inl (Evl.sq_of hq8), rfl, all_flat_str nms, ?_⟩
        rw [inV_str, show decide (nm ∈ nms) = decide (nm ∈ kids z none) by rw [Bool.eq_iff_iff, decide_eq_true_eq, decide_eq_true_eq]; exact perm.mem_iff]
        exact q1 H8 (e2.trans e8)
      · refine Evl.q_when (b := true) (Evl.et_is (Evl.et_test (Evl.ev_op (len e1) Evl.ev_c (Evl.rv_eq rfl))) (decide_eq_true rfl)) (fun _ H2 e2 => ?_) (fun h => nomatch h)
        exact Evl.s_ret (ix (j := 0) (e1.trans e2) rfl) fun H3 e3 => k H3 ((e1.trans e2).trans e3)
    · refine Evl.q_when (b := !true || (false || false)) (Evl.et_or isT fun _ => Evl.et_or (few rfl) fun _ => ?_) (fun h => nomatch h) (fun _ H1 e1 => ?_)
      · refine Evl.et_test (Evl.ev_is (v := .bl (!decide (n1 ∈ kids z none))) ?_ (by rw [decide_eq_true hk1]; rfl))
        intro H1 e1 Q1 q1
        refine ix (j := 0) e1 rfl H1 (Ex.refl _) _ fun H2 e2 => ?_
        have e02 := e1.trans e2
        refine ⟨_, rfl, p, dx, _, rfl, e02 _ _ hp, shF_no _ _ (by decide +kernel) (by decide +kernel), p, fl, z, S', rfl, hS.ex e02, hz, fun H8 q8 nms e8 nq8 hq8 perm _ => ?_⟩
        refine ⟨q8, nms.map V.str, rfl, .inl (Evl.sq_of hq8), rfl, all_flat_str nms, ?_⟩
        rw [inV_str, show decide (n1 ∈ nms) = decide (n1 ∈ kids z none) by rw [Bool.eq_iff_iff, decide_eq_true_eq, decide_eq_true_eq]; exact perm.mem_iff]
        exact q1 H8 (e2.trans e8)
      refine Evl.q_when (b := false) (Evl.et_is (Evl.et_test (Evl.ev_op (len e1) Evl.ev_c (Evl.rv_eq rfl))) (decide_eq_false (fun h => nomatch h))) (fun h => nomatch h) (fun _ H2 e2 => ?_)
      have e02 := e1.trans e2
      refine Evl.q_when (b := !true || false) (Evl.et_or (Evl.et_not (Evl.et_B (spV_ev (Evl.ea_cons (ix (j := 1) e02 rfl) (Evl.ea_cons Evl.ev_c (Evl.ea_cons Evl.ev_c Evl.ea_nil))) fun H3 _ => ⟨id, 0, 1000000, rfl, i0, i1⟩))) fun _ => ?_) (fun h => nomatch h) (fun _ H3 e3 => ?_)
      · refine Evl.et_test (Evl.ev_is (v := .bl (!decide (nm ∈ kids z (some n1)))) ?_ (by rw [decide_eq_true hk2]; rfl))
        intro H3 e3 Q3 q3
        have e03 := e02.trans e3
        refine ix (j := 2) e03 rfl H3 (Ex.refl _) _ fun H4 e4 => ?_
        have e04 := e03.trans e4
        refine ⟨_, rfl, p, dx, _, rfl, e04 _ _ hp, shF_no _ _ (by decide +kernel) (by decide +kernel), ?_⟩
        refine ix (j := 0) e04 rfl H4 (Ex.refl _) _ fun H5 e5 => ?_
        have e05 := e04.trans e5
        obtain ⟨r, hr1, _, hr2⟩ := kids_mem hk1
        refine ⟨p, fl, z, S', n1, rfl, hS.ex e05, hz, List.mem_map.mpr ⟨r, hr1, hr2⟩, fun H8 q8 nms e8 nq8 hq8 perm _ => ?_⟩
        refine ⟨q8, nms.map V.str, rfl, .inl (Evl.sq_of hq8), rfl, all_flat_str nms, ?_⟩
        rw [inV_str, show decide (nm ∈ nms) = decide (nm ∈ kids z (some n1)) by rw [Bool.eq_iff_iff, decide_eq_true_eq, decide_eq_true_eq]; exact perm.mem_iff]
        exact q3 H8 ((e4.trans e5).trans e8)
      · have e03 := e02.trans e3
        obtain ⟨n, rfl⟩ := rep_succ hv
        obtain ⟨dv, des, rfl, _, hdv, _, dpr⟩ := hv
        obtain ⟨vl, hvl, hrl⟩ := rep_entry dpr hls
        obtain ⟨n, rfl⟩ := rep_succ hrl
        obtain ⟨dl, les, rfl, _, hdl, _, lpr⟩ := hrl
        obtain ⟨vr, hvr, hrr⟩ := rep_entry lpr hl1
        obtain ⟨n, rfl⟩ := rep_succ hrr
        obtain ⟨c, zs, rfl, _, hc, _, rpr⟩ := hrr
        have lz := pair_len rpr
        have li := pair_len prs
        have lc : EvL (tLc (iList K (tDGet (tDGet (tVar 1) (tC (.str "lists"))) (tOp (rIxT K) (tVar 2) (tC (.int 0))))) (gName 3) tYes (tDGet (tVar 3) (tC (.str "id"))) [3]) [some (.ref p), some (.ref dv), some (.ref t), none] H3 ((List.range zs.length).map fun i => V.int (ids.getD i 0)) :=
          el_lcA (ev_get (ev_get (Evl.ev_var rfl) Evl.ev_c (.inl (e03 _ _ hdv)) hvl) (ix (j := 0) e03 rfl) (.inl (e03 _ _ hdl)) hvr) (Evl.sq_of (e03 _ _ hc)) (by omega) (fun _ => rfl) fun i x hx H4 e4 => by
            obtain ⟨row, hrow, hr⟩ := pair_back rpr hx
            obtain ⟨i', hi', lr, rfl, hlr⟩ := pair_at prs hrow
            obtain ⟨n, rfl⟩ := rep_succ hr
            obtain ⟨rd, res, rfl, _, hrd, _, rdp⟩ := hr
            obtain ⟨vi, hvi, hri⟩ := rep_entry rdp hlr
            obtain ⟨n, rfl⟩ := rep_succ hri
            have ei : vi = .int i' := hri
            subst ei
            have : ids.getD i 0 = i' := by rw [List.getD_eq_getElem?_getD, hi']; rfl
            rw [this]
            exact ev_get (Evl.ev_var rfl) Evl.ev_c (.inl ((e03.trans e4) _ _ hrd)) hvi
        rw [map_range (g := V.int) (l := ids) (by omega) fun i a ha => by rw [List.getD_eq_getElem?_getD, ha]; rfl] at lc
        refine Evl.s_ret (Evl.ev_if (b := true) (Evl.et_is (Evl.et_test (Evl.ev_opL (ix (j := 1) e03 rfl) lc fun q H4 hq e4 => Evl.rv_isL (Evl.sq_of hq) rfl (by rw [List.all_map]; exact List.all_eq_true.mpr fun _ _ => rfl))) (by rw [inV_int]; exact decide_eq_true hid)) (fun _ => ix (j := 2) e03 rfl) (fun h => nomatch h)) fun H4 e4 => k H4 (e03.trans e4)
end
end Pk

namespace Pk
open PySem PySem.Spec PyProof.Rows L2 Ssb
open Evl (Ex Ev EvT EvL EvA EvU)
/-! ### the rows that a deed speaks of, at their place -/
/-- u stands under k in the dict v -/
def Kid (H : Hp) (v : V) (k : Str) (u : V) : Prop := ∃ (a : Addr) (es : List (Key × V)), v = .ref a ∧ H a = some (.dK es) ∧ valV es (Sum.inr k : Key) = some u
theorem Kid.ex {H H' : Hp} {v u : V} {k : Str} (e : Ex H H') (h : Kid H v k u) : Kid H' v k u := let ⟨a, es, h1, h2, h3⟩ := h; ⟨a, es, h1, e _ _ h2, h3⟩
theorem ev_kid {σ : L2.St} {H : Hp} {ta tb : TE} {v u : V} {k : Str} (h : Ev ta σ H v) (hk : Ev tb σ H (.str k)) (hx : Kid H v k u) : Ev (tDGet ta tb) σ H u := by
  obtain ⟨a, es, rfl, h1, h2⟩ := hx
  exact ev_get h hk (.inl h1) h2
/-- the way to the rows -/
def RowsP (H : Hp) (v : V) (xs : List V) (u : V) : Prop :=
  (∃ nm w, xs = [.str nm] ∧ Kid H v "lists" w ∧ Kid H w nm u) ∨
  ∃ (n1 nm : Str) (m : Int) (w : V) (c : Addr) (zs : List V) (i : Nat) (row w2 : V), xs = [.str n1, .int m, .str nm] ∧ Kid H v "lists" w ∧ Kid H w n1 (.ref c) ∧ H c = some (.lst zs) ∧ zs.length ≤ 400 ∧ zs[i]? = some row ∧
    (∀ (j : Nat) (r : V), zs[j]? = some r → ∃ q : Int, Kid H r "id" (.int q) ∧ (q = m ↔ j = i)) ∧ Kid H row "lists" w2 ∧ Kid H w2 nm u
theorem given_one {i : Nat} {v : Nat → V} : ∀ {n : Nat}, Evl.given n (fun j => decide (j = i)) v = if i < n then [v i] else []
  | 0 => rfl
  | n + 1 => by
    by_cases c : n = i
    · rw [Evl.given_yes (decide_eq_true c), given_one, if_neg (by omega), if_pos (by omega), c]; rfl
    · rw [Evl.given_no (decide_eq_false c), given_one]
      by_cases d : i < n
      · rw [if_pos d, if_pos (by omega)]
      · rw [if_neg d, if_neg (by omega)]
section
variable {P : Program} {w : World} {K : PySem.W.Frag} {mg : Str → Option Value} {base : Heap} {C_Shape C_FORMS : Addr}
def spRA : Sp := fun vs H Q _ => ∃ (v u : V) (t : Addr) (xs : List V), vs = [v, .ref t] ∧ H t = some (.tup xs) ∧ RowsP H v xs u ∧ ∀ H', Ex H H' → Q u H'
theorem ok_rows_at (T : Txt K mg C_Shape C_FORMS) (R : Prg K mg C_Shape C_FORMS) : ∃ f fd, Fn P w K mg base "rows_at" 1 ["data", "where"] spRA f fd := by
  obtain ⟨f, fd, at_, F, kp⟩ := R.rows_at
  refine ⟨f, fd, F.ok sc_rows_at (fun vs H Q E h => ?_) (fun cdv A outer s H vs Q E hr h => ?_), at_, kp, F.binds (fun _ _ _ _ _ _ us hl => match us, hl with | [_, _], _ => rfl)⟩
  · obtain ⟨v, u, t, xs, rfl, _⟩ := h; rfl
  · obtain ⟨v, u, t, xs, rfl, ht, hp, k⟩ := h
    refine ⟨_, (pss_cons (ps_set (i := 2) sc_rows_at.nd rfl (Or.inl rfl) (pe_dget (hu_of hr) (pe_dget (hu_of hr) (pv 0) pe_str (fun _ _ => rfl)) (pe_ix (r := rIxT K) ix_tup (pv 1) pe_int (fun _ _ => rfl)) (fun _ _ => rfl)))
  (pss_cons (ps_if (pt_cmpR op_eq (pe_callB (r := rLenA K) call_len (by rfl) T.len (by decide +kernel) (pa_cons (pv 1) pa_nil)) pe_int (nomark _)) (pss_one (ps_ret (pv 2))) pss_nil)
  (pss_one (ps_ret (pe_dget (hu_of hr) (pe_dget (hu_of hr) (pe_ix (r := rIxL K) ix_list (pe_lc (own := [("row", 3)]) rfl sc_rows_at.nd (show PI _ _ _ (iList K _) from pi_list (pv 2)) (blkOk_by (own := [("row", 3)]) (N := ["data", "where", "rows", "row"]) (sc := defScope s_rows_at) (by decide +kernel)) (fun _ _ _ _ _ => (pg_name (i := 3) sc_rows_at.nd rfl (Or.inl rfl))) (fun _ _ _ _ _ => (pts_one (pt_cmpR op_eq (pe_dget (hu_of hr) (pv 3) pe_str (fun _ _ => rfl)) (pe_ix (r := rIxT K) ix_tup (pv 1) pe_int (fun _ _ => rfl)) (nomark _)))) (fun _ _ _ _ _ => (pv 3))) pe_int (fun _ _ => rfl)) pe_str (fun _ _ => rfl)) (pe_ix (r := rIxT K) ix_tup (pv 1) pe_int (fun _ _ => rfl)) (fun _ _ => rfl)))))), ?_⟩
    have ix : ∀ {j : Nat} {y : V} {H3 : Hp} {o2 o3 : Option V}, Ex H H3 → xs[j]? = some y → Ev (tOp (rIxT K) (tVar 1) (tC (.int (j : Int)))) [some v, some (.ref t), o2, o3] H3 y := fun e3 hy => Evl.ev_op (Evl.ev_var rfl) Evl.ev_c (Evl.rv_ixT (Evl.st_of (e3 _ _ ht)) (atI_nat hy))
    have len : ∀ {H1 : Hp} {o2 o3 : Option V}, Ex H H1 → Ev (tCB (rLenA K) (tCons (tVar 1) tNil)) [some v, some (.ref t), o2, o3] H1 (.int (xs.length : Int)) := fun e => ev_lenL (Evl.ev_var rfl) (.inr (Evl.st_of (e _ _ ht)))
    rcases hp with ⟨nm, w', rfl, h1, h2⟩ | ⟨n1, nm, m, w', c, zs, i, row, w2, rfl, h1, h2, hc, l400, hi, hids, h3, h4⟩
    · refine Evl.q_asg (ev_kid (ev_kid (Evl.ev_var rfl) Evl.ev_c h1) (ix (j := 0) (Ex.refl _) rfl) h2) fun H1 e1 => ?_
      refine Evl.q_when (b := true) (Evl.et_is (Evl.et_test (Evl.ev_op (len e1) Evl.ev_c (Evl.rv_eq rfl))) (decide_eq_true rfl)) (fun _ H2 e2 => ?_) (fun h => nomatch h)
      exact Evl.s_ret (Evl.ev_var rfl) fun H3 e3 => k H3 ((e1.trans e2).trans e3)
    · refine Evl.q_asg (ev_kid (ev_kid (Evl.ev_var rfl) Evl.ev_c h1) (ix (j := 0) (Ex.refl _) rfl) h2) fun H1 e1 => ?_
      refine Evl.q_when (b := false) (Evl.et_is (Evl.et_test (Evl.ev_op (len e1) Evl.ev_c (Evl.rv_eq rfl))) (decide_eq_false (fun h => nomatch h))) (fun h => nomatch h) (fun _ H2 e2 => ?_)
      have e02 := e1.trans e2
      have il := (List.getElem?_eq_some_iff.mp hi).1
      have lc := Evl.el_lcL (K := K) (σ := [some v, some (.ref t), some (.ref c), none]) (H := H2) (tl := tVar 2) (te := tVar 3) (t := tTest (tOp rEq (tDGet (tVar 3) (tC (.str "id"))) (tOp (rIxT K) (tVar 1) (tC (.int 1))))) (vs := [3]) (j := 3) (fun j => decide (j = i)) (fun j => zs.getD j .non) (Evl.ev_var rfl) (Evl.sq_of (e02 _ _ hc)) (by omega) (fun _ => rfl) (fun j x H3 e3 hx => by
        obtain ⟨q, hq, hqi⟩ := hids j x hx
        exact Evl.et_is (Evl.et_test (Evl.ev_op (ev_kid (Evl.ev_var rfl) Evl.ev_c (hq.ex (e02.trans e3))) (ix (j := 1) (e02.trans e3) rfl) (Evl.rv_eq rfl))) (by rw [Bool.eq_iff_iff, decide_eq_true_eq, decide_eq_true_eq, V.int.injEq]; exact hqi)) (fun j x H3 e3 hx _ => by
        have : zs.getD j .non = x := by rw [List.getD_eq_getElem?_getD, hx]; rfl
        rw [this]; exact Evl.ev_var rfl)
      rw [given_one, if_pos il, show zs.getD i .non = row by rw [List.getD_eq_getElem?_getD, hi]; rfl] at lc
      exact Evl.s_ret (ev_kid (ev_kid (Evl.ev_opL1 lc (fun _ _ => Evl.ev_c) fun p H3 hp3 e3 => Evl.rv_ixL (Evl.sq_of hp3) (atI_nat (j := 0) rfl)) Evl.ev_c (h3.ex e02)) (ix (j := 2) e02 rfl) (h4.ex e02)) fun H3 e3 => k H3 (e02.trans e3)
theorem ok__law_list_at (T : Txt K mg C_Shape C_FORMS) (R : Prg K mg C_Shape C_FORMS) : ∃ f fd, Fn P w K mg base "_law_list_at" 1 ["_law_data_here", "_law_where"] spRA f fd := by
  obtain ⟨f, fd, at_, F, kp⟩ := R._law_list_at
  refine ⟨f, fd, F.ok sc__law_list_at (fun vs H Q E h => ?_) (fun cdv A outer s H vs Q E hr h => ?_), at_, kp, F.binds (fun _ _ _ _ _ _ us hl => match us, hl with | [_, _], _ => rfl)⟩
  · obtain ⟨v, u, t, xs, rfl, _⟩ := h; rfl
  · obtain ⟨v, u, t, xs, rfl, ht, hp, k⟩ := h
    refine ⟨_, (pss_cons (ps_set (i := 2) sc__law_list_at.nd rfl (Or.inl rfl) (pe_dget (hu_of hr) (pe_dget (hu_of hr) (pv 0) pe_str (fun _ _ => rfl)) (pe_ix (r := rIxT K) ix_tup (pv 1) pe_int (fun _ _ => rfl)) (fun _ _ => rfl)))
  (pss_cons (ps_if (pt_cmpR op_eq (pe_callB (r := rLenA K) call_len (by rfl) T.len (by decide +kernel) (pa_cons (pv 1) pa_nil)) pe_int (nomark _)) (pss_one (ps_ret (pv 2))) pss_nil)
  (pss_one (ps_ret (pe_dget (hu_of hr) (pe_dget (hu_of hr) (pe_ix (r := rIxL K) ix_list (pe_lc (own := [("_law_row", 3)]) rfl sc__law_list_at.nd (show PI _ _ _ (iList K _) from pi_list (pv 2)) (blkOk_by (own := [("_law_row", 3)]) (N := ["_law_data_here", "_law_where", "_law_rows_here", "_law_row"]) (sc := defScope s__law_list_at) (by decide +kernel)) (fun _ _ _ _ _ => (pg_name (i := 3) sc__law_list_at.nd rfl (Or.inl rfl))) (fun _ _ _ _ _ => (pts_one (pt_cmpR op_eq (pe_dget (hu_of hr) (pv 3) pe_str (fun _ _ => rfl)) (pe_ix (r := rIxT K) ix_tup (pv 1) pe_int (fun _ _ => rfl)) (nomark _)))) (fun _ _ _ _ _ => (pv 3))) pe_int (fun _ _ => rfl)) pe_str (fun _ _ => rfl)) (pe_ix (r := rIxT K) ix_tup (pv 1) pe_int (fun _ _ => rfl)) (fun _ _ => rfl)))))), ?_⟩
    have ix : ∀ {j : Nat} {y : V} {H3 : Hp} {o2 o3 : Option V}, Ex H H3 → xs[j]? = some y → Ev (tOp (rIxT K) (tVar 1) (tC (.int (j : Int)))) [some v, some (.ref t), o2, o3] H3 y := fun e3 hy => Evl.ev_op (Evl.ev_var rfl) Evl.ev_c (Evl.rv_ixT (Evl.st_of (e3 _ _ ht)) (atI_nat hy))
    have len : ∀ {H1 : Hp} {o2 o3 : Option V}, Ex H H1 → Ev (tCB (rLenA K) (tCons (tVar 1) tNil)) [some v, some (.ref t), o2, o3] H1 (.int (xs.length : Int)) := fun e => ev_lenL (Evl.ev_var rfl) (.inr (Evl.st_of (e _ _ ht)))
    rcases hp with ⟨nm, w', rfl, h1, h2⟩ | ⟨n1, nm, m, w', c, zs, i, row, w2, rfl, h1, h2, hc, l400, hi, hids, h3, h4⟩
    · refine Evl.q_asg (ev_kid (ev_kid (Evl.ev_var rfl) Evl.ev_c h1) (ix (j := 0) (Ex.refl _) rfl) h2) fun H1 e1 => ?_
      refine Evl.q_when (b := true) (Evl.et_is (Evl.et_test (Evl.ev_op (len e1) Evl.ev_c (Evl.rv_eq rfl))) (decide_eq_true rfl)) (fun _ H2 e2 => ?_) (fun h => nomatch h)
      exact Evl.s_ret (Evl.ev_var rfl) fun H3 e3 => k H3 ((e1.trans e2).trans e3)
    · refine Evl.q_asg (ev_kid (ev_kid (Evl.ev_var rfl) Evl.ev_c h1) (ix (j := 0) (Ex.refl _) rfl) h2) fun H1 e1 => ?_
      refine Evl.q_when (b := false) (Evl.et_is (Evl.et_test (Evl.ev_op (len e1) Evl.ev_c (Evl.rv_eq rfl))) (decide_eq_false (fun h => nomatch h))) (fun h => nomatch h) (fun _ H2 e2 => ?_)
      have e02 := e1.trans e2
      have il := (List.getElem?_eq_some_iff.mp hi).1
      have lc := Evl.el_lcL (K := K) (σ := [some v, some (.ref t), some (.ref c), none]) (H := H2) (tl := tVar 2) (te := tVar 3) (t := tTest (tOp rEq (tDGet (tVar 3) (tC (.str "id"))) (tOp (rIxT K) (tVar 1) (tC (.int 1))))) (vs := [3]) (j := 3) (fun j => decide (j = i)) (fun j => zs.getD j .non) (Evl.ev_var rfl) (Evl.sq_of (e02 _ _ hc)) (by omega) (fun _ => rfl) (fun j x H3 e3 hx => by
        obtain ⟨q, hq, hqi⟩ := hids j x hx
        exact Evl.et_is (Evl.et_test (Evl.ev_op (ev_kid (Evl.ev_var rfl) Evl.ev_c (hq.ex (e02.trans e3))) (ix (j := 1) (e02.trans e3) rfl) (Evl.rv_eq rfl))) (by rw [Bool.eq_iff_iff, decide_eq_true_eq, decide_eq_true_eq, V.int.injEq]; exact hqi)) (fun j x H3 e3 hx _ => by
        have : zs.getD j .non = x := by rw [List.getD_eq_getElem?_getD, hx]; rfl
        rw [this]; exact Evl.ev_var rfl)
      rw [given_one, if_pos il, show zs.getD i .non = row by rw [List.getD_eq_getElem?_getD, hi]; rfl] at lc
      exact Evl.s_ret (ev_kid (ev_kid (Evl.ev_opL1 lc (fun _ _ => Evl.ev_c) fun p H3 hp3 e3 => Evl.rv_ixL (Evl.sq_of hp3) (atI_nat (j := 0) rfl)) Evl.ev_c (h3.ex e02)) (ix (j := 2) e02 rfl) (h4.ex e02)) fun H3 e3 => k H3 (e02.trans e3)
end
end Pk

namespace Pk
open PySem PySem.Spec PyProof.Rows L2 Ssb
open Evl (Ex Ev EvT EvL EvA EvU)
def Tr (R : (Addr → Prop) → D → V → Prop) (S : Addr → Prop) (a : Addr) (ix : Addr → Nat) (l : List D) (xs : List V) : Prop := l.length = xs.length ∧ ∀ (i : Nat) (d : D) (x : V), l[i]? = some d → xs[i]? = some x → R (fun b => (S b ∧ b ≠ a) ∧ ix b = i) d x
def RepT (H : Hp) : Nat → (Addr → Prop) → D → V → Prop
  | 0, _, _, _ => False
  | _ + 1, _, .non, v => v = .non
  | _ + 1, _, .bl b, v => v = .bl b
  | _ + 1, _, .int i, v => v = .int i
  | _ + 1, _, .str s, v => v = .str s
  | n + 1, S, .lst l, v => ∃ a xs ix, v = .ref a ∧ S a ∧ H a = some (.lst xs) ∧ l.length ≤ 100000 ∧ Tr (fun S d v => RepT H n S d v) S a ix l xs
  | _ + 1, _, .tup _, _ => False
  | n + 1, S, .dic l, v => ∃ a es ix, v = .ref a ∧ S a ∧ H a = some (.dK es) ∧ l.length ≤ 100000 ∧ es.map (·.1) = l.map (fun q => (Sum.inr q.1 : Key)) ∧ Tr (fun S d v => RepT H n S d v) S a ix (l.map (·.2)) (es.map (·.2))
theorem tr_imp {R R' : (Addr → Prop) → D → V → Prop} {S S' : Addr → Prop} {a : Addr} {ix : Addr → Nat} {l : List D} {xs : List V} (h : ∀ i d x, R (fun b => (S b ∧ b ≠ a) ∧ ix b = i) d x → R' (fun b => (S' b ∧ b ≠ a) ∧ ix b = i) d x) (t : Tr R S a ix l xs) : Tr R' S' a ix l xs := ⟨t.1, fun i d x h1 h2 => h i d x (t.2 i d x h1 h2)⟩
theorem rt_to {H H' : Hp} : ∀ {n : Nat} {S : Addr → Prop} {d : D} {v : V}, (∀ b o, S b → H b = some o → H' b = some o) → RepT H n S d v → RepT H' n S d v
  | 0, _, _, _, _, h => h.elim
  | n + 1, S, d, v, k, h => by
    cases d with
    | non => exact h
    | bl b => exact h
    | int i => exact h
    | str s => exact h
    | tup l => exact h.elim
    | lst l =>
      obtain ⟨a, xs, ix, e, s, ha, hl, p⟩ := h
      exact ⟨a, xs, ix, e, s, k a _ s ha, hl, tr_imp (fun i d x r => rt_to (fun b o hb h => k b o hb.1.1 h) r) p⟩
    | dic l =>
      obtain ⟨a, es, ix, e, s, ha, hl, hk, p⟩ := h
      exact ⟨a, es, ix, e, s, k a _ s ha, hl, hk, tr_imp (fun i d x r => rt_to (fun b o hb h => k b o hb.1.1 h) r) p⟩
theorem rt_ex {H H' : Hp} {n : Nat} {S : Addr → Prop} {d : D} {v : V} (e : Ex H H') (h : RepT H n S d v) : RepT H' n S d v := rt_to (fun b o _ hb => e b o hb) h
theorem rt_S {H : Hp} : ∀ {n : Nat} {S S' : Addr → Prop} {d : D} {v : V}, (∀ b, S b → S' b) → RepT H n S d v → RepT H n S' d v
  | 0, _, _, _, _, _, h => h.elim
  | n + 1, S, S', d, v, k, h => by
    cases d with
    | non => exact h
    | bl b => exact h
    | int i => exact h
    | str s => exact h
    | tup l => exact h.elim
    | lst l =>
      obtain ⟨a, xs, ix, e, s, ha, hl, p⟩ := h
      exact ⟨a, xs, ix, e, k a s, ha, hl, tr_imp (fun i d x r => rt_S (fun b hb => ⟨⟨k b hb.1.1, hb.1.2⟩, hb.2⟩) r) p⟩
    | dic l =>
      obtain ⟨a, es, ix, e, s, ha, hl, hk, p⟩ := h
      exact ⟨a, es, ix, e, k a s, ha, hl, hk, tr_imp (fun i d x r => rt_S (fun b hb => ⟨⟨k b hb.1.1, hb.1.2⟩, hb.2⟩) r) p⟩
theorem rt_dom {H : Hp} : ∀ {n : Nat} {S : Addr → Prop} {d : D} {v : V}, RepT H n S d v → RepT H n (fun b => S b ∧ H b ≠ none) d v
  | 0, _, _, _, h => h.elim
  | n + 1, S, d, v, h => by
    cases d with
    | non => exact h
    | bl b => exact h
    | int i => exact h
    | str s => exact h
    | tup l => exact h.elim
    | lst l =>
      obtain ⟨a, xs, ix, e, s, ha, hl, p⟩ := h
      exact ⟨a, xs, ix, e, ⟨s, by rw [ha]; exact fun z => nomatch z⟩, ha, hl, tr_imp (fun i d x r => rt_S (fun b hb => ⟨⟨⟨hb.1.1.1, hb.2⟩, hb.1.1.2⟩, hb.1.2⟩) (rt_dom r)) p⟩
    | dic l =>
      obtain ⟨a, es, ix, e, s, ha, hl, hk, p⟩ := h
      exact ⟨a, es, ix, e, ⟨s, by rw [ha]; exact fun z => nomatch z⟩, ha, hl, hk, tr_imp (fun i d x r => rt_S (fun b hb => ⟨⟨⟨hb.1.1.1, hb.2⟩, hb.1.1.2⟩, hb.1.2⟩) (rt_dom r)) p⟩
theorem rt_Sd {H : Hp} {n : Nat} {S S' : Addr → Prop} {d : D} {v : V} (k : ∀ b, S b → H b ≠ none → S' b) (h : RepT H n S d v) : RepT H n S' d v := rt_S (fun b z => k b z.1 z.2) (rt_dom h)
theorem pair_of {α β : Type} {F : α → β → Prop} : ∀ {l : List α} {m : List β}, l.length = m.length → (∀ (i : Nat) (a : α) (b : β), l[i]? = some a → m[i]? = some b → F a b) → Paired F l m
  | [], [], _, _ => .nil
  | [], _ :: _, h, _ => nomatch h
  | _ :: _, [], h, _ => nomatch h
  | a :: l, b :: m, h, k => .cons (k 0 a b rfl rfl) (pair_of (Nat.succ.inj h) fun i x y h1 h2 => k (i + 1) x y h1 h2)
theorem rt_rep {H : Hp} : ∀ {n : Nat} {S : Addr → Prop} {d : D} {v : V}, RepT H n S d v → Rep H n S d v
  | 0, _, _, _, h => h.elim
  | n + 1, S, d, v, h => by
    cases d with
    | non => exact h
    | bl b => exact h
    | int i => exact h
    | str s => exact h
    | tup l => exact h.elim
    | lst l =>
      obtain ⟨a, xs, ix, e, s, ha, hl, p⟩ := h
      exact ⟨a, xs, e, s, ha, hl, pair_of p.1 fun i d x h1 h2 => rep_S (fun b hb => hb.1.1) (rt_rep (p.2 i d x h1 h2))⟩
    | dic l =>
      obtain ⟨a, es, ix, e, s, ha, hl, hk, p⟩ := h
      have le : l.length = es.length := by have := p.1; rw [List.length_map, List.length_map] at this; exact this
      refine ⟨a, es, e, s, ha, hl, pair_of le fun i q en h1 h2 => ⟨?_, rep_S (fun b hb => hb.1) (rt_rep (p.2 i q.2 en.2 (by rw [List.getElem?_map, h1]; rfl) (by rw [List.getElem?_map, h2]; rfl)))⟩⟩
      have := congrArg (fun l => l[i]?) hk
      simp only [List.getElem?_map, h1, h2] at this
      exact Option.some.inj this
/-- one more part, younger than Hk -/
theorem tr_snoc {R : (Addr → Prop) → D → V → Prop} {S : Addr → Prop} {a : Addr} {ix : Addr → Nat} {l : List D} {xs : List V} {Hk : Hp} {d : D} {x : V} (mono : ∀ S S' d x, (∀ b, S b → S' b) → R S d x → R S' d x)
    (t : Tr R (fun b => S b ∧ Hk b ≠ none) a ix l xs) (h : R (fun b => (S b ∧ b ≠ a) ∧ Hk b = none) d x) : ∃ ix', Tr R S a ix' (l ++ [d]) (xs ++ [x]) := by
  refine ⟨fun b => if (Hk b).isNone = true then l.length else ix b, by rw [List.length_append, List.length_append, t.1]; rfl, fun i d' x' h1 h2 => ?_⟩
  by_cases hi : i < l.length
  · rw [List.getElem?_append_left hi] at h1
    rw [List.getElem?_append_left (by rw [← t.1]; exact hi)] at h2
    refine mono _ _ _ _ (fun b hb => ⟨⟨hb.1.1.1, hb.1.2⟩, ?_⟩) (t.2 i d' x' h1 h2)
    have : ¬ (Hk b).isNone = true := by
      cases e : Hk b with
      | none => exact absurd e hb.1.1.2
      | some o => exact fun z => nomatch z
    show (if (Hk b).isNone = true then l.length else ix b) = i
    rw [if_neg this]; exact hb.2
  · rw [List.getElem?_append_right (by omega)] at h1
    rw [List.getElem?_append_right (by rw [← t.1]; omega)] at h2
    have ei : i = l.length := by
      cases hc : i - l.length with
      | zero => omega
      | succ m => rw [hc] at h1; cases h1
    subst ei
    rw [Nat.sub_self] at h1
    rw [← t.1, Nat.sub_self] at h2
    cases h1
    cases h2
    refine mono _ _ _ _ (fun b hb => ⟨hb.1, ?_⟩) h
    show (if (Hk b).isNone = true then l.length else ix b) = l.length
    rw [if_pos (by rw [hb.2]; rfl)]
theorem rt_upd {H : Hp} {n : Nat} {S : Addr → Prop} {d : D} {v : V} {a : Addr} {u : HO} (hS : ∀ b, S b → b ≠ a) (h : RepT H n S d v) : RepT (upd H a u) n S d v :=
  rt_to (fun b o hb h => by rw [upd_ne (hS b hb)]; exact h) h
theorem tr_nil {R : (Addr → Prop) → D → V → Prop} {S : Addr → Prop} {a : Addr} {ix : Addr → Nat} : Tr R S a ix [] [] := ⟨rfl, fun _ _ _ h => by simp at h⟩
theorem tr_step {H' H3 : Hp} {n : Nat} {S : Addr → Prop} {Dl : Addr} {o0 o : HO} {ix : Addr → Nat} {l : List D} {ys : List V} {d : D} {v3 : V} (e3 : Ex H' H3) (hDl : H' Dl = some o0) (back : ∀ b, H' b = none → S b)
    (t : Tr (fun S d v => RepT H' n S d v) S Dl ix l ys) (h : RepT H3 n (fun b => H' b = none) d v3) : ∃ ix', Tr (fun S d v => RepT (upd H3 Dl o) n S d v) S Dl ix' (l ++ [d]) (ys ++ [v3]) := by
  refine tr_snoc (Hk := H') (ix := ix) (fun S S' d x k r => rt_S k r) (tr_imp (fun i d x r => ?_) t) ?_
  · exact rt_S (fun b hb => ⟨⟨⟨hb.1.1.1, hb.2⟩, hb.1.1.2⟩, hb.1.2⟩) (rt_upd (fun b hb => hb.1.1.2) (rt_ex e3 (rt_dom r)))
  · have nD : ∀ b, H' b = none → b ≠ Dl := fun b hb z => by rw [z, hDl] at hb; cases hb
    exact rt_S (fun b hb => ⟨⟨back b hb, nD b hb⟩, hb⟩) (rt_upd nD h)
theorem List.map_map_inr {α : Type} {l : List (Str × α)} : (l.map (·.1)).map (Sum.inr : Str → Key) = l.map fun q => (Sum.inr q.1 : Key) := by rw [List.map_map]; rfl
section
variable {P : Program} {w : World} {K : PySem.W.Frag} {mg : Str → Option Value} {base : Heap} {C_Shape C_FORMS : Addr}
def spCopyT (n : Nat) : Sp := fun vs H Q _ => ∃ (v : V) (P : Addr → Prop) (d : D), vs = [v] ∧ Rep H n P d v ∧ pl n d ∧ ∀ H' v', Ex H H' → RepT H' n (fun b => H b = none) d v' → Q v' H'
theorem ok__law_copyT (T : Txt K mg C_Shape C_FORMS) (R : Prg K mg C_Shape C_FORMS) : ∀ n, ∃ f fd, Fn P w K mg base "_law_copy" (n + 1) ["_law_value"] (spCopyT n) f fd
  | 0 => by
    obtain ⟨f, fd, at_, F, kp⟩ := R._law_copy
    refine ⟨f, fd, F.ok sc__law_copy (fun vs H Q E h => ?_) (fun cdv A outer s H vs Q E hr h => ?_), at_, kp, F.binds (fun _ _ _ _ _ _ us hl => match us, hl with | [_], _ => rfl)⟩
    · obtain ⟨v, P, d, rfl, _⟩ := h; rfl
    · obtain ⟨v, P, d, rfl, h, _⟩ := h; exact h.elim
  | n + 1 => by
    obtain ⟨_, _, G__law_copy⟩ := ok__law_copyT T R n
    obtain ⟨f, fd, at_, F, kp⟩ := R._law_copy
    refine ⟨f, fd, F.ok sc__law_copy (fun vs H Q E h => ?_) (fun cdv A outer s H vs Q E hr h => ?_), at_, kp, F.binds (fun _ _ _ _ _ _ us hl => match us, hl with | [_], _ => rfl)⟩
    · obtain ⟨v, P, d, rfl, _⟩ := h; rfl
    · obtain ⟨v, PP, d, rfl, hv, hkn, k⟩ := h
      refine ⟨_, (pss_cons (ps_if (pt_val (pe_callB (r := rIsi K) call_isi (by rfl) T.isinstance (by decide +kernel) (pa_cons (pv 0) (pa_cons (pe_bltn (v := .ty "list") (by rfl) T.list boot_list rfl) pa_nil)))) (pss_one (ps_ret (pe_lc (own := [("_law_part", 3)]) rfl sc__law_copy.nd (show PI _ _ _ (iList K _) from pi_list (pv 0)) (blkOk_by (own := [("_law_part", 3)]) (N := ["_law_value", "_law_result", "_law_name", "_law_part"]) (sc := defScope s__law_copy) (by decide +kernel)) (fun _ _ _ _ _ => (pg_name (i := 3) sc__law_copy.nd rfl (Or.inl rfl))) (fun _ _ _ _ _ => pts_nil) (fun _ _ _ _ _ => (pcl G__law_copy hr (pa_cons (pv 3) pa_nil)))))) pss_nil)
  (pss_cons (ps_if (pt_val (pe_callB (r := rIsi K) call_isi (by rfl) T.isinstance (by decide +kernel) (pa_cons (pv 0) (pa_cons (pe_bltn (v := .ty "tuple") (by rfl) T.tuple boot_tuple rfl) pa_nil)))) (pss_one (ps_ret (pe_callTy (r := rTupA K) call_tuple_of (by rfl) T.tuple (by decide +kernel) (pa_cons (pe_lc (own := [("_law_part", 3)]) rfl sc__law_copy.nd (show PI _ _ _ (iTup K _) from pi_tup (pv 0)) (blkOk_by (own := [("_law_part", 3)]) (N := ["_law_value", "_law_result", "_law_name", "_law_part"]) (sc := defScope s__law_copy) (by decide +kernel)) (fun _ _ _ _ _ => (pg_name (i := 3) sc__law_copy.nd rfl (Or.inl rfl))) (fun _ _ _ _ _ => pts_nil) (fun _ _ _ _ _ => (pcl G__law_copy hr (pa_cons (pv 3) pa_nil)))) pa_nil)))) pss_nil)
  (pss_cons (ps_if (pt_val (pe_callB (r := rIsi K) call_isi (by rfl) T.isinstance (by decide +kernel) (pa_cons (pv 0) (pa_cons (pe_bltn (v := .ty "dict") (by rfl) T.dict boot_dict rfl) pa_nil)))) (pss_cons (ps_set (i := 1) sc__law_copy.nd rfl (Or.inl rfl) pe_dnewK)
  (pss_cons (ps_lock (ps_for PassesOwn.never rfl (pi_keys (pv 0)) (pg_name (i := 2) sc__law_copy.nd rfl (Or.inl rfl))
    (pss_one (ps_dput (hu_of hr) (pv 1) (pv 2) (pcl G__law_copy hr (pa_cons (pe_dget (hu_of hr) (pv 0) (pv 2) (fun _ _ => rfl)) pa_nil)) rfl))))
  (pss_one (ps_ret (pv 1))))) pss_nil)
  (pss_one (ps_ret (pv 0)))))), ?_⟩
      -- a part of a list or a tuple
      have kidL : ∀ {l : List D} {xs : List V} {H1 : Hp} {Q2 : VK} {J : It}, Walk J xs.length (fun H' => Ex H1 H') (YAt xs) → xs.length ≤ 100000 → Paired (fun d x => Rep H1 n PP d x) l xs → (∀ x ∈ l, pl n x) → (∀ H' Dl ys ix, H1 Dl = none → Ex H1 H' → H' Dl = some (.lst ys) → Tr (fun S d v => RepT H' n S d v) (fun b => H1 b = none) Dl ix l ys → Q2 (.ref Dl) H') →
          ∀ Dl, H1 Dl = none → ∃ W : Nat → Nat → Hp → Prop, (∃ m, W 0 m (upd H1 Dl (.lst []))) ∧ ∀ i m H, W i m H → (J.stop i H ∧ Q2 (.ref Dl) H) ∨ (J.go i H ∧ ∃ Nx : Hp → Prop, (∀ H', Nx H' → ∃ m', m' < m ∧ W (i + 1) m' H') ∧ ∀ x H', J.yld i H x H' → gName 3 x (wipe [some v, none, none, none] [3]) H' fun σ2 H2 => wipe σ2 [3] = wipe [some v, none, none, none] [3] ∧ tYes σ2 H2 fun b H3 =>
            if b = true then tCall (spCopyT n) [] E0 (tCons (tVar 3) tNil) σ2 H3 fun y H4 => ∃ acc, H4 Dl = some (.lst acc) ∧ acc.length < sizeLine ∧ Nx (upd H4 Dl (.lst (acc ++ [y]))) else Nx H3) := by
        intro l xs H1 Q2 J wk l5 pr hk q Dl hD
        refine lc_it wk (fun i H' => Ex H1 H' ∧ ∃ ys ix, H' Dl = some (.lst ys) ∧ Tr (fun S d v => RepT H' n S d v) (fun b => H1 b = none) Dl ix (l.take i) ys) ⟨Ex.new hD, [], fun _ => 0, upd_same, tr_nil⟩ (fun i H' _ p => p.1) (fun i x H0 H' hi pv y => ?_) fun H' pv => ?_
        · obtain ⟨e, ys, ix, hys, pys⟩ := pv
          obtain ⟨rfl, hx⟩ := y
          obtain ⟨dx, hdx, hrx⟩ := pair_back pr hx
          refine ⟨rfl, ?_⟩
          refine yes_go ?_
          refine ⟨_, rfl, x, PP, dx, rfl, rep_ex e hrx, hk _ (List.mem_of_getElem? hdx), fun H3 v3 e3 hr3 => ⟨ys, e3 _ _ hys, ?_, ?_⟩⟩
          · rw [← pys.1, List.length_take]; exact Evl.sz_lt (by omega)
          · obtain ⟨ix', t'⟩ := tr_step (o := .lst (ys ++ [v3])) e3 hys (fun b hb => Evl.fresh_back e hb) pys hr3
            rw [take_snoc hdx]
            exact ⟨Ex.mut (e.trans e3) hD, ys ++ [v3], ix', upd_same, t'⟩
        · obtain ⟨e, ys, ix, hys, pys⟩ := pv
          rw [← pair_len pr, List.take_of_length_le (Nat.le_refl _)] at pys
          exact q H' Dl ys ix hD e hys pys
      have leaf : ∀ {H1 : Hp}, Ex H H1 → (∀ l, d ≠ .lst l) → (∀ l, d ≠ .tup l) → (∀ l, d ≠ .dic l) → Q v H1 := fun {H1} e1 a b c => by
        refine k H1 v e1 ?_
        cases d with
        | lst l => exact absurd rfl (a l)
        | tup l => exact absurd rfl (b l)
        | dic l => exact absurd rfl (c l)
        | non => exact (show False from hkn).elim
        | bl b => exact hv
        | int i => exact hv
        | str s => exact hv
      have skip1 : (∀ l, d ≠ .lst l) → kitB (dT d) "list" = some false := fun a => by
        refine kit_list _ ?_
        cases d with
        | lst l => exact absurd rfl (a l)
        | _ => simp [dT]
      have skip2 : (∀ l, d ≠ .tup l) → kitB (dT d) "tuple" = some false := fun a => by
        refine kit_tuple _ ?_
        cases d with
        | tup l => exact absurd rfl (a l)
        | _ => simp [dT]
      have skip3 : (∀ l, d ≠ .dic l) → kitB (dT d) "dict" = some false := fun a => by
        refine kit_dict _ ?_
        cases d with
        | dic l => exact absurd rfl (a l)
        | _ => simp [dT]
      by_cases c1 : ∃ l, d = .lst l
      · obtain ⟨l, rfl⟩ := c1
        obtain ⟨a, xs, rfl, _, ha, l5, pr⟩ := id hv
        refine Evl.q_when (b := true) (Evl.et_B (ev_kind (d := .lst l) true (Evl.ev_var rfl) hv (show kitB "list" "list" = some true by decide +kernel))) (fun _ H1 e1 => ?_) (fun h => nomatch h)
        have hv1 := pair_imp pr fun a b h => rep_ex e1 h
        refine ⟨_, rfl, a, rfl, ⟨_, Evl.sq_of (e1 _ _ ha)⟩, kidL (walk_list.mono (fun H' e => Evl.sq_of (e _ _ (e1 _ _ ha))) fun i H v H' _ _ y => y) (by rw [← pair_len pr]; exact l5) hv1 hkn fun H' Dl ys ix hD e hys pys => ?_⟩
        exact k H' _ (e1.trans e) ⟨Dl, ys, ix, rfl, Evl.fresh_back e1 hD, hys, l5, tr_imp (fun i d x r => rt_S (fun b hb => ⟨⟨Evl.fresh_back e1 hb.1.1, hb.1.2⟩, hb.2⟩) r) pys⟩
      have c1 : ∀ l, d ≠ .lst l := fun l e => c1 ⟨l, e⟩
      refine Evl.q_when (b := false) (Evl.et_B (ev_kind false (Evl.ev_var rfl) hv (skip1 c1))) (fun h => nomatch h) fun _ H1 e1 => ?_
      have hv1 := rep_ex e1 hv
      by_cases c2 : ∃ l, d = .tup l
      · obtain ⟨l, rfl⟩ := c2
        exact (show False from hkn).elim
      have c2 : ∀ l, d ≠ .tup l := fun l e => c2 ⟨l, e⟩
      refine Evl.q_when (b := false) (Evl.et_B (ev_kind false (Evl.ev_var rfl) hv1 (skip2 c2))) (fun h => nomatch h) fun _ H2 e2 => ?_
      have hv2 := rep_ex e2 hv1
      have e12 := e1.trans e2
      by_cases c3 : ∃ l, d = .dic l
      · obtain ⟨l, rfl⟩ := c3
        obtain ⟨a, es, rfl, _, ha, l5, pr⟩ := id hv2
        have ekeys := pair_keys pr
        have le := pair_len pr
        refine Evl.q_when (b := true) (Evl.et_B (ev_kind (d := .dic l) true (Evl.ev_var rfl) hv2 (show kitB "dict" "dict" = some true by decide +kernel))) (fun _ H3 e3 => ?_) (fun h => nomatch h)
        have ha3 := e3 _ _ ha
        have e13 := e12.trans e3
        intro a1 h1
        have n1a : a1 ≠ a := fun e => by rw [e, ha3] at h1; cases h1
        refine for_lock (J := fun od => Itk a od es) (xs := fun _ => none) (d := a) (es := es) (by rw [upd_ne n1a.symm]; exact ha3) (fun od R r => ⟨_, rfl, a, od, rfl, .inl ⟨es, upd_same, r⟩⟩) (fun od => walk_keys) (fun od j σ' H' => ∃ (es' : List (Key × V)) (o2 : Option V) (ix : Addr → Nat), σ' = [some (.ref a), some (.ref a1), o2, none] ∧ Ex (upd H3 a (.frz od (.dK es))) H' ∧ H' a1 = some (.dK es') ∧ es'.map (·.1) = (l.take j).map (fun q => (Sum.inr q.1 : Key)) ∧ Tr (fun S d v => RepT H' n S d v) (fun b => H3 b = none) a1 ix ((l.take j).map (·.2)) (es'.map (·.2)))
          (fun od => ⟨[], _, fun _ => 0, rfl, fun b o hb => ?_, by rw [upd_ne n1a]; exact upd_same, rfl, tr_nil⟩) (fun od j σ' H' _ ⟨_, _, _, _, e, _⟩ => e _ _ upd_same) (fun od j x σ' H0 H' hlt pv y => ?_) fun od σ' H' pv => ?_
        · by_cases e : b = a
          · rw [e] at hb ⊢; rw [upd_same] at hb ⊢; exact hb
          · rw [upd_ne e] at hb ⊢
            have : b ≠ a1 := fun z => by rw [z, h1] at hb; cases hb
            rw [upd_ne this]; exact hb
        · obtain ⟨es', o2, ix, rfl, e, h1', pk, pes⟩ := pv
          obtain ⟨rfl, kk, vj, hkv, rfl⟩ := y
          obtain ⟨⟨nm, dj⟩, hdj, hk, hrj⟩ := pair_back pr hkv
          have hk : kk = Sum.inr nm := hk
          subst hk
          have hvj : valV es (Sum.inr nm : Key) = some vj := valV_at (by rw [ekeys]; exact inr_nd hkn.1) hkv
          have hrj' := rep_in ha3 e (rep_ex e3 hrj)
          refine ⟨_, rfl, _, rfl, a, vj, rfl, .inl ⟨es, Sum.inr nm, .inr ⟨od, e _ _ upd_same⟩, rfl, hvj.symm⟩, vj, _, dj, rfl, hrj', hkn.2 _ (List.mem_of_getElem? hdj), fun H4 v4 e4 hr4 => ?_⟩
          have nv : valV es' (Sum.inr nm : Key) = none := vV_no (by rw [pk, ← List.map_map_inr, List.map_take]; exact inr_not (not_take hkn.1 (by rw [List.getElem?_map, hdj]; rfl)))
          have back : ∀ b, H' b = none → H3 b = none := fun b hb => by
            have := Evl.fresh_back e hb
            by_cases z : b = a
            · rw [z, upd_same] at this; cases this
            · rw [upd_ne z] at this; exact this
          have le' : es'.length = (l.take j).length := by have := congrArg List.length pk; simpa using this
          obtain ⟨ix', t'⟩ := tr_step (o := .dK (es' ++ [(Sum.inr nm, v4)])) e4 h1' back pes hr4
          refine ⟨_, rfl, _, rfl, a1, _, rfl, .inl ⟨es', Sum.inr nm, e4 _ _ h1', rfl, ?_, rfl⟩, es' ++ [(Sum.inr nm, v4)], _, ix', rfl, Ex.mut (e.trans e4) (by rw [upd_ne n1a]; exact h1), by rw [upd_same, putK_new _ nv], ?_, ?_⟩
          · rw [le', List.length_take]; exact Evl.sz_lt (by omega)
          · rw [take_snoc hdj, List.map_append, List.map_append, pk]; rfl
          · rw [take_snoc hdj, List.map_append, List.map_append, putK_new _ nv]; exact t'
        · obtain ⟨es', o2, ix, rfl, e, h1', pk, pes⟩ := pv
          rw [← le, List.take_of_length_le (Nat.le_refl _)] at pes pk
          have eu : Ex H3 (upd H' a (.dK es)) := unlock ha3 e
          have fin : Tr (fun S d v => RepT (upd H' a (.dK es)) n S d v) (fun b => H b = none) a1 ix (l.map (·.2)) (es'.map (·.2)) := tr_imp (fun i d x r => rt_S (fun b hb => ⟨⟨Evl.fresh_back e13 hb.1.1, hb.1.2⟩, hb.2⟩) (rt_upd (fun b hb z => by have := hb.1.1; rw [z, ha3] at this; cases this) r)) pes
          exact Evl.s_ret (Evl.ev_var rfl) fun H7 e7 => k H7 _ (e13.trans (eu.trans e7)) (rt_ex e7 ⟨a1, es', ix, rfl, Evl.fresh_back e13 h1, by rw [upd_ne n1a]; exact h1', l5, pk, fin⟩)
      have c3 : ∀ l, d ≠ .dic l := fun l e => c3 ⟨l, e⟩
      refine Evl.q_when (b := false) (Evl.et_B (ev_kind false (Evl.ev_var rfl) hv2 (skip3 c3))) (fun h => nomatch h) fun _ H3 e3 => Evl.s_ret (Evl.ev_var rfl) fun H4 e4 => leaf (e12.trans (e3.trans e4)) c1 c2 c3
def spFreshT (n : Nat) : Sp := spCopyT n
theorem ok_freshT (T : Txt K mg C_Shape C_FORMS) (R : Prg K mg C_Shape C_FORMS) : ∀ n, ∃ f fd, Fn P w K mg base "fresh" (n + 1) ["value"] (spFreshT n) f fd
  | 0 => by
    obtain ⟨f, fd, at_, F, kp⟩ := R.fresh
    refine ⟨f, fd, F.ok sc_fresh (fun vs H Q E h => ?_) (fun cdv A outer s H vs Q E hr h => ?_), at_, kp, F.binds (fun _ _ _ _ _ _ us hl => match us, hl with | [_], _ => rfl)⟩
    · obtain ⟨v, P, d, rfl, _⟩ := h; rfl
    · obtain ⟨v, P, d, rfl, h, _⟩ := h; exact h.elim
  | n + 1 => by
    obtain ⟨_, _, G_fresh⟩ := ok_freshT T R n
    obtain ⟨f, fd, at_, F, kp⟩ := R.fresh
    refine ⟨f, fd, F.ok sc_fresh (fun vs H Q E h => ?_) (fun cdv A outer s H vs Q E hr h => ?_), at_, kp, F.binds (fun _ _ _ _ _ _ us hl => match us, hl with | [_], _ => rfl)⟩
    · obtain ⟨v, P, d, rfl, _⟩ := h; rfl
    · obtain ⟨v, PP, d, rfl, hv, hkn, k⟩ := h
      refine ⟨_, (pss_cons (ps_if (pt_val (pe_callB (r := rIsi K) call_isi (by rfl) T.isinstance (by decide +kernel) (pa_cons (pv 0) (pa_cons (pe_bltn (v := .ty "list") (by rfl) T.list boot_list rfl) pa_nil)))) (pss_one (ps_ret (pe_lc (own := [("one", 1)]) rfl sc_fresh.nd (show PI _ _ _ (iList K _) from pi_list (pv 0)) (blkOk_by (own := [("one", 1)]) (N := ["value", "one", "key"]) (sc := defScope s_fresh) (by decide +kernel)) (fun _ _ _ _ _ => (pg_name (i := 1) sc_fresh.nd rfl (Or.inl rfl))) (fun _ _ _ _ _ => pts_nil) (fun _ _ _ _ _ => (pcl G_fresh hr (pa_cons (pv 1) pa_nil)))))) pss_nil)
  (pss_cons (ps_if (pt_val (pe_callB (r := rIsi K) call_isi (by rfl) T.isinstance (by decide +kernel) (pa_cons (pv 0) (pa_cons (pe_bltn (v := .ty "tuple") (by rfl) T.tuple boot_tuple rfl) pa_nil)))) pss_never pss_nil)
  (pss_cons (ps_if (pt_val (pe_callB (r := rIsi K) call_isi (by rfl) T.isinstance (by decide +kernel) (pa_cons (pv 0) (pa_cons (pe_bltn (v := .ty "dict") (by rfl) T.dict boot_dict rfl) pa_nil)))) (pss_one (ps_ret (pe_lock (pe_dc (own := [("key", 2), ("one", 1)]) rfl sc_fresh.nd (pi_items (pv 0)) (blkOk_by (own := [("key", 2), ("one", 1)]) (N := ["value", "one", "key"]) (sc := defScope s_fresh) (by decide +kernel)) (fun _ _ _ _ _ => (show PG _ _ (gTup K 2 _) from pg_tup (n := 2) rfl (pgs_cons (pg_name (i := 2) sc_fresh.nd rfl (Or.inl rfl)) (pgs_cons (pg_name (i := 1) sc_fresh.nd rfl (Or.inl rfl)) pgs_nil)))) (fun _ _ _ _ _ => pts_nil) (fun _ _ _ _ _ => (pv 2)) (fun _ _ _ _ _ => (pcl G_fresh hr (pa_cons (pv 1) pa_nil))))))) pss_nil)
  (pss_one (ps_ret (pv 0)))))), ?_⟩
      -- a part of a list or a tuple
      have kidL : ∀ {l : List D} {xs : List V} {H1 : Hp} {Q2 : VK} {J : It}, Walk J xs.length (fun H' => Ex H1 H') (YAt xs) → xs.length ≤ 100000 → Paired (fun d x => Rep H1 n PP d x) l xs → (∀ x ∈ l, pl n x) → (∀ H' Dl ys ix, H1 Dl = none → Ex H1 H' → H' Dl = some (.lst ys) → Tr (fun S d v => RepT H' n S d v) (fun b => H1 b = none) Dl ix l ys → Q2 (.ref Dl) H') →
          ∀ Dl, H1 Dl = none → ∃ W : Nat → Nat → Hp → Prop, (∃ m, W 0 m (upd H1 Dl (.lst []))) ∧ ∀ i m H, W i m H → (J.stop i H ∧ Q2 (.ref Dl) H) ∨ (J.go i H ∧ ∃ Nx : Hp → Prop, (∀ H', Nx H' → ∃ m', m' < m ∧ W (i + 1) m' H') ∧ ∀ x H', J.yld i H x H' → gName 1 x (wipe [some v, none, none] [1]) H' fun σ2 H2 => wipe σ2 [1] = wipe [some v, none, none] [1] ∧ tYes σ2 H2 fun b H3 =>
            if b = true then tCall (spFreshT n) [] E0 (tCons (tVar 1) tNil) σ2 H3 fun y H4 => ∃ acc, H4 Dl = some (.lst acc) ∧ acc.length < sizeLine ∧ Nx (upd H4 Dl (.lst (acc ++ [y]))) else Nx H3) := by
        intro l xs H1 Q2 J wk l5 pr hk q Dl hD
        refine lc_it wk (fun i H' => Ex H1 H' ∧ ∃ ys ix, H' Dl = some (.lst ys) ∧ Tr (fun S d v => RepT H' n S d v) (fun b => H1 b = none) Dl ix (l.take i) ys) ⟨Ex.new hD, [], fun _ => 0, upd_same, tr_nil⟩ (fun i H' _ p => p.1) (fun i x H0 H' hi pv y => ?_) fun H' pv => ?_
        · obtain ⟨e, ys, ix, hys, pys⟩ := pv
          obtain ⟨rfl, hx⟩ := y
          obtain ⟨dx, hdx, hrx⟩ := pair_back pr hx
          refine ⟨rfl, ?_⟩
          refine yes_go ?_
          refine ⟨_, rfl, x, PP, dx, rfl, rep_ex e hrx, hk _ (List.mem_of_getElem? hdx), fun H3 v3 e3 hr3 => ⟨ys, e3 _ _ hys, ?_, ?_⟩⟩
          · rw [← pys.1, List.length_take]; exact Evl.sz_lt (by omega)
          · obtain ⟨ix', t'⟩ := tr_step (o := .lst (ys ++ [v3])) e3 hys (fun b hb => Evl.fresh_back e hb) pys hr3
            rw [take_snoc hdx]
            exact ⟨Ex.mut (e.trans e3) hD, ys ++ [v3], ix', upd_same, t'⟩
        · obtain ⟨e, ys, ix, hys, pys⟩ := pv
          rw [← pair_len pr, List.take_of_length_le (Nat.le_refl _)] at pys
          exact q H' Dl ys ix hD e hys pys
      have leaf : ∀ {H1 : Hp}, Ex H H1 → (∀ l, d ≠ .lst l) → (∀ l, d ≠ .tup l) → (∀ l, d ≠ .dic l) → Q v H1 := fun {H1} e1 a b c => by
        refine k H1 v e1 ?_
        cases d with
        | lst l => exact absurd rfl (a l)
        | tup l => exact absurd rfl (b l)
        | dic l => exact absurd rfl (c l)
        | non => exact (show False from hkn).elim
        | bl b => exact hv
        | int i => exact hv
        | str s => exact hv
      have skip1 : (∀ l, d ≠ .lst l) → kitB (dT d) "list" = some false := fun a => by
        refine kit_list _ ?_
        cases d with
        | lst l => exact absurd rfl (a l)
        | _ => simp [dT]
      have skip2 : (∀ l, d ≠ .tup l) → kitB (dT d) "tuple" = some false := fun a => by
        refine kit_tuple _ ?_
        cases d with
        | tup l => exact absurd rfl (a l)
        | _ => simp [dT]
      have skip3 : (∀ l, d ≠ .dic l) → kitB (dT d) "dict" = some false := fun a => by
        refine kit_dict _ ?_
        cases d with
        | dic l => exact absurd rfl (a l)
        | _ => simp [dT]
      by_cases c1 : ∃ l, d = .lst l
      · obtain ⟨l, rfl⟩ := c1
        obtain ⟨a, xs, rfl, _, ha, l5, pr⟩ := id hv
        refine Evl.q_when (b := true) (Evl.et_B (ev_kind (d := .lst l) true (Evl.ev_var rfl) hv (show kitB "list" "list" = some true by decide +kernel))) (fun _ H1 e1 => ?_) (fun h => nomatch h)
        have hv1 := pair_imp pr fun a b h => rep_ex e1 h
        refine ⟨_, rfl, a, rfl, ⟨_, Evl.sq_of (e1 _ _ ha)⟩, kidL (walk_list.mono (fun H' e => Evl.sq_of (e _ _ (e1 _ _ ha))) fun i H v H' _ _ y => y) (by rw [← pair_len pr]; exact l5) hv1 hkn fun H' Dl ys ix hD e hys pys => ?_⟩
        exact k H' _ (e1.trans e) ⟨Dl, ys, ix, rfl, Evl.fresh_back e1 hD, hys, l5, tr_imp (fun i d x r => rt_S (fun b hb => ⟨⟨Evl.fresh_back e1 hb.1.1, hb.1.2⟩, hb.2⟩) r) pys⟩
      have c1 : ∀ l, d ≠ .lst l := fun l e => c1 ⟨l, e⟩
      refine Evl.q_when (b := false) (Evl.et_B (ev_kind false (Evl.ev_var rfl) hv (skip1 c1))) (fun h => nomatch h) fun _ H1 e1 => ?_
      have hv1 := rep_ex e1 hv
      by_cases c2 : ∃ l, d = .tup l
      · obtain ⟨l, rfl⟩ := c2
        exact (show False from hkn).elim
      have c2 : ∀ l, d ≠ .tup l := fun l e => c2 ⟨l, e⟩
      refine Evl.q_when (b := false) (Evl.et_B (ev_kind false (Evl.ev_var rfl) hv1 (skip2 c2))) (fun h => nomatch h) fun _ H2 e2 => ?_
      have hv2 := rep_ex e2 hv1
      have e12 := e1.trans e2
      by_cases c3 : ∃ l, d = .dic l
      · obtain ⟨l, rfl⟩ := c3
        obtain ⟨a, es, rfl, _, ha, l5, pr⟩ := id hv2
        have ekeys := pair_keys pr
        have le := pair_len pr
        refine Evl.q_when (b := true) (Evl.et_B (ev_kind (d := .dic l) true (Evl.ev_var rfl) hv2 (show kitB "dict" "dict" = some true by decide +kernel))) (fun _ H3 e3 => ?_) (fun h => nomatch h)
        have ha3 := e3 _ _ ha
        have e13 := e12.trans e3
        refine ⟨a, .dK es, ha3, trivial, fun od => ⟨_, rfl, a, od, es, rfl, upd_same, fun Dl hD => ?_⟩⟩
        have nDa : Dl ≠ a := fun e => by rw [e, upd_same] at hD; cases hD
        have hD3 : H3 Dl = none := by rw [upd_ne nDa] at hD; exact hD
        refine dc_it walk_items (vs := [2, 1]) (fun i H' => ∃ (es' : List (Key × V)) (ix : Addr → Nat), Ex (upd H3 a (.frz od (.dK es))) H' ∧ H' Dl = some (.dK es') ∧ es'.map (·.1) = (l.take i).map (fun q => (Sum.inr q.1 : Key)) ∧ Tr (fun S d v => RepT H' n S d v) (fun b => H3 b = none) Dl ix ((l.take i).map (·.2)) (es'.map (·.2))) ⟨[], fun _ => 0, Ex.new hD, upd_same, rfl, tr_nil⟩ (fun i H' _ ⟨_, _, e, _⟩ => e _ _ upd_same) (fun i x H0 H' hlt pv y => ?_) fun H' pv => ?_
        · obtain ⟨es', ix, e, h1', pk, pes⟩ := pv
          obtain ⟨Tq, x1, y1, rfl, nT, rfl, hx1, hy1⟩ := y
          obtain ⟨⟨kk, vj⟩, hkv, rfl⟩ := Option.map_eq_some_iff.mp hx1
          have hy1 : es[i]?.map Prod.snd = some y1 := hy1
          rw [hkv] at hy1
          cases hy1
          obtain ⟨⟨nm, dj⟩, hdj, hk, hrj⟩ := pair_back pr hkv
          have hk : kk = Sum.inr nm := hk
          subst hk
          have eT := Ex.new (o := .tup [kV (Sum.inr nm : Key), vj]) nT
          refine ⟨Tq, _, rfl, Evl.st_of upd_same, rfl, _, _, rfl, _, _, rfl, rfl, ?_⟩
          have hrj' := rep_ex eT (rep_in ha3 e (rep_ex e3 hrj))
          have e := e.trans eT
          have h1' := eT _ _ h1'
          have pes := tr_imp (R' := fun S d v => RepT (upd H0 Tq (.tup [kV (Sum.inr nm : Key), vj])) n S d v) (fun i d x r => rt_ex eT r) pes
          generalize (upd H0 Tq (.tup [kV (Sum.inr nm : Key), vj])) = HT at e h1' pes hrj' ⊢
          refine ⟨rfl, yes_go ?_⟩
          refine ⟨_, rfl, _, rfl, vj, _, dj, rfl, hrj', hkn.2 _ (List.mem_of_getElem? hdj), fun H4 v4 e4 hr4 => ?_⟩
          have nv : valV es' (Sum.inr nm : Key) = none := vV_no (by rw [pk, ← List.map_map_inr, List.map_take]; exact inr_not (not_take hkn.1 (by rw [List.getElem?_map, hdj]; rfl)))
          have back : ∀ b, HT b = none → H3 b = none := fun b hb => by
            have := Evl.fresh_back e hb
            by_cases z : b = a
            · rw [z, upd_same] at this; cases this
            · rw [upd_ne z] at this; exact this
          have le' : es'.length = (l.take i).length := by have := congrArg List.length pk; simpa using this
          obtain ⟨ix', t'⟩ := tr_step (o := .dK (es' ++ [(Sum.inr nm, v4)])) e4 h1' back pes hr4
          refine ⟨es', Sum.inr nm, rfl, e4 _ _ h1', ?_, es' ++ [(Sum.inr nm, v4)], ix', Ex.mut (e.trans e4) hD, by rw [upd_same, putK_new _ nv], ?_, ?_⟩
          · rw [le', List.length_take]; exact Evl.sz_lt (by omega)
          · rw [take_snoc hdj, List.map_append, List.map_append, pk]; rfl
          · rw [take_snoc hdj, List.map_append, List.map_append, putK_new _ nv]; exact t'
        · obtain ⟨es', ix, e, h1', pk, pes⟩ := pv
          rw [← le, List.take_of_length_le (Nat.le_refl _)] at pes pk
          have eu : Ex H3 (upd H' a (.dK es)) := unlock ha3 e
          have fin : Tr (fun S d v => RepT (upd H' a (.dK es)) n S d v) (fun b => H b = none) Dl ix (l.map (·.2)) (es'.map (·.2)) := tr_imp (fun i d x r => rt_S (fun b hb => ⟨⟨Evl.fresh_back e13 hb.1.1, hb.1.2⟩, hb.2⟩) (rt_upd (fun b hb z => by have := hb.1.1; rw [z, ha3] at this; cases this) r)) pes
          exact ⟨e _ _ upd_same, k _ _ (e13.trans eu) ⟨Dl, es', ix, rfl, Evl.fresh_back e13 hD3, by rw [upd_ne nDa]; exact h1', l5, pk, fin⟩⟩
      have c3 : ∀ l, d ≠ .dic l := fun l e => c3 ⟨l, e⟩
      refine Evl.q_when (b := false) (Evl.et_B (ev_kind false (Evl.ev_var rfl) hv2 (skip3 c3))) (fun h => nomatch h) fun _ H3 e3 => Evl.s_ret (Evl.ev_var rfl) fun H4 e4 => leaf (e12.trans (e3.trans e4)) c1 c2 c3
end
end Pk

namespace Pk
open PySem PySem.Spec PyProof.Rows L2 Ssb
open Evl (Ex Ev EvT EvL EvA EvU)
/-! ### what a deed does to a list -/
inductive Op where
  | app | ins (i : Nat) | cut | rem (i : Nat) | mov (i j : Nat)
def Op.ok : Op → Nat → Prop
  | .app, _ => True
  | .ins i, n => i ≤ n
  | .cut, n => 0 < n
  | .rem i, n => i < n
  | .mov i j, n => i < n ∧ j < n
def Op.new : Op → Bool
  | .app => true
  | .ins _ => true
  | _ => false
def Op.run {α : Type} : Op → α → List α → List α
  | .app, x, l => l ++ [x]
  | .ins i, x, l => l.take i ++ [x] ++ l.drop i
  | .cut, _, l => l.dropLast
  | .rem i, _, l => l.eraseIdx i
  | .mov i j, _, l => match l[i]? with
    | some y => (l.eraseIdx i).take j ++ [y] ++ (l.eraseIdx i).drop j
    | none => l
theorem erase_map {α β : Type} (f : α → β) : ∀ (l : List α) (i : Nat), (l.eraseIdx i).map f = (l.map f).eraseIdx i
  | [], _ => rfl
  | _ :: _, 0 => rfl
  | a :: l, i + 1 => by rw [List.eraseIdx_cons_succ, List.map_cons, List.map_cons, List.eraseIdx_cons_succ, erase_map f l i]
theorem erase_perm {α : Type} {y : α} : ∀ {l : List α} {i : Nat}, l[i]? = some y → (y :: l.eraseIdx i).Perm l
  | [], i, h => by simp at h
  | a :: l, 0, h => by cases h; exact .refl _
  | a :: l, i + 1, h => by
    rw [List.eraseIdx_cons_succ]
    exact (List.Perm.swap _ _ _).trans (List.Perm.cons a (erase_perm (l := l) (i := i) (by simpa using h)))
theorem run_map {α β : Type} (f : α → β) (o : Op) (x : α) (l : List α) : (o.run x l).map f = o.run (f x) (l.map f) := by
  cases o with
  | app => simp [Op.run]
  | ins i => simp [Op.run, List.map_take, List.map_drop]
  | cut => simp [Op.run, List.map_dropLast]
  | rem i => simp [Op.run, erase_map]
  | mov i j =>
    simp only [Op.run, List.getElem?_map]
    cases l[i]? with
    | none => rfl
    | some y => simp [erase_map, List.map_take, List.map_drop]
theorem ins_perm {α : Type} {l : List α} {i : Nat} {x : α} : (l.take i ++ [x] ++ l.drop i).Perm (x :: l) := by
  have h : (l.take i ++ [x] ++ l.drop i).Perm ([x] ++ l.take i ++ l.drop i) := List.Perm.append_right _ List.perm_append_comm
  rw [List.append_assoc, List.append_assoc, List.take_append_drop, ← List.append_assoc] at h
  exact h
theorem run_new {α : Type} {o : Op} {x : α} {l : List α} (h : o.new = true) : (o.run x l).Perm (x :: l) := by
  cases o with
  | app => exact List.perm_append_comm
  | ins i => exact ins_perm
  | cut => cases h
  | rem i => cases h
  | mov i j => cases h
theorem run_old {α : Type} {o : Op} {x : α} {l : List α} (h : o.new = false) : ∃ l', (o.run x l).Perm l' ∧ l'.Sublist l := by
  cases o with
  | app => cases h
  | ins i => cases h
  | cut => exact ⟨_, .refl _, List.dropLast_sublist _⟩
  | rem i => exact ⟨_, .refl _, List.eraseIdx_sublist _ _⟩
  | mov i j =>
    refine ⟨l, ?_, .refl _⟩
    simp only [Op.run]
    cases e : l[i]? with
    | none => exact .refl _
    | some y =>
      exact ins_perm.trans (erase_perm e)
theorem run_len {α : Type} {o : Op} {x : α} {l : List α} : (o.run x l).length ≤ l.length + 1 := by
  cases h : o.new with
  | true => rw [(run_new (x := x) (l := l) h).length_eq]; exact Nat.le_refl _
  | false =>
    obtain ⟨l', p, s⟩ := run_old (x := x) (l := l) h
    rw [p.length_eq]
    exact Nat.le_succ_of_le s.length_le
/-! ### parts with places of their own -/
abbrev Pt := D × V × (Addr → Prop)
structure Parts (R : (Addr → Prop) → D → V → Prop) (S : Addr → Prop) (a : Addr) (zs : List Pt) : Prop where
  r : ∀ z ∈ zs, R z.2.2 z.1 z.2.1
  ap : zs.Pairwise fun z z' => ∀ b, z.2.2 b → ¬ z'.2.2 b
  sub : ∀ z ∈ zs, ∀ b, z.2.2 b → S b ∧ b ≠ a
section
open Classical
theorem parts_tr {R : (Addr → Prop) → D → V → Prop} {S : Addr → Prop} {a : Addr} {zs : List Pt} (mono : ∀ S S' d x, (∀ b, S b → S' b) → R S d x → R S' d x) (h : Parts R S a zs) : ∃ ix, Tr R S a ix (zs.map (·.1)) (zs.map (·.2.1)) := by
  refine ⟨fun b => zs.findIdx fun z => decide (z.2.2 b), by simp, fun i d x h1 h2 => ?_⟩
  rw [List.getElem?_map] at h1 h2
  cases e : zs[i]? with
  | none => rw [e] at h1; cases h1
  | some z =>
    rw [e] at h1 h2
    cases h1; cases h2
    have hm := List.mem_of_getElem? e
    obtain ⟨hi, ez⟩ := List.getElem?_eq_some_iff.mp e
    refine mono _ _ _ _ (fun b hb => ⟨h.sub z hm b hb, ?_⟩) (h.r z hm)
    refine (List.findIdx_eq hi).mpr ⟨by rw [ez]; exact decide_eq_true hb, fun j hj => decide_eq_false fun hc => ?_⟩
    exact (List.pairwise_iff_getElem.mp h.ap j i (by omega) hi hj) b hc (by rw [ez]; exact hb)
end
theorem tr_parts {R : (Addr → Prop) → D → V → Prop} {S : Addr → Prop} {a : Addr} {ix : Addr → Nat} {l : List D} {xs : List V} (t : Tr R S a ix l xs) : ∃ zs, zs.map (·.1) = l ∧ zs.map (·.2.1) = xs ∧ Parts R S a zs := by
  refine ⟨(List.range l.length).map fun i => (l.getD i .non, xs.getD i .non, fun b => (S b ∧ b ≠ a) ∧ ix b = i), ?_, ?_, ⟨?_, ?_, ?_⟩⟩
  · rw [List.map_map]
    refine List.ext_getElem (by simp) fun i h1 h2 => ?_
    simp [List.getElem?_eq_getElem h2]
  · rw [List.map_map]
    refine List.ext_getElem (by simp [t.1]) fun i h1 h2 => ?_
    simp [List.getElem?_eq_getElem h2]
  · intro z hz
    obtain ⟨i, hi, rfl⟩ := List.mem_map.mp hz
    have hi := List.mem_range.mp hi
    have e1 : l[i]? = some (l.getD i .non) := by rw [List.getD_eq_getElem?_getD, List.getElem?_eq_getElem hi]; rfl
    have e2 : xs[i]? = some (xs.getD i .non) := by rw [List.getD_eq_getElem?_getD, List.getElem?_eq_getElem (by rw [← t.1]; exact hi)]; rfl
    exact t.2 i _ _ e1 e2
  · refine List.Pairwise.map _ (fun i j h b h1 h2 => ?_) (List.pairwise_lt_range (n := l.length))
    have h1 : ix b = i := h1.2
    have h2 : ix b = j := h2.2
    omega
  · intro z hz
    obtain ⟨i, hi, rfl⟩ := List.mem_map.mp hz
    exact fun b hb => hb.1
theorem tr_op {R : (Addr → Prop) → D → V → Prop} {S : Addr → Prop} {a : Addr} {ix : Addr → Nat} {l : List D} {xs : List V} {Hk : Hp} {d : D} {x : V} {o : Op} (mono : ∀ S S' d x, (∀ b, S b → S' b) → R S d x → R S' d x)
    (t : Tr R (fun b => S b ∧ Hk b ≠ none) a ix l xs) (h : o.new = true → R (fun b => (S b ∧ b ≠ a) ∧ Hk b = none) d x) : ∃ ix', Tr R S a ix' (o.run d l) (o.run x xs) := by
  obtain ⟨zs, rfl, rfl, p⟩ := tr_parts t
  let z0 : Pt := (d, x, fun b => (S b ∧ b ≠ a) ∧ Hk b = none)
  have q : Parts R S a (o.run z0 zs) := by
    cases hn : o.new with
    | true =>
      have pm := run_new (o := o) (x := z0) (l := zs) hn
      refine ⟨fun z hz => ?_, ?_, fun z hz => ?_⟩
      · rcases List.mem_cons.mp (pm.mem_iff.mp hz) with rfl | hz
        · exact h hn
        · exact p.r z hz
      · refine (pm.pairwise_iff (fun h b h1 h2 => h b h2 h1)).mpr (List.pairwise_cons.mpr ⟨fun z hz b hb hc => ?_, p.ap⟩)
        exact (p.sub z hz b hc).1.2 hb.2
      · rcases List.mem_cons.mp (pm.mem_iff.mp hz) with rfl | hz
        · exact fun b hb => hb.1
        · exact fun b hb => ⟨(p.sub z hz b hb).1.1, (p.sub z hz b hb).2⟩
    | false =>
      obtain ⟨l', pm, sb⟩ := run_old (o := o) (x := z0) (l := zs) hn
      refine ⟨fun z hz => p.r z (sb.subset (pm.mem_iff.mp hz)), (pm.pairwise_iff (fun h b h1 h2 => h b h2 h1)).mpr (p.ap.sublist sb), fun z hz b hb => ?_⟩
      have := p.sub z (sb.subset (pm.mem_iff.mp hz)) b hb
      exact ⟨this.1.1, this.2⟩
  have := parts_tr mono q
  rw [run_map, run_map] at this
  exact this
/-! ### a part of a tree, and what becomes of the tree when it changes -/
def Hole (H : Hp) (n : Nat) (S : Addr → Prop) (v : V) (C : D → D) (m : Nat) (T : Addr → Prop) (u : V) (d : D) : Prop :=
  RepT H m T d u ∧ ∀ H' d', (∀ b o, ¬ T b → H b = some o → H' b = some o) → RepT H' m (fun b => T b ∨ H b = none) d' u → RepT H' n (fun b => S b ∨ H b = none) (C d') v
theorem hole_top {H : Hp} {n : Nat} {S : Addr → Prop} {v : V} {d : D} (h : RepT H n S d v) : Hole H n S v id n S v d := ⟨h, fun H' d' _ h => h⟩
/-- a part changes, the others stand -/
theorem tr_put {H H' : Hp} {m : Nat} {T : Addr → Prop} {a : Addr} {ix : Addr → Nat} {l : List D} {xs : List V} {j : Nat} {d' : D} {u : V} {oa : HO} (ha : H a = some oa) (hj : xs[j]? = some u) (t : Tr (fun S d v => RepT H m S d v) T a ix l xs)
    (fr : ∀ b o, ¬ ((T b ∧ b ≠ a) ∧ ix b = j) → H b = some o → H' b = some o) (h : RepT H' m (fun b => ((T b ∧ b ≠ a) ∧ ix b = j) ∨ H b = none) d' u) :
    Tr (fun S d v => RepT H' m S d v) (fun b => T b ∨ H b = none) a (fun b => if (H b).isNone = true then j else ix b) (l.set j d') xs := by
  refine ⟨by rw [List.length_set]; exact t.1, fun i d x h1 h2 => ?_⟩
  by_cases e : i = j
  · subst e
    rw [List.getElem?_set] at h1
    rw [if_pos rfl] at h1
    by_cases c : i < l.length
    · rw [if_pos c] at h1
      cases h1
      rw [hj] at h2; cases h2
      refine rt_S (fun b hb => ?_) h
      by_cases z : H b = none
      · exact ⟨⟨.inr z, fun e => by rw [e, ha] at z; cases z⟩, if_pos (by rw [z]; rfl)⟩
      · rcases hb with hb | hb
        · refine ⟨⟨.inl hb.1.1, hb.1.2⟩, ?_⟩
          show (if (H b).isNone = true then i else ix b) = i
          rw [if_neg (fun q => z (Option.isNone_iff_eq_none.mp q))]; exact hb.2
        · exact absurd hb z
    · rw [if_neg c] at h1; cases h1
  · rw [List.getElem?_set, if_neg (fun z => e z.symm)] at h1
    have r := rt_dom (t.2 i d x h1 h2)
    refine rt_S (fun b hb => ⟨⟨.inl hb.1.1.1, hb.1.1.2⟩, ?_⟩) (rt_to (fun b o hb hbo => fr b o (fun z => e (hb.1.2.symm.trans z.2)) hbo) r)
    show (if (H b).isNone = true then j else ix b) = i
    rw [if_neg (fun q => hb.2 (Option.isNone_iff_eq_none.mp q))]; exact hb.1.2
theorem hole_key {H : Hp} {n m : Nat} {S T : Addr → Prop} {v u : V} {C : D → D} {l : List (Str × D)} {j : Nat} {k : Str} {d : D} (h : Hole H n S v C (m + 1) T u (.dic l)) (nd : (l.map (·.1)).Nodup) (hj : l[j]? = some (k, d)) :
    ∃ T' u', Kid H u k u' ∧ (∀ b, T' b → T b) ∧ Hole H n S v (fun d' => C (.dic (l.set j (k, d')))) m T' u' d := by
  obtain ⟨⟨a, es, ix, rfl, hT, ha, l5, hk, t⟩, up⟩ := h
  have le : l.length = es.length := by have := congrArg List.length hk; simpa using this.symm
  have hji := (List.getElem?_eq_some_iff.mp hj).1
  have he : es[j]? = some (es[j]'(by omega)) := List.getElem?_eq_getElem (by omega)
  have hkey : (es[j]'(by omega)).1 = Sum.inr k := by
    have := congrArg (fun l => l[j]?) hk
    simp only [List.getElem?_map, hj, he] at this
    exact Option.some.inj this
  have hu : (es.map (·.2))[j]? = some (es[j]'(by omega)).2 := by rw [List.getElem?_map, he]; rfl
  have hd : (l.map (·.2))[j]? = some d := by rw [List.getElem?_map, hj]; rfl
  have kid : Kid H (.ref a) k (es[j]'(by omega)).2 := ⟨a, es, rfl, ha, valV_at (i := j) (by rw [hk, ← List.map_map_inr]; exact inr_nd nd) (by rw [he, ← hkey])⟩
  refine ⟨fun b => (T b ∧ b ≠ a) ∧ ix b = j, (es[j]'(by omega)).2, kid, (fun b hb => hb.1.1), t.2 j d _ hd hu, fun H' d' fr r => ?_⟩
  · refine up H' _ (fun b o hb => fr b o fun z => hb z.1.1) ⟨a, es, fun b => if (H b).isNone = true then j else ix b, rfl, .inl hT, fr a _ (fun z => z.1.2 rfl) ha, by rw [List.length_set]; exact l5, ?_, ?_⟩
    · rw [hk, List.map_set]
      refine (List.ext_getElem? fun i => ?_)
      rw [List.getElem?_set]
      by_cases e : j = i
      · subst e
        rw [if_pos rfl, if_pos (by simpa using hji), List.getElem?_map, hj]; rfl
      · rw [if_neg e]
    · rw [List.map_set]
      exact tr_put ha hu t fr r
theorem hole_item {H : Hp} {n m : Nat} {S T : Addr → Prop} {v u : V} {C : D → D} {l : List D} {j : Nat} {d : D} (h : Hole H n S v C (m + 1) T u (.lst l)) (hj : l[j]? = some d) :
    ∃ T' u' c xs, u = .ref c ∧ H c = some (.lst xs) ∧ xs[j]? = some u' ∧ Paired (fun d x => Rep H m T d x) l xs ∧ (∀ b, T' b → T b) ∧ Hole H n S v (fun d' => C (.lst (l.set j d'))) m T' u' d := by
  obtain ⟨⟨a, xs, ix, rfl, hT, ha, l5, t⟩, up⟩ := h
  have hji := (List.getElem?_eq_some_iff.mp hj).1
  have he : xs[j]? = some (xs[j]'(by rw [← t.1]; exact hji)) := List.getElem?_eq_getElem (by rw [← t.1]; exact hji)
  refine ⟨fun b => (T b ∧ b ≠ a) ∧ ix b = j, xs[j]'(by rw [← t.1]; exact hji), a, xs, rfl, ha, he, pair_of t.1 fun i d x h1 h2 => rep_S (fun b hb => hb.1.1) (rt_rep (t.2 i d x h1 h2)), (fun b hb => hb.1.1), t.2 j d _ hj he, fun H' d' fr r => ?_⟩
  exact up H' _ (fun b o hb => fr b o fun z => hb z.1.1) ⟨a, xs, fun b => if (H b).isNone = true then j else ix b, rfl, .inl hT, fr a _ (fun z => z.1.2 rfl) ha, by rw [List.length_set]; exact l5, tr_put ha he t fr r⟩
/-- the list itself changes -/
theorem hole_op {H : Hp} {n m : Nat} {S T : Addr → Prop} {v u : V} {C : D → D} {l : List D} (h : Hole H n S v C (m + 1) T u (.lst l)) (l9 : l.length ≤ 90000) :
    ∃ c xs, u = .ref c ∧ T c ∧ H c = some (.lst xs) ∧ l.length = xs.length ∧ ∀ (o : Op) (H1 : Hp) (d : D) (x : V), Ex H H1 → (o.new = true → RepT H1 m (fun b => H b = none) d x) → RepT (upd H1 c (.lst (o.run x xs))) n (fun b => S b ∨ H b = none) (C (.lst (o.run d l))) v := by
  obtain ⟨⟨a, xs, ix, rfl, hT, ha, l5, t⟩, up⟩ := h
  refine ⟨a, xs, rfl, hT, ha, t.1, fun o H1 d x e hx => ?_⟩
  have nA : ∀ b, H b = none → b ≠ a := fun b hb z => by rw [z, ha] at hb; cases hb
  obtain ⟨ix', t'⟩ := tr_op (R := fun S d v => RepT (upd H1 a (.lst (o.run x xs))) m S d v) (S := fun b => T b ∨ H b = none) (Hk := H) (d := d) (x := x) (o := o) (fun S S' d x k r => rt_S k r)
    (tr_imp (fun i d x r => rt_S (fun b hb => ⟨⟨⟨.inl hb.1.1.1, hb.2⟩, hb.1.1.2⟩, hb.1.2⟩) (rt_upd (fun b hb => hb.1.1.2) (rt_ex e (rt_dom r)))) t)
    fun hn => rt_S (fun b hb => ⟨⟨.inr hb, nA b hb⟩, hb⟩) (rt_upd nA (hx hn))
  refine up _ _ (fun b o' hb ho => ?_) ⟨a, _, ix', rfl, .inl hT, upd_same, ?_, t'⟩
  · rw [upd_ne (fun z => hb (by rw [z]; exact hT))]; exact e _ _ ho
  · have := run_len (o := o) (x := d) (l := l); omega
/-- a value of a dict changes -/
theorem hole_val {H : Hp} {n m : Nat} {S T : Addr → Prop} {v u : V} {C : D → D} {l : List (Str × D)} {j : Nat} {k : Str} {d d' : D} {x : V} (h : Hole H n S v C (m + 1) T u (.dic l)) (nd : (l.map (·.1)).Nodup) (hj : l[j]? = some (k, d)) (hx : ∀ H' S', RepT H' m S' d' x) :
    ∃ c es, u = .ref c ∧ T c ∧ H c = some (.dK es) ∧ es.length = l.length ∧ ∀ H1, Ex H H1 → RepT (upd H1 c (.dK (putK es (Sum.inr k) x))) n (fun b => S b ∨ H b = none) (C (.dic (l.set j (k, d')))) v := by
  obtain ⟨⟨a, es, ix, rfl, hT, ha, l5, hk, t⟩, up⟩ := h
  have le : l.length = es.length := by have := congrArg List.length hk; simpa using this.symm
  have hji := (List.getElem?_eq_some_iff.mp hj).1
  have he : es[j]? = some (es[j]'(by omega)) := List.getElem?_eq_getElem (by omega)
  have hkey : (es[j]'(by omega)).1 = Sum.inr k := by
    have := congrArg (fun l => l[j]?) hk
    simp only [List.getElem?_map, hj, he] at this
    exact Option.some.inj this
  have ndk : (es.map (·.1)).Nodup := by rw [hk, ← List.map_map_inr]; exact inr_nd nd
  have pe : putK es (Sum.inr k : Key) x = es.set j (Sum.inr k, x) := by
    unfold putK
    have any : (es.any fun kv => decide (kv.1 = (Sum.inr k : Key))) = true := List.any_eq_true.mpr ⟨_, List.mem_of_getElem? he, decide_eq_true hkey⟩
    rw [if_pos any]
    refine List.ext_getElem? fun i => ?_
    rw [List.getElem?_map, List.getElem?_set]
    by_cases e : j = i
    · subst e
      rw [if_pos rfl, if_pos (by omega), he, Option.map_some, if_pos hkey, hkey]
    · rw [if_neg e]
      cases hi : es[i]? with
      | none => rfl
      | some q =>
        rw [Option.map_some, if_neg]
        intro z
        have h1 : (es.map (·.1))[i]? = some (Sum.inr k) := by rw [List.getElem?_map, hi, Option.map_some, z]
        have h2 : (es.map (·.1))[j]? = some (Sum.inr k) := by rw [List.getElem?_map, he, Option.map_some, hkey]
        have i1 := (List.getElem?_eq_some_iff.mp h1)
        have i2 := (List.getElem?_eq_some_iff.mp h2)
        rcases Nat.lt_or_gt_of_ne e with lt | lt
        · exact List.pairwise_iff_getElem.mp ndk _ _ i2.1 i1.1 lt (i2.2.trans i1.2.symm)
        · exact List.pairwise_iff_getElem.mp ndk _ _ i1.1 i2.1 lt (i1.2.trans i2.2.symm)
  refine ⟨a, es, rfl, hT, ha, le.symm, fun H1 e => ?_⟩
  rw [pe]
  refine up _ _ (fun b o' hb ho => ?_) ⟨a, _, ix, rfl, .inl hT, upd_same, by rw [List.length_set]; exact l5, ?_, ?_⟩
  · rw [upd_ne (fun z => hb (by rw [z]; exact hT))]; exact e _ _ ho
  · rw [List.map_set, hk, List.map_set]
  · rw [List.map_set, List.map_set]
    refine ⟨by rw [List.length_set, List.length_set]; exact t.1, fun i dd y h1 h2 => ?_⟩
    by_cases c : j = i
    · subst c
      rw [List.getElem?_set, if_pos rfl] at h1 h2
      rw [if_pos (by simpa using hji)] at h1
      rw [if_pos (by rw [List.length_map]; omega)] at h2
      cases h1; cases h2
      exact hx _ _
    · rw [List.getElem?_set, if_neg c] at h1 h2
      exact rt_S (fun b hb => ⟨⟨.inl hb.1.1, hb.1.2⟩, hb.2⟩) (rt_upd (fun b hb => hb.1.2) (rt_ex e (t.2 i dd y h1 h2)))
/-- no deeper than that -/
def dpt : Nat → D → Prop
  | 0, _ => False
  | n + 1, .lst l => ∀ x ∈ l, dpt n x
  | _ + 1, .tup _ => False
  | n + 1, .dic l => ∀ p ∈ l, dpt n p.2
  | _ + 1, _ => True
theorem rt_down {H : Hp} : ∀ {m n : Nat} {S : Addr → Prop} {d : D} {v : V}, dpt m d → RepT H n S d v → RepT H m S d v
  | 0, _, _, _, _, h, _ => h.elim
  | _, 0, _, _, _, _, h => h.elim
  | m + 1, n + 1, S, d, v, hd, h => by
    cases d with
    | non => exact h
    | bl b => exact h
    | int i => exact h
    | str s => exact h
    | tup l => exact h.elim
    | lst l =>
      obtain ⟨a, xs, ix, e, s, ha, hl, p⟩ := h
      exact ⟨a, xs, ix, e, s, ha, hl, p.1, fun i d x h1 h2 => rt_down (hd d (List.mem_of_getElem? h1)) (p.2 i d x h1 h2)⟩
    | dic l =>
      obtain ⟨a, es, ix, e, s, ha, hl, hk, p⟩ := h
      refine ⟨a, es, ix, e, s, ha, hl, hk, p.1, fun i d x h1 h2 => rt_down ?_ (p.2 i d x h1 h2)⟩
      obtain ⟨q, hq, rfl⟩ := List.mem_map.mp (List.mem_of_getElem? h1)
      exact hd q hq
theorem rep_kid {H : Hp} {n : Nat} {S : Addr → Prop} {l : List (Str × D)} {v : V} {k : Str} {d : D} (h : Rep H (n + 1) S (.dic l) v) (hk : l.lookup k = some d) : ∃ u S', Kid H v k u ∧ Rep H n S' d u := by
  obtain ⟨a, es, rfl, _, ha, _, pr⟩ := h
  obtain ⟨u, hu, r⟩ := rep_entry pr hk
  exact ⟨u, _, ⟨a, es, rfl, ha, hu⟩, r⟩
/-- where a deed is: the list that stands there, and the data around it -/
def Where (d : D) (w : List D) (C : D → D) (l : List D) : Prop :=
  (∃ (nm : Str) (L : List (Str × D)) (i : Nat) (ls : List (Str × D)) (j : Nat), w = [.str nm] ∧ d = .dic L ∧ (L.map (·.1)).Nodup ∧ L[i]? = some (("lists" : Str), D.dic ls) ∧ (ls.map (·.1)).Nodup ∧ ls[j]? = some (nm, .lst l) ∧ C = fun y => .dic (L.set i ("lists", .dic (ls.set j (nm, y))))) ∨
  ∃ (n1 nm : Str) (m : Int) (L : List (Str × D)) (i : Nat) (ls : List (Str × D)) (j : Nat) (rs : List D) (k : Nat) (R : List (Str × D)) (p : Nat) (ls2 : List (Str × D)) (q : Nat), w = [.str n1, .int m, .str nm] ∧ d = .dic L ∧ (L.map (·.1)).Nodup ∧ L[i]? = some (("lists" : Str), D.dic ls) ∧
    (ls.map (·.1)).Nodup ∧ ls[j]? = some (n1, .lst rs) ∧ rs.length ≤ 400 ∧ rs[k]? = some (.dic R) ∧ (∀ k' r, rs[k']? = some r → ∃ R' z, r = .dic R' ∧ R'.lookup ("id" : Str) = some (.int z) ∧ (z = m ↔ k' = k)) ∧ (R.map (·.1)).Nodup ∧ R[p]? = some (("lists" : Str), D.dic ls2) ∧
    (ls2.map (·.1)).Nodup ∧ ls2[q]? = some (nm, .lst l) ∧ C = fun y => .dic (L.set i ("lists", .dic (ls.set j (n1, .lst (rs.set k (.dic (R.set p ("lists", .dic (ls2.set q (nm, y)))))))))) 
def lvW : List D → Nat
  | [_] => 7
  | _ => 4
theorem str_of {H : Hp} {n : Nat} {S : Addr → Prop} {s : Str} {v : V} (h : Rep H n S (.str s) v) : v = .str s := by
  cases n with
  | zero => exact h.elim
  | succ n => exact h
theorem int_of {H : Hp} {n : Nat} {S : Addr → Prop} {s : Int} {v : V} (h : Rep H n S (.int s) v) : v = .int s := by
  cases n with
  | zero => exact h.elim
  | succ n => exact h
theorem where_hole {H : Hp} {S : Addr → Prop} {v : V} {d : D} {w : List D} {C : D → D} {l : List D} (h : Where d w C l) (r : RepT H 10 S d v) {H2 : Hp} {k : Nat} {S' : Addr → Prop} {xs : List V} (pw : Paired (fun d x => Rep H2 k S' d x) w xs) :
    ∃ T u, RowsP H v xs u ∧ (∀ b, T b → S b) ∧ Hole H 10 S v C (lvW w + 1) T u (.lst l) := by
  rcases h with ⟨nm, L, i, ls, j, rfl, rfl, nL, hi, nls, hj, rfl⟩ | ⟨n1, nm, m, L, i, ls, j, rs, k0, R, p, ls2, q, rfl, rfl, nL, hi, nls, hj, l400, hk, hids, nR, hp, nls2, hq, rfl⟩
  · cases pw with
    | cons h0 pw =>
    cases pw
    rw [str_of h0]
    obtain ⟨T1, u1, kd1, s1, h1⟩ := hole_key (m := 9) (hole_top r) nL hi
    obtain ⟨T2, u2, kd2, s2, h2⟩ := hole_key (m := 8) h1 nls hj
    exact ⟨T2, u2, .inl ⟨nm, u1, rfl, kd1, kd2⟩, fun b hb => s1 b (s2 b hb), h2⟩
  · cases pw with
    | cons h0 pw =>
    cases pw with
    | cons h1' pw =>
    cases pw with
    | cons h2' pw =>
    cases pw
    rw [str_of h0, int_of h1', str_of h2']
    obtain ⟨T1, u1, kd1, s1, h1⟩ := hole_key (m := 9) (hole_top r) nL hi
    obtain ⟨T2, u2, kd2, s2, h2⟩ := hole_key (m := 8) h1 nls hj
    obtain ⟨T3, u3, c, zs, rfl, hc, hz, pz, s3, h3⟩ := hole_item (m := 7) h2 hk
    obtain ⟨T4, u4, kd4, s4, h4⟩ := hole_key (m := 6) h3 nR hp
    obtain ⟨T5, u5, kd5, s5, h5⟩ := hole_key (m := 5) h4 nls2 hq
    refine ⟨T5, u5, .inr ⟨n1, nm, m, u1, c, zs, k0, u3, u4, rfl, kd1, kd2, hc, by rw [← pair_len pz]; exact l400, hz, fun j' r hr => ?_, kd4, kd5⟩, fun b hb => s1 b (s2 b (s3 b (s4 b (s5 b hb)))), h5⟩
    obtain ⟨dr, hdr, rr⟩ := pair_back pz hr
    obtain ⟨R', z, rfl, hid, hz'⟩ := hids j' dr hdr
    obtain ⟨u, _, kd, ru⟩ := rep_kid rr hid
    rw [int_of ru] at kd
    exact ⟨z, kd, hz'⟩
def deedD (w : List D) (x : D) : Op → D
  | .app => .tup [.str "append", .tup w, x]
  | .ins i => .tup [.str "insert", .tup w, .int i, x]
  | .cut => .tup [.str "cut", .tup w]
  | .rem i => .tup [.str "remove", .tup w, .int i]
  | .mov i j => .tup [.str "move", .tup w, .int i, .int j]
/-- what becomes of data by a deed -/
inductive Does : D → D → D → Prop
  | flag {L : List (Str × D)} {i : Nat} {fs : List (Str × D)} {j : Nat} {x : Str} {b : Bool} : (L.map (·.1)).Nodup → L[i]? = some (("flags" : Str), D.dic fs) → (fs.map (·.1)).Nodup → fs[j]? = some (x, .bl b) → fs.length ≤ 1000 → Does (.dic L) (.tup [.str "flag", .str x]) (.dic (L.set i ("flags", .dic (fs.set j (x, .bl (!b))))))
  | list {d : D} {w : List D} {C : D → D} {l : List D} {x : D} (o : Op) : Where d w C l → o.ok l.length → l.length ≤ 90000 → (o.new = true → pl 10 x ∧ dpt (lvW w) x) → Does d (deedD w x o) (C (.lst (o.run x l)))
  | field {d : D} {w : List D} {C : D → D} {l : List D} {i : Nat} {R : List (Str × D)} {p : Nat} {fs : List (Str × D)} {j : Nat} {f x : Str} {old : D} : Where d w C l → l.length ≤ 90000 → l[i]? = some (.dic R) → (R.map (·.1)).Nodup → R[p]? = some (("fields" : Str), D.dic fs) → (fs.map (·.1)).Nodup → fs[j]? = some (f, old) → fs.length ≤ 1000 →
      Does d (.tup [.str "field", .tup w, .int i, .str f, .str x]) (C (.lst (l.set i (.dic (R.set p ("fields", .dic (fs.set j (f, .str x))))))))
end Pk

namespace Pk
open PySem PySem.Spec PyProof.Rows L2 Ssb
open Evl (Ex Ev EvT EvL EvA EvU)
theorem seq_ix {j n : Nat} (h : j < n) : seqIndex? (j : Int) n = some j := by
  unfold seqIndex?
  have h0 : ¬ ((j : Int) < 0) := by omega
  simp [h0, h]
theorem get_last {α : Type} {xs : List α} (h : 0 < xs.length) : ∃ y, xs[xs.length - 1]? = some y := ⟨_, List.getElem?_eq_getElem (by omega)⟩
theorem upd_upd {H : Hp} {p : Addr} {o u : HO} : upd (upd H p o) p u = upd H p u := by
  funext b
  by_cases e : b = p
  · rw [e, upd_same, upd_same]
  · rw [upd_ne e, upd_ne e, upd_ne e]
theorem q_dput {td ty tv : TE} {tz : TS} {D_ : Ends} {σ : L2.St} {H : Hp} {a : Addr} {es : List (Key × V)} {k : Key} {vv : V} (hv : Ev tv σ H vv) (hd : Ev td σ H (.ref a)) (hk : Ev ty σ H (kV k)) (ha : H a = some (.dK es)) (l : es.length ≤ 90000) (q : ∀ H1, Ex H H1 → tz D_ σ (upd H1 a (.dK (putK es k vv)))) : tSeq (sDPut td ty tv) tz D_ σ H :=
  hv H (Ex.refl _) _ fun H1 e1 => hd H1 e1 _ fun H2 e2 => hk H2 (e1.trans e2) _ fun H3 e3 => ⟨a, _, rfl, .inl ⟨es, k, ((e1.trans e2).trans e3) _ _ ha, rfl, Evl.sz_lt (by omega), rfl⟩, q _ ((e1.trans e2).trans e3)⟩
theorem s_dput {td ty tv : TE} {D_ : Ends} {σ : L2.St} {H : Hp} {a : Addr} {es : List (Key × V)} {k : Key} {vv : V} (hv : Ev tv σ H vv) (hd : Ev td σ H (.ref a)) (hk : Ev ty σ H (kV k)) (ha : H a = some (.dK es)) (l : es.length ≤ 90000) (q : ∀ H1, Ex H H1 → D_.nx σ (upd H1 a (.dK (putK es k vv)))) : sDPut td ty tv D_ σ H :=
  hv H (Ex.refl _) _ fun H1 e1 => hd H1 e1 _ fun H2 e2 => hk H2 (e1.trans e2) _ fun H3 e3 => ⟨a, _, rfl, .inl ⟨es, k, ((e1.trans e2).trans e3) _ _ ha, rfl, Evl.sz_lt (by omega), rfl⟩, q _ ((e1.trans e2).trans e3)⟩
theorem lvW_k (w : List D) : ∃ k, lvW w = k + 3 := by
  match w with
  | [_] => exact ⟨4, rfl⟩
  | [] => exact ⟨1, rfl⟩
  | _ :: _ :: _ => exact ⟨1, rfl⟩
theorem q_go {te : TE} {i : Nat} {tz : TS} {D_ : Ends} {σ : L2.St} {H : Hp} (h : te σ H fun v H1 => tz D_ (σ.set i (some v)) H1) : tSeq (tAsg te (gName i)) tz D_ σ H := h
def opNm : Op → Str
  | .app => "append"
  | .ins _ => "insert"
  | .cut => "cut"
  | .rem _ => "remove"
  | .mov _ _ => "move"
def opRest : Op → D → List D
  | .app, x => [x]
  | .ins i, x => [.int i, x]
  | .cut, _ => []
  | .rem i, _ => [.int i]
  | .mov i j, _ => [.int i, .int j]
theorem opNm_flag : ∀ o : Op, decide (V.str (opNm o) = V.str "flag") = false
  | .app => by decide
  | .ins _ => by show decide (V.str "insert" = V.str "flag") = false; decide
  | .cut => by decide
  | .rem _ => by show decide (V.str "remove" = V.str "flag") = false; decide
  | .mov _ _ => by show decide (V.str "move" = V.str "flag") = false; decide
theorem deed_form (w : List D) (x : D) (o : Op) : deedD w x o = .tup (.str (opNm o) :: .tup w :: opRest o x) := by cases o <;> rfl
section
variable {P : Program} {w : World} {K : PySem.W.Frag} {mg : Str → Option Value} {base : Heap} {C_Shape C_FORMS : Addr}
def spDo : Sp := fun vs H Q _ => ∃ (v : V) (t : Addr) (d dd d' : D) (S S' : Addr → Prop), vs = [v, .ref t] ∧ Rep H 10 S d v ∧ pl 10 d ∧ Rep H 11 S' dd (.ref t) ∧ Does d dd d' ∧ ∀ H' v', Ex H H' → RepT H' 10 (fun b => H b = none) d' v' → Q v' H'
theorem ok_after_deed (T : Txt K mg C_Shape C_FORMS) (R : Prg K mg C_Shape C_FORMS) : ∃ f fd, Fn P w K mg base "after_deed" 12 ["data", "deed"] spDo f fd := by
  obtain ⟨_, _, G_fresh⟩ := ok_freshT (P := P) (w := w) (base := base) T R 10
  obtain ⟨_, _, G_rows_at⟩ := ok_rows_at (P := P) (w := w) (base := base) T R
  obtain ⟨f, fd, at_, F, kp⟩ := R.after_deed
  refine ⟨f, fd, F.ok sc_after_deed (fun vs H Q E h => ?_) (fun cdv A outer s H vs Q E hr h => ?_), at_, kp, F.binds (fun _ _ _ _ _ _ us hl => match us, hl with | [_, _], _ => rfl)⟩
  · obtain ⟨v, t, d, dd, d', S, S', rfl, _⟩ := h; rfl
  · obtain ⟨v, t, d, dd, d', S, S', rfl, hv, hpl, hdd, does, k⟩ := h
    refine ⟨_, (pss_cons (ps_set (i := 2) sc_after_deed.nd rfl (Or.inl rfl) (pcl G_fresh hr (pa_cons (pv 0) pa_nil)))
  (pss_cons (ps_if (pt_cmpR op_eq (pe_ix (r := rIxT K) ix_tup (pv 1) pe_int (fun _ _ => rfl)) pe_str (nomark _)) (pss_cons (ps_dput (hu_of hr) (pe_dget (hu_of hr) (pv 2) pe_str (fun _ _ => rfl)) (pe_ix (r := rIxT K) ix_tup (pv 1) pe_int (fun _ _ => rfl)) (pe_not (pe_dget (hu_of hr) (pe_dget (hu_of hr) (pv 2) pe_str (fun _ _ => rfl)) (pe_ix (r := rIxT K) ix_tup (pv 1) pe_int (fun _ _ => rfl)) (fun _ _ => rfl))) rfl)
  (pss_one (ps_ret (pv 2)))) pss_nil)
  (pss_cons (ps_set (i := 3) sc_after_deed.nd rfl (Or.inl rfl) (pcl G_rows_at hr (pa_cons (pv 2) (pa_cons (pe_ix (r := rIxT K) ix_tup (pv 1) pe_int (fun _ _ => rfl)) pa_nil))))
  (pss_cons (ps_if (pt_cmpR op_eq (pe_ix (r := rIxT K) ix_tup (pv 1) pe_int (fun _ _ => rfl)) pe_str (nomark _)) (pss_one (ps_expr (show PE _ _ (tBM K _ _ _ _) from pe_bm PySem.F.plainAttrs_list PySem.F.slot_list_append PySem.F.type_list_append mt_append (pv 3) (pa_cons (pcl G_fresh hr (pa_cons (pe_ix (r := rIxT K) ix_tup (pv 1) pe_int (fun _ _ => rfl)) pa_nil)) pa_nil)))) (pss_one (ps_if (pt_cmpR op_eq (pe_ix (r := rIxT K) ix_tup (pv 1) pe_int (fun _ _ => rfl)) pe_str (nomark _)) (pss_one (ps_expr (show PE _ _ (tBM0 K _ _ _) from pe_bm0 PySem.F.plainAttrs_list PySem.F.slot_list_pop PySem.F.type_list_pop mt_pop (pv 3)))) (pss_one (ps_if (pt_cmpR op_eq (pe_ix (r := rIxT K) ix_tup (pv 1) pe_int (fun _ _ => rfl)) pe_str (nomark _)) (pss_one (ps_expr (show PE _ _ (tBM K _ _ _ _) from pe_bm PySem.F.plainAttrs_list PySem.F.slot_list_insert PySem.F.type_list_insert mt_insert (pv 3) (pa_cons (pe_ix (r := rIxT K) ix_tup (pv 1) pe_int (fun _ _ => rfl)) (pa_cons (pcl G_fresh hr (pa_cons (pe_ix (r := rIxT K) ix_tup (pv 1) pe_int (fun _ _ => rfl)) pa_nil)) pa_nil))))) (pss_one (ps_if (pt_cmpR op_eq (pe_ix (r := rIxT K) ix_tup (pv 1) pe_int (fun _ _ => rfl)) pe_str (nomark _)) (pss_one (ps_expr (show PE _ _ (tBM K _ _ _ _) from pe_bm PySem.F.plainAttrs_list PySem.F.slot_list_pop PySem.F.type_list_pop mt_popAt (pv 3) (pa_cons (pe_ix (r := rIxT K) ix_tup (pv 1) pe_int (fun _ _ => rfl)) pa_nil)))) (pss_one (ps_if (pt_cmpR op_eq (pe_ix (r := rIxT K) ix_tup (pv 1) pe_int (fun _ _ => rfl)) pe_str (nomark _)) (pss_one (ps_expr (show PE _ _ (tBM K _ _ _ _) from pe_bm PySem.F.plainAttrs_list PySem.F.slot_list_insert PySem.F.type_list_insert mt_insert (pv 3) (pa_cons (pe_ix (r := rIxT K) ix_tup (pv 1) pe_int (fun _ _ => rfl)) (pa_cons (show PE _ _ (tBM K _ _ _ _) from pe_bm PySem.F.plainAttrs_list PySem.F.slot_list_pop PySem.F.type_list_pop mt_popAt (pv 3) (pa_cons (pe_ix (r := rIxT K) ix_tup (pv 1) pe_int (fun _ _ => rfl)) pa_nil)) pa_nil))))) (pss_one (ps_dput (hu_of hr) (pe_dget (hu_of hr) (pe_ix (r := rIxL K) ix_list (pv 3) (pe_ix (r := rIxT K) ix_tup (pv 1) pe_int (fun _ _ => rfl)) (fun _ _ => rfl)) pe_str (fun _ _ => rfl)) (pe_ix (r := rIxT K) ix_tup (pv 1) pe_int (fun _ _ => rfl)) (pe_ix (r := rIxT K) ix_tup (pv 1) pe_int (fun _ _ => rfl)) rfl)))))))))))
  (pss_one (ps_ret (pv 2))))))), ?_⟩
    refine ⟨_, rfl, v, S, d, rfl, hv, hpl, fun H1 v1 e1 r1 => ?_⟩
    refine gname_go ?_
    have hdd1 := rep_ex e1 hdd
    have tst : ∀ {H4 H5 : Hp} {σ : L2.St} {zs : List V} {a b : Str} (r : Bool), Ex H4 H5 → H4 t = some (.tup zs) → σ[1]? = some (some (.ref t)) → zs[0]? = some (.str a) → decide (V.str a = V.str b) = r → EvT (tTest (tOp rEq (tOp (rIxT K) (tVar 1) (tC (.int 0))) (tC (.str b)))) σ H5 r := fun r e ht hs h0 hr => Evl.et_is (Evl.et_test (Evl.ev_op (Evl.ev_op (Evl.ev_var hs) Evl.ev_c (Evl.rv_ixT (Evl.st_of (e _ _ ht)) (atI_nat (j := 0) h0))) Evl.ev_c (Evl.rv_eq rfl))) hr
    cases does with
    | @flag L i fs j x b nL hi nf hj f1 =>
      obtain ⟨a, xs, ea, ht, _, pr⟩ := id hdd1
      cases ea
      cases pr with
      | cons h0 pr =>
      cases pr with
      | cons h1 pr =>
      cases pr
      have h0 := str_of h0; have h1 := str_of h1
      subst h0 h1
      refine Evl.q_when (b := true) (tst (a := "flag") (b := "flag") true (Ex.refl _) ht rfl rfl (by decide)) (fun _ H2 e2 => ?_) (fun h => nomatch h)
      have r2 := rt_ex e2 r1
      have e02 := e1.trans e2
      obtain ⟨T1, u1, kd1, s1, h1⟩ := hole_key (m := 9) (hole_top r2) nL hi
      obtain ⟨_, ub, kdb, _, hb⟩ := hole_key (m := 8) h1 nf hj
      have eb : ub = .bl b := hb.1
      subst eb
      obtain ⟨c, es, rfl, Tc, hc, le, up⟩ := hole_val (m := 8) (d' := .bl (!b)) (x := .bl (!b)) h1 nf hj (fun _ _ => rfl)
      have hcH : H c = none := s1 c Tc
      have ht2 := e2 _ _ ht
      have ix : ∀ {H3 : Hp}, Ex H2 H3 → Ev (tOp (rIxT K) (tVar 1) (tC (.int 1))) [some v, some (.ref t), some v1, none] H3 (.str x) := fun e => Evl.ev_op (Evl.ev_var rfl) Evl.ev_c (Evl.rv_ixT (Evl.st_of (e _ _ ht2)) (atI_nat (j := 1) rfl))
      refine q_dput (k := Sum.inr x) (vv := .bl (!b)) (Evl.ev_notV (ev_kid (ev_kid (Evl.ev_var rfl) Evl.ev_c kd1) (ix (Ex.refl _)) kdb)) (ev_kid (Evl.ev_var rfl) Evl.ev_c kd1) (ix (Ex.refl _)) hc (by omega) fun H3 e3 => ?_
      exact Evl.s_ret (Evl.ev_var rfl) fun H4 e4 => k H4 v1 ((Ex.mut (e02.trans e3) hcH).trans e4) (rt_ex e4 (rt_S (fun b hb => hb.elim id fun z => Evl.fresh_back e02 z) (up H3 e3)))
    | @list _ w0 C l x o hw ho l9 hx =>
      rw [deed_form] at hdd1
      obtain ⟨a, zs, ea, ht, _, pr⟩ := id hdd1
      cases ea
      cases pr with
      | cons h0 pr =>
      cases pr with
      | cons h1 pr =>
      rename_i z0 _ z1 zr
      have h0 := str_of h0
      subst h0
      obtain ⟨tw, ws, rfl, htw, _, pw⟩ := id h1
      refine Evl.q_when (b := false) (tst (a := opNm o) (b := "flag") false (Ex.refl _) ht rfl rfl (opNm_flag o)) (fun h => nomatch h) (fun _ H2 e2 => ?_)
      have r2 := rt_ex e2 r1
      have e02 := e1.trans e2
      obtain ⟨T1, u, rp, s1, hole⟩ := where_hole hw r2 pw
      refine q_go ⟨_, rfl, _, rfl, t, _, 1, .ref tw, rfl, rfl, Evl.st_of (e2 _ _ ht), atI_nat (j := 1) rfl, v1, u, tw, ws, rfl, e2 _ _ htw, rp, fun H4 e4 => ?_⟩
      obtain ⟨c, xs, rfl, Tc, hc, lx, up⟩ := hole_op hole l9
      have hcH : H c = none := s1 c Tc
      have ht4 := e4 _ _ (e2 _ _ ht)
      have hc4 := e4 _ _ hc
      have e14 := e2.trans e4
      have prx := pair_imp pr fun a b h => rep_ex e14 h
      have e04 := e02.trans e4
      have fin : ∀ (xv : V) (H8 : Hp), Ex H4 H8 → (o.new = true → RepT H8 10 (fun b => H2 b = none) x xv) → ∀ H9, Ex (upd H8 c (.lst (o.run xv xs))) H9 → Q v1 H9 := fun xv H8 e8 hx8 H9 e9 => by
        have r9 := up o H8 x xv (e4.trans e8) fun hn => rt_down (hx hn).2 (hx8 hn)
        refine k H9 v1 ((Ex.mut (e04.trans e8) hcH).trans e9) (rt_ex e9 (rt_S (fun b hb => hb.elim id fun z => Evl.fresh_back e02 z) r9))
      have l9x : xs.length ≤ 90000 := by omega
      cases o with
      | app =>
        cases prx with
        | @cons _ x1 _ _ hx1 prx =>
        cases prx
        refine Evl.q_if (tst (a := "append") (b := "append") true (Ex.refl H4) ht4 rfl rfl (by decide)) (fun _ H5 e5 => ?_) (fun h => nomatch h)
        have ea := e5
        have hca := ea _ _ hc4
        have hta := ea _ _ ht4
        refine ⟨_, rfl, .inl ⟨rfl, _, Evl.sq_of hca⟩, _, rfl, t, _, 2, x1, rfl, rfl, Evl.st_of hta, rfl, x1, S', x, rfl, rep_ex ea hx1, (hx rfl).1, fun H8 v8 e8 r8 => ?_⟩
        have e48 := ea.trans e8
        refine ⟨c, xs, v8, rfl, rfl, e8 _ _ hca, Evl.sz_lt (by omega), ?_⟩
        exact Evl.s_ret (Evl.ev_var rfl) (fin v8 H8 e48 fun _ => rt_S (fun b hb => Evl.fresh_back (e4.trans ea) hb) r8)
      | ins i =>
        cases prx with
        | @cons _ xi _ _ hi1 prx =>
        cases prx with
        | @cons _ x1 _ _ hx1 prx =>
        cases prx
        have hi1 := int_of hi1
        subst hi1
        refine Evl.q_if (tst (a := "insert") (b := "append") false (Ex.refl H4) ht4 rfl rfl (by decide)) (fun h => nomatch h) (fun _ H5 e5 => ?_)
        refine Evl.s_if (tst (a := "insert") (b := "cut") false e5 ht4 rfl rfl (by decide)) (fun h => nomatch h) (fun _ H6 e6 => ?_)
        refine Evl.s_if (tst (a := "insert") (b := "insert") true (e5.trans e6) ht4 rfl rfl (by decide)) (fun _ H7 e7 => ?_) (fun h => nomatch h)
        have ea := ((e5.trans e6).trans e7)
        have hca := ea _ _ hc4
        have hta := ea _ _ ht4
        refine ⟨_, rfl, .inl ⟨rfl, _, Evl.sq_of hca⟩, _, rfl, t, _, 2, .int (i : Int), rfl, rfl, Evl.st_of hta, rfl, _, rfl, t, _, 3, x1, rfl, rfl, Evl.st_of hta, rfl, x1, S', x, rfl, rep_ex ea hx1, (hx rfl).1, fun H8 v8 e8 r8 => ?_⟩
        have e48 := ea.trans e8
        have ho : i ≤ l.length := ho
        refine ⟨c, xs, (i : Int), v8, rfl, rfl, e8 _ _ hca, Evl.sz_lt (by omega), by omega, by omega, ?_⟩
        rw [Int.toNat_natCast]
        exact Evl.s_ret (Evl.ev_var rfl) (fin v8 H8 e48 fun _ => rt_S (fun b hb => Evl.fresh_back (e4.trans ea) hb) r8)
      | cut =>
        refine Evl.q_if (tst (a := "cut") (b := "append") false (Ex.refl H4) ht4 rfl rfl (by decide)) (fun h => nomatch h) (fun _ H5 e5 => ?_)
        refine Evl.s_if (tst (a := "cut") (b := "cut") true e5 ht4 rfl rfl (by decide)) (fun _ H6 e6 => ?_) (fun h => nomatch h)
        have ea := (e5.trans e6)
        have hca := ea _ _ hc4
        have hta := ea _ _ ht4
        have ho : 0 < l.length := ho
        obtain ⟨y, hy⟩ := get_last (xs := xs) (by omega)
        refine ⟨_, rfl, .inl ⟨rfl, _, Evl.sq_of hca⟩, c, xs, y, rfl, rfl, hca, hy, ?_⟩
        exact Evl.s_ret (Evl.ev_var rfl) (fin .non _ ea fun h => nomatch h)
      | rem i =>
        cases prx with
        | @cons _ xi _ _ hi1 prx =>
        cases prx
        have hi1 := int_of hi1
        subst hi1
        refine Evl.q_if (tst (a := "remove") (b := "append") false (Ex.refl H4) ht4 rfl rfl (by decide)) (fun h => nomatch h) (fun _ H5 e5 => ?_)
        refine Evl.s_if (tst (a := "remove") (b := "cut") false e5 ht4 rfl rfl (by decide)) (fun h => nomatch h) (fun _ H6 e6 => ?_)
        refine Evl.s_if (tst (a := "remove") (b := "insert") false (e5.trans e6) ht4 rfl rfl (by decide)) (fun h => nomatch h) (fun _ H7 e7 => ?_)
        refine Evl.s_if (tst (a := "remove") (b := "remove") true ((e5.trans e6).trans e7) ht4 rfl rfl (by decide)) (fun _ H8 e8 => ?_) (fun h => nomatch h)
        have ea := (((e5.trans e6).trans e7).trans e8)
        have hca := ea _ _ hc4
        have hta := ea _ _ ht4
        have ho : i < l.length := ho
        have hy := List.getElem?_eq_getElem (l := xs) (i := i) (by omega)
        refine ⟨_, rfl, .inl ⟨rfl, _, Evl.sq_of hca⟩, _, rfl, t, _, 2, .int (i : Int), rfl, rfl, Evl.st_of hta, rfl, c, xs, (i : Int), i, _, rfl, rfl, hca, by omega, by omega, seq_ix (by omega), hy, ?_⟩
        exact Evl.s_ret (Evl.ev_var rfl) (fin .non _ ea fun h => nomatch h)
      | mov i j =>
        cases prx with
        | @cons _ xi _ _ hi1 prx =>
        cases prx with
        | @cons _ xj _ _ hj1 prx =>
        cases prx
        have hi1 := int_of hi1
        have hj1 := int_of hj1
        subst hi1 hj1
        refine Evl.q_if (tst (a := "move") (b := "append") false (Ex.refl H4) ht4 rfl rfl (by decide)) (fun h => nomatch h) (fun _ H5 e5 => ?_)
        refine Evl.s_if (tst (a := "move") (b := "cut") false e5 ht4 rfl rfl (by decide)) (fun h => nomatch h) (fun _ H6 e6 => ?_)
        refine Evl.s_if (tst (a := "move") (b := "insert") false (e5.trans e6) ht4 rfl rfl (by decide)) (fun h => nomatch h) (fun _ H7 e7 => ?_)
        refine Evl.s_if (tst (a := "move") (b := "remove") false ((e5.trans e6).trans e7) ht4 rfl rfl (by decide)) (fun h => nomatch h) (fun _ H8 e8 => ?_)
        refine Evl.s_if (tst (a := "move") (b := "move") true (((e5.trans e6).trans e7).trans e8) ht4 rfl rfl (by decide)) (fun _ H9 e9 => ?_) (fun h => nomatch h)
        have ea := ((((e5.trans e6).trans e7).trans e8).trans e9)
        have hca := ea _ _ hc4
        have hta := ea _ _ ht4
        have ho : i < l.length ∧ j < l.length := ho
        have hy := List.getElem?_eq_getElem (l := xs) (i := i) (by omega)
        have f9 := fin .non _ ea fun h => nomatch h
        have er : (Op.mov i j).run V.non xs = (xs.eraseIdx i).take j ++ [xs[i]] ++ (xs.eraseIdx i).drop j := by simp only [Op.run, hy]
        rw [er, ← upd_upd (o := .lst (xs.eraseIdx i))] at f9
        have le9 : (xs.eraseIdx i).length ≤ xs.length := (List.eraseIdx_sublist _ _).length_le
        refine ⟨_, rfl, .inl ⟨rfl, _, Evl.sq_of hca⟩, _, rfl, t, _, 3, .int (j : Int), rfl, rfl, Evl.st_of hta, rfl, _, rfl, .inl ⟨rfl, _, Evl.sq_of hca⟩, _, rfl, t, _, 2, .int (i : Int), rfl, rfl, Evl.st_of hta, rfl, c, xs, (i : Int), i, _, rfl, rfl, hca, by omega, by omega, seq_ix (by omega), hy, ?_⟩
        refine ⟨c, _, (j : Int), _, rfl, rfl, upd_same, Evl.sz_lt (by omega), by omega, by omega, ?_⟩
        rw [Int.toNat_natCast]
        exact Evl.s_ret (Evl.ev_var rfl) f9
    | @field _ w0 C l i R p fs j f x old hw l9 hi nR hp nf hj f1 =>
      obtain ⟨a, zs, ea, ht, _, pr⟩ := id hdd1
      cases ea
      cases pr with
      | cons h0 pr =>
      cases pr with
      | cons h1 pr =>
      cases pr with
      | cons h2 pr =>
      cases pr with
      | cons h3 pr =>
      cases pr with
      | cons h4 pr =>
      cases pr
      have h0 := str_of h0; have h2 := int_of h2; have h3 := str_of h3; have h4 := str_of h4
      subst h0 h2 h3 h4
      obtain ⟨tw, ws, rfl, htw, _, pw⟩ := id h1
      refine Evl.q_when (b := false) (tst (a := "field") (b := "flag") false (Ex.refl _) ht rfl rfl (by decide)) (fun h => nomatch h) (fun _ H2 e2 => ?_)
      have r2 := rt_ex e2 r1
      have e02 := e1.trans e2
      obtain ⟨T1, u, rp, s1, hole⟩ := where_hole hw r2 pw
      obtain ⟨lv, hlv⟩ := lvW_k w0
      rw [hlv] at hole
      refine q_go ⟨_, rfl, _, rfl, t, _, 1, .ref tw, rfl, rfl, Evl.st_of (e2 _ _ ht), rfl, v1, u, tw, ws, rfl, e2 _ _ htw, rp, fun H4 e4 => ?_⟩
      obtain ⟨T2, u2, c, xs, rfl, hc, hxs, _, s2, hole2⟩ := hole_item (m := lv + 3) hole hi
      obtain ⟨T3, u3, kd3, s3, hole3⟩ := hole_key (m := lv + 2) hole2 nR hp
      obtain ⟨c3, es, rfl, Tc, hc3, le, up⟩ := hole_val (m := lv + 1) (d' := .str x) (x := .str x) hole3 nf hj (fun _ _ => rfl)
      have hcH : H c3 = none := s1 c3 (s2 c3 (s3 c3 Tc))
      have e04 := e02.trans e4
      have ht4 := e4 _ _ (e2 _ _ ht)
      have hc4 := e4 _ _ hc
      have hc34 := e4 _ _ hc3
      have kd4 := kd3.ex e4
      have fin : ∀ {H8 : Hp}, Ex H4 H8 → ∀ H9, Ex (upd H8 c3 (.dK (putK es (Sum.inr f) (.str x)))) H9 → Q v1 H9 := fun {H8} e8 H9 e9 => by
        refine k H9 v1 ((Ex.mut (e04.trans e8) hcH).trans e9) (rt_ex e9 (rt_S (fun b hb => hb.elim id fun z => Evl.fresh_back e02 z) (up H8 (e4.trans e8))))
      refine Evl.q_if (tst (a := "field") (b := "append") false (Ex.refl H4) ht4 rfl rfl (by decide)) (fun h => nomatch h) (fun _ H5 e5 => ?_)
      refine Evl.s_if (tst (a := "field") (b := "cut") false e5 ht4 rfl rfl (by decide)) (fun h => nomatch h) (fun _ H6 e6 => ?_)
      refine Evl.s_if (tst (a := "field") (b := "insert") false (e5.trans e6) ht4 rfl rfl (by decide)) (fun h => nomatch h) (fun _ H7 e7 => ?_)
      refine Evl.s_if (tst (a := "field") (b := "remove") false ((e5.trans e6).trans e7) ht4 rfl rfl (by decide)) (fun h => nomatch h) (fun _ H8 e8 => ?_)
      refine Evl.s_if (tst (a := "field") (b := "move") false (((e5.trans e6).trans e7).trans e8) ht4 rfl rfl (by decide)) (fun h => nomatch h) (fun _ H9 e9 => ?_)
      have ea := (((e5.trans e6).trans e7).trans e8).trans e9
      have ix : ∀ {jn : Nat} {y : V} {Hx : Hp} {σ : L2.St}, Ex H4 Hx → σ[1]? = some (some (.ref t)) → [V.str "field", .ref tw, .int (i : Int), .str f, .str x][jn]? = some y → Ev (tOp (rIxT K) (tVar 1) (tC (.int (jn : Int)))) σ Hx y := fun e hs hy => Evl.ev_op (Evl.ev_var hs) Evl.ev_c (Evl.rv_ixT (Evl.st_of (e _ _ ht4)) (atI_nat hy))
      have row : ∀ {Hx : Hp} {σ : L2.St}, Ex H4 Hx → σ[1]? = some (some (.ref t)) → σ[3]? = some (some (.ref c)) → Ev (tDGet (tOp (rIxL K) (tVar 3) (tOp (rIxT K) (tVar 1) (tC (.int 2)))) (tC (.str "fields"))) σ Hx (.ref c3) := fun e hs h3 => ev_kid (Evl.ev_op (Evl.ev_var h3) (ix (jn := 2) e hs rfl) (Evl.rv_ixL (Evl.sq_of (e _ _ hc4)) (atI_nat hxs))) Evl.ev_c (kd4.ex e)
      refine s_dput (k := Sum.inr f) (vv := .str x) (ix (jn := 4) ea rfl rfl) (row ea rfl rfl) (ix (jn := 3) ea rfl rfl) (ea _ _ hc34) (by omega) fun Ha eb => ?_
      exact Evl.s_ret (Evl.ev_var rfl) (fin (ea.trans eb))
end
end Pk

namespace Pk
open PySem PySem.Spec PyProof.Rows L2 Ssb
open Evl (Ex Ev EvT EvL EvA EvU)
theorem lk_of_mem {α : Type} : ∀ {l : List (Str × α)} {k : Str} {x : α}, (l.map (·.1)).Nodup → (k, x) ∈ l → l.lookup k = some x
  | (j, d) :: l, k, x, nd, h => by
    rw [List.map_cons, List.nodup_cons] at nd
    rw [lk_cons]
    rcases List.mem_cons.mp h with h | h
    · cases h; rw [if_pos rfl]
    · rw [if_neg (fun e => nd.1 (by rw [← e]; exact List.mem_map.mpr ⟨_, h, rfl⟩))]
      exact lk_of_mem nd.2 h
theorem pair_mk {α β : Type} {F : α → β → Prop} : ∀ {l : List α}, (∀ (i : Nat) (a : α), l[i]? = some a → ∃ b, F a b) → ∃ m, Paired F l m
  | [], _ => ⟨[], .nil⟩
  | a :: l, h => by
    obtain ⟨b, hb⟩ := h 0 a rfl
    obtain ⟨m, hm⟩ := pair_mk (l := l) fun i x hx => h (i + 1) x (by simpa using hx)
    exact ⟨b :: m, .cons hb hm⟩
/-- the lists of the shape that a deed's place names -/
def KdW (s : Sh) (w : List D) (nm : Str) : Prop := (w = [.str nm] ∧ nm ∈ kids s none) ∨ ∃ (n1 : Str) (m : Int), w = [.str n1, .int m, .str nm] ∧ n1 ∈ kids s none ∧ nm ∈ kids s (some n1) ∧ 0 ≤ m ∧ m ≤ 1000000
/-- the rows that a deed speaks of, in data that nobody changes -/
theorem where_rep {H : Hp} {S S' : Addr → Prop} {v : V} {d : D} {w : List D} {C : D → D} {l : List D} {nm : Str} {s : Sh} (h : Where d w C l) (r : Rep H 10 S d v) {H2 : Hp} {k : Nat} {xs : List V} (pw : Paired (fun d x => Rep H2 k S' d x) w xs) (kd : KdW s w nm) :
    ∃ (L ls : List (Str × D)) (u : V) (m : Nat) (S2 : Addr → Prop), d = .dic L ∧ L.lookup ("lists" : Str) = some (.dic ls) ∧ AtW s ls xs nm ∧ RowsP H v xs u ∧ Rep H m S2 (.lst l) u := by
  rcases h with ⟨nm', L, i, ls, j, rfl, rfl, nL, hi, nls, hj, rfl⟩ | ⟨n1, nm', m, L, i, ls, j, rs, k0, R, p, ls2, q, rfl, rfl, nL, hi, nls, hj, l400, hk, hids, nR, hp, nls2, hq, rfl⟩
  · cases pw with
    | cons h0 pw =>
    cases pw
    rw [str_of h0]
    have hL := lk_of_mem nL (List.mem_of_getElem? hi)
    have hl := lk_of_mem nls (List.mem_of_getElem? hj)
    obtain ⟨u1, _, kd1, r1⟩ := rep_kid r hL
    obtain ⟨u2, _, kd2, r2⟩ := rep_kid r1 hl
    rcases kd with ⟨e, hk⟩ | ⟨_, _, e, _⟩
    · cases e
      exact ⟨L, ls, u2, _, _, rfl, hL, .inl ⟨rfl, hk⟩, .inl ⟨nm, u1, rfl, kd1, kd2⟩, r2⟩
    · cases e
  · cases pw with
    | cons h0 pw =>
    cases pw with
    | cons h1' pw =>
    cases pw with
    | cons h2' pw =>
    cases pw
    rw [str_of h0, int_of h1', str_of h2']
    have hL := lk_of_mem nL (List.mem_of_getElem? hi)
    have hl := lk_of_mem nls (List.mem_of_getElem? hj)
    have hR := lk_of_mem nR (List.mem_of_getElem? hp)
    have hl2 := lk_of_mem nls2 (List.mem_of_getElem? hq)
    obtain ⟨u1, _, kd1, r1⟩ := rep_kid r hL
    obtain ⟨u2, _, kd2, r2⟩ := rep_kid r1 hl
    obtain ⟨c, zs, rfl, _, hc, _, pz⟩ := r2
    obtain ⟨row, hrow, rrow⟩ := pair_at pz hk
    obtain ⟨u4, _, kd4, r4⟩ := rep_kid rrow hR
    obtain ⟨u5, _, kd5, r5⟩ := rep_kid r4 hl2
    rcases kd with ⟨e, _⟩ | ⟨n1', m', e, k1, k2, m0, m1⟩
    · cases e
    · cases e
      obtain ⟨ids, pi⟩ := pair_mk (F := fun (row : D) (i : Int) => ∃ l, row = .dic l ∧ l.lookup ("id" : Str) = some (.int i)) (l := rs) fun i a ha => by
        obtain ⟨R', z, e, hz, _⟩ := hids i a ha
        exact ⟨z, R', e, hz⟩
      refine ⟨L, ls, u5, _, _, rfl, hL, .inr ⟨n1, m, rs, ids, rfl, k1, k2, hl, l400, pi, ?_, m0, m1⟩, .inr ⟨n1, nm, m, u1, c, zs, k0, row, u4, rfl, kd1, kd2, hc, by rw [← pair_len pz]; exact l400, hrow, fun j' r hr => ?_, kd4, kd5⟩, r5⟩
      · obtain ⟨R', z, e, hz, hz'⟩ := hids k0 _ hk
        obtain ⟨b, hb, R2, e2, hb2⟩ := pair_at pi hk
        rw [e] at e2; cases e2
        rw [hz] at hb2; cases hb2
        rw [← hz'.mpr rfl]
        exact List.mem_of_getElem? hb
      · obtain ⟨dr, hdr, rr⟩ := pair_back pz hr
        obtain ⟨R', z, rfl, hid, hz'⟩ := hids j' dr hdr
        obtain ⟨u, _, kd, ru⟩ := rep_kid rr hid
        rw [int_of ru] at kd
        exact ⟨z, kd, hz'⟩
section
variable {P : Program} {w : World} {K : PySem.W.Frag} {mg : Str → Option Value} {base : Heap} {C_Shape C_FORMS : Addr}
theorem ok_check_row2 (T : Txt K mg C_Shape C_FORMS) (R : Prg K mg C_Shape C_FORMS) : ∃ f fd, Fn P w K mg base "check_row" 8 ["shape", "name", "row", "earlier", "here"] (spCx C_Shape 1) f fd :=
  ok_check_row T R (by decide) (ok_check_lists T R (ok_check_rows T R (ok_check_row T R (by decide) (ok_check_lists T R (ok_check_rows0 T R)))))
def spRF (C : Addr) : Sp := fun vs H Q _ => ∃ (p c : Addr) (v rv : V) (n n2 : Nat) (S S2 S' : Addr → Prop) (d row : D) (fl : List Str) (s : Sh) (r : Ro) (id : Int) (ids : List Int) (xs : List V), vs = [.ref p, v, .str r.1, .ref c, rv] ∧ ShapeAt C H p fl s S' ∧ okSh s ∧ r ∈ rowsS s ∧ Rep H n S d v ∧ wfR 3 d ∧
  Rep H n2 S2 row rv ∧ okRow s 1 r row id ∧ wfR 3 row ∧ H c = some (.lst xs) ∧ xs.length ≤ 400 ∧ ids.Nodup ∧ Paired (fun (i : Int) x => Kid H x "id" (.int i)) ids xs ∧ id ∉ ids ∧ ∀ H', Ex H H' → Q (.bl (decide (rowsN 3 d + 1 + rowsN 3 row ≤ 300))) H'
theorem ok_row_fits (T : Txt K mg C_Shape C_FORMS) (R : Prg K mg C_Shape C_FORMS) : ∃ f fd, Fn P w K mg base "row_fits" 9 ["shape", "data", "name", "rows", "row"] (spRF C_Shape) f fd := by
  obtain ⟨_, _, G_check_row⟩ := ok_check_row2 (P := P) (w := w) (base := base) T R
  obtain ⟨_, _, G_rows_in⟩ := ok_rows_in (P := P) (w := w) (base := base) T R 3
  obtain ⟨tG, gG⟩ := T.g_MOST_ROWS
  obtain ⟨f, fd, at_, F, kp⟩ := R.row_fits
  refine ⟨f, fd, F.ok sc_row_fits (fun vs H Q E h => ?_) (fun cdv A outer s H vs Q E hr h => ?_), at_, kp, F.binds (fun _ _ _ _ _ _ us hl => match us, hl with | [_, _, _, _, _], _ => rfl)⟩
  · obtain ⟨p, c, v, rv, n, n2, S, S2, S', d, row, fl, s, r, id, ids, xs, rfl, _⟩ := h; rfl
  · obtain ⟨p, c, v, rv, n, n2, S, S2, S', d, row, fl, z, r, id, ids, xs, rfl, hS, hz, hr1, hv, wf, hrv, okr, wfr, hc, l400, ndi, prs, nid, k⟩ := h
    have li := pair_len prs
    refine ⟨_, (pss_cons (ps_try_thru0 (pss_one (ps_expr (pcl G_check_row hr (pa_cons (pv 0) (pa_cons (pv 2) (pa_cons (pv 4) (pa_cons (pe_dc (own := [("other", 5)]) rfl sc_row_fits.nd (show PI _ _ _ (iList K _) from pi_list (pv 3)) (blkOk_by (own := [("other", 5)]) (N := ["shape", "data", "name", "rows", "row", "other"]) (sc := defScope s_row_fits) (by decide +kernel)) (fun _ _ _ _ _ => (pg_name (i := 5) sc_row_fits.nd rfl (Or.inl rfl))) (fun _ _ _ _ _ => pts_nil) (fun _ _ _ _ _ => (pe_dget (hu_of hr) (pv 5) pe_str (fun _ _ => rfl))) (fun _ _ _ _ _ => pe_bl)) (pa_cons (pe_tup pa_nil) pa_nil)))))))))
  (pss_one (ps_ret (pe_cmpR op_le (pe_op op_add (pe_op op_add (pcl G_rows_in hr (pa_cons (pv 1) pa_nil)) pe_int) (pcl G_rows_in hr (pa_cons (pv 4) pa_nil))) (pe_glob (v := .int 300) rfl gG ⟨_, rfl⟩) (nomark _))))), ?_⟩
    refine ⟨_, rfl, _, rfl, _, rfl, _, rfl, c, rfl, ⟨xs, Evl.sq_of hc⟩, fun Dl hD => ?_⟩
    refine dc_it (walk_list (K := K) (a := c) (xs := xs)) (vs := [5]) (fun i H' => Ex H H' ∧ H' Dl = some (.dK (idE (ids.take i)))) ⟨Ex.new hD, upd_same⟩ (fun i H' _ p => Evl.sq_of (p.1 _ _ hc)) (fun i x H0 H' hi pv y => ?_) fun H1 pv => ?_
    · obtain ⟨e, hes⟩ := pv
      obtain ⟨rfl, hx⟩ := y
      obtain ⟨q, hq, kq⟩ := pair_back prs hx
      have tk : ids.take (i + 1) = ids.take i ++ [q] := take_snoc hq
      refine ⟨rfl, yes_go ?_⟩
      refine ev_kid (Evl.ev_var rfl) Evl.ev_c (kq.ex e) _ (Ex.refl _) _ fun H2 e2 => ?_
      refine ⟨idE (ids.take i), Sum.inl q, rfl, e2 _ _ hes, ?_, Ex.mut (e.trans e2) hD, ?_⟩
      · unfold idE; rw [List.length_map, List.length_take]; exact Evl.sz_lt (by omega)
      · rw [upd_same, putK_new _ (idE_no (not_take ndi hq)), tk]
        unfold idE; rw [List.map_append]; rfl
    obtain ⟨e1, hes⟩ := pv
    rw [← li, List.take_of_length_le (Nat.le_refl _)] at hes
    refine ⟨(by show 0 ≤ sizeLine; decide), fun tp htp => ?_⟩
    have e2 : Ex H1 (upd H1 tp (.tup [])) := Ex.new htp
    have e02 := e1.trans e2
    refine ⟨p, Dl, rv, .ref tp, n2, S2, row, fl, z, S', r, 0, ids, id, rfl, hS.ex e02, hz, hr1, rep_ex e02 hrv, okr, e2 _ _ hes, nid, ⟨tp, [], rfl, upd_same, Nat.le_refl _⟩, by omega, fun H3 e3 => ?_⟩
    have e03 := e02.trans e3
    have ri : ∀ {H4 : Hp} {i m : Nat} {S0 : Addr → Prop} {d0 : D} {v0 : V} {σ : L2.St}, Ex H H4 → σ[i]? = some (some v0) → Rep H m S0 d0 v0 → wfR 3 d0 → Ev (tCall (spRi 3) [] E0 (tCons (tVar i) tNil)) σ H4 (.int (rowsN 3 d0)) := fun {H4 i m S0 d0 v0 σ} e hs h0 w0 => ev_fn (Evl.ea_cons (Evl.ev_var hs) Evl.ea_nil) fun H5 e5 Q' q' => ⟨v0, m, S0, d0, rfl, rep_ex (e.trans e5) h0, w0, q'⟩
    exact Evl.s_ret (v := .bl (decide (rowsN 3 d + 1 + rowsN 3 row ≤ 300))) (Evl.ev_op (Evl.ev_op (Evl.ev_op (ri e03 rfl hv wf) Evl.ev_c Evl.rv_I0) (ri e03 rfl hrv wfr) Evl.rv_I0) Evl.ev_c Evl.rv_I0) fun H4 e4 => k H4 (e03.trans e4)
theorem RowsP.ex {H H' : Hp} {v u : V} {xs : List V} (e : Ex H H') (h : RowsP H v xs u) : RowsP H' v xs u := by
  rcases h with ⟨nm, w, rfl, h1, h2⟩ | ⟨n1, nm, m, w, c, zs, i, row, w2, rfl, h1, h2, hc, l4, hi, hids, h3, h4⟩
  · exact .inl ⟨nm, w, rfl, h1.ex e, h2.ex e⟩
  · exact .inr ⟨n1, nm, m, w, c, zs, i, row, w2, rfl, h1.ex e, h2.ex e, e _ _ hc, l4, hi, fun j r hr => let ⟨q, a, b⟩ := hids j r hr; ⟨q, a.ex e, b⟩, h3.ex e, h4.ex e⟩
/-- what can be done -/
inductive Fits (s : Sh) (fl : List Str) (d : D) : D → Prop
  | flag {x : Str} : x ∈ fl → Fits s fl d (.tup [.str "flag", .str x])
  | list {w : List D} {C : D → D} {l : List D} {x : D} {r : Ro} {id : Int} {ids : List Int} (o : Op) : Where d w C l → KdW s w r.1 → o.ok l.length → l.length ≤ 400 →
      (o.new = true → r ∈ rowsS s ∧ okRow s 1 r x id ∧ wfR 3 x ∧ Paired (fun (i : Int) (row : D) => ∃ R, row = .dic R ∧ R.lookup ("id" : Str) = some (.int i)) ids l ∧ ids.Nodup ∧ id ∉ ids ∧ rowsN 3 d + 1 + rowsN 3 x ≤ 300) → Fits s fl d (deedD w x o)
  | field {w : List D} {C : D → D} {l : List D} {r : Ro} {i : Nat} {f x : Str} {ws : List Str} : Where d w C l → KdW s w r.1 → i < l.length → l.length ≤ 400 → r ∈ rowsS s → (f, ws) ∈ r.2.2 → x ∈ ws → Fits s fl d (.tup [.str "field", .tup w, .int i, .str f, .str x])
def spWR (C : Addr) : Sp := fun vs H Q _ => ∃ (p t : Addr) (v : V) (S S2 S' : Addr → Prop) (d dd : D) (fl : List Str) (s : Sh), vs = [.ref p, v, .ref t] ∧ ShapeAt C H p fl s S' ∧ okSh s ∧ Rep H 10 S d v ∧ wfR 3 d ∧ Rep H 11 S2 dd (.ref t) ∧ Fits s fl d dd ∧ ∀ H', Ex H H' → Q .non H'
def spWF : Sp := fun vs H Q _ => ∃ (q : Addr) (n : Nat) (S : Addr → Prop) (fr : Fl) (f x : Str) (ws : List Str), vs = [.ref q, .str f, .str x] ∧ Rep H n S (flD fr) (.ref q) ∧ okFl fr ∧ (f, ws) ∈ fr ∧ x ∈ ws ∧ ∀ H', Ex H H' → Q .non H'
theorem ok_wrong_field (T : Txt K mg C_Shape C_FORMS) (R : Prg K mg C_Shape C_FORMS) : ∃ f fd, Fn P w K mg base "wrong_field" 1 ["fields", "field", "word"] spWF f fd := by
  obtain ⟨f, fd, at_, F, kp⟩ := R.wrong_field
  refine ⟨f, fd, F.ok sc_wrong_field (fun vs H Q E h => ?_) (fun cdv A outer s H vs Q E hr h => ?_), at_, kp, F.binds (fun _ _ _ _ _ _ us hl => match us, hl with | [_, _, _], _ => rfl)⟩
  · obtain ⟨q, n, S, fr, f, x, ws, rfl, _⟩ := h; rfl
  · obtain ⟨q, n, S, fr, f, x, ws, rfl, hq, okf, hf, hx, k⟩ := h
    cases n with
    | zero => exact hq.elim
    | succ n =>
    obtain ⟨a, es, ea, _, ha, _, pr⟩ := id hq
    cases ea
    refine ⟨_, (pss_cons (ps_if (pt_cmpR (r := rIn K true) op_notIn_seq (pv 1) (pe_callTy (call_listD rfl) (by rfl) T.list (by decide +kernel) (pa_cons (pv 0) pa_nil)) (by rfl)) pss_never pss_nil)
  (pss_one (ps_ret (pe_ifExp (pt_cmpR (r := rIn K false) op_in_seq (pv 2) (pe_dget (hu_of hr) (pv 0) (pv 1) (fun _ _ => rfl)) (by rfl)) pe_non pe_str)))), ?_⟩
    have lk : (fr.map fun p => (p.1, D.tup (p.2.map .str))).lookup f = some (.tup (ws.map .str)) := by
      refine lk_of_mem ?_ (List.mem_map.mpr ⟨(f, ws), hf, rfl⟩)
      rw [List.map_map]; exact okf.2.1
    obtain ⟨v, hv, rv⟩ := rep_entry pr lk
    obtain ⟨ta, rfl, hta⟩ := rep_words rv
    have kk : es.map (fun kv => kV kv.1) = (fr.map (·.1)).map V.str := by
      have := pair_keys pr
      rw [show (es.map fun kv => kV kv.1) = (es.map (·.1)).map kV by rw [List.map_map]; rfl, this]
      simp only [List.map_map]
      rfl
    have mem : f ∈ fr.map (·.1) := List.mem_map.mpr ⟨_, hf, rfl⟩
    refine Evl.q_when (b := false) (Evl.et_is (a := !inV (.str f) ((fr.map (·.1)).map V.str)) (Evl.et_test ?_) ?_) (fun h => nomatch h) (fun _ H1 e1 => ?_)
    · intro H1 e1 Q1 q1
      refine ⟨_, rfl, _, rfl, q, es, rfl, .inl (e1 _ _ ha), fun p hp => ⟨p, _, rfl, .inl (Evl.sq_of upd_same), rfl, ?_, ?_⟩⟩
      · rw [kk]; exact all_flat_str _
      · rw [kk]; exact q1 _ (Ex.new hp)
    · rw [inV_str, decide_eq_true mem]; rfl
    exact Evl.s_ret (Evl.ev_if (b := true) (Evl.et_is (Evl.et_test (Evl.ev_op (Evl.ev_var rfl) (ev_get (Evl.ev_var rfl) (Evl.ev_var rfl) (.inl (e1 _ _ ha)) hv) (Evl.rv_isT (Evl.st_of (e1 _ _ hta)) rfl (all_flat_str ws)))) (by rw [inV_str]; exact decide_eq_true hx)) (fun _ => Evl.ev_c) (fun h => nomatch h)) fun H2 e2 => k H2 (e1.trans e2)
theorem hasF_deed : ∀ (w : List D) (x : D) (o : Op), hasF (deedD w x o) = true
  | _, _, .app => rfl
  | _, _, .ins _ => rfl
  | _, _, .cut => rfl
  | _, _, .rem _ => rfl
  | _, _, .mov _ _ => rfl
theorem fits_deed {o : Op} {n : Nat} {wv : V} {zr : List V} {H : Hp} {k : Nat} {S : Addr → Prop} {x : D} (ho : o.ok n) (pr : Paired (fun d v => Rep H k S d v) (opRest o x) zr) : FitsIx (.str (opNm o) :: wv :: zr) (n : Int) := by
  cases o with
  | app =>
    cases pr with
    | cons h1 pr =>
    cases pr
    exact .inl ⟨_, _, rfl⟩
  | ins i =>
    cases pr with
    | cons h1 pr =>
    cases pr with
    | cons h2 pr =>
    cases pr
    rw [int_of h1]
    have ho : i ≤ n := ho
    exact .inr (.inr (.inl ⟨_, _, _, rfl, by omega, by omega⟩))
  | cut =>
    cases pr
    have ho : 0 < n := ho
    exact .inr (.inl ⟨_, rfl, by omega⟩)
  | rem i =>
    cases pr with
    | cons h1 pr =>
    cases pr
    rw [int_of h1]
    have ho : i < n := ho
    exact .inr (.inr (.inr (.inl ⟨_, _, rfl, by omega, by omega⟩)))
  | mov i j =>
    cases pr with
    | cons h1 pr =>
    cases pr with
    | cons h2 pr =>
    cases pr
    rw [int_of h1, int_of h2]
    have ho : i < n ∧ j < n := ho
    exact .inr (.inr (.inr (.inr (.inl ⟨_, _, _, rfl, by omega, by omega, by omega, by omega⟩))))
theorem opNm_new : ∀ o : Op, inV (.str (opNm o)) [.str "append", .str "insert"] = o.new
  | .app => rfl
  | .ins _ => rfl
  | .cut => rfl
  | .rem _ => rfl
  | .mov _ _ => rfl
theorem opNm_field : ∀ o : Op, decide (V.str (opNm o) = V.str "field") = false
  | .app => by decide
  | .ins _ => by show decide (V.str "insert" = V.str "field") = false; decide
  | .cut => by decide
  | .rem _ => by show decide (V.str "remove" = V.str "field") = false; decide
  | .mov _ _ => by show decide (V.str "move" = V.str "field") = false; decide
theorem opLast {o : Op} {x : D} {wv : V} {zr : List V} {H : Hp} {k : Nat} {S : Addr → Prop} (hn : o.new = true) (pr : Paired (fun d v => Rep H k S d v) (opRest o x) zr) : ∃ y, Rep H k S x y ∧ atI (.str (opNm o) :: wv :: zr) (-1) = some y := by
  cases o with
  | app =>
    cases pr with
    | cons h1 pr =>
    cases pr
    exact ⟨_, h1, atI_last [_, _] _⟩
  | ins i =>
    cases pr with
    | cons h1 pr =>
    cases pr with
    | cons h2 pr =>
    cases pr
    exact ⟨_, h2, atI_last [_, _, _] _⟩
  | cut => cases hn
  | rem i => cases hn
  | mov i j => cases hn
theorem ok_wrong_reason (T : Txt K mg C_Shape C_FORMS) (R : Prg K mg C_Shape C_FORMS) : ∃ f fd, Fn P w K mg base "wrong_reason" 10 ["shape", "data", "deed"] (spWR C_Shape) f fd := by
  obtain ⟨_, _, G_has_form⟩ := ok_has_form (P := P) (w := w) (base := base) T R
  obtain ⟨_, _, G_list_at⟩ := ok_list_at (P := P) (w := w) (base := base) T R
  obtain ⟨_, _, G_rows_at⟩ := ok_rows_at (P := P) (w := w) (base := base) T R
  obtain ⟨_, _, G_indexes_fit⟩ := ok_indexes_fit (P := P) (w := w) (base := base) T R
  obtain ⟨_, _, G_row_fits⟩ := ok_row_fits (P := P) (w := w) (base := base) T R
  obtain ⟨_, _, G_wrong_field⟩ := ok_wrong_field (P := P) (w := w) (base := base) T R
  obtain ⟨_, _, G_Shape_fields⟩ := ok_Shape_fields (P := P) (w := w) (base := base) T R
  obtain ⟨f, fd, at_, F, kp⟩ := R.wrong_reason
  refine ⟨f, fd, F.ok sc_wrong_reason (fun vs H Q E h => ?_) (fun cdv A outer s H vs Q E hr h => ?_), at_, kp, F.binds (fun _ _ _ _ _ _ us hl => match us, hl with | [_, _, _], _ => rfl)⟩
  · obtain ⟨p, t, v, S, S2, S', d, dd, fl, s, rfl, _⟩ := h; rfl
  · obtain ⟨p, t, v, S, S2, S', d, dd, fl, z, rfl, hS, hz, hv, wf, hdd, rea, k⟩ := h
    obtain ⟨dx, ft, tb, hp, hft, _⟩ := id hS
    refine ⟨_, (pss_cons (ps_if (pt_not (pt_val (pcl G_has_form hr (pa_cons (pv 2) (pa_cons (pe_glob (v := .ref _) rfl T.at_FORMS rfl) pa_nil))))) pss_never pss_nil)
  (pss_cons (ps_if (pt_cmpR op_eq (pe_ix (r := rIxT K) ix_tup (pv 2) pe_int (fun _ _ => rfl)) pe_str (nomark _)) (pss_one (ps_ret (pe_ifExp (pt_cmpR (r := rIn K false) op_in_seq (pe_ix (r := rIxT K) ix_tup (pv 2) pe_int (fun _ _ => rfl)) (show PE _ _ (tFld K _ _) from pe_fld (pv 0) rfl) (by rfl)) pe_non pe_str))) pss_nil)
  (pss_cons (ps_set (i := 3) sc_wrong_reason.nd rfl (Or.inl rfl) (pcl G_list_at hr (pa_cons (pv 0) (pa_cons (pv 1) (pa_cons (pe_ix (r := rIxT K) ix_tup (pv 2) pe_int (fun _ _ => rfl)) pa_nil)))))
  (pss_cons (ps_if (pt_cmpR op_isN (pv 3) pe_non (nomark _)) pss_never pss_nil)
  (pss_cons (ps_set (i := 4) sc_wrong_reason.nd rfl (Or.inl rfl) (pcl G_rows_at hr (pa_cons (pv 1) (pa_cons (pe_ix (r := rIxT K) ix_tup (pv 2) pe_int (fun _ _ => rfl)) pa_nil))))
  (pss_cons (ps_if (pt_not (pt_val (pcl G_indexes_fit hr (pa_cons (pv 2) (pa_cons (pe_callB (r := rLenA K) call_len (by rfl) T.len (by decide +kernel) (pa_cons (pv 4) pa_nil)) pa_nil))))) pss_never pss_nil)
  (pss_cons (ps_if (PW.pt (pw_and (pt_cmpR (r := rIn K false) op_in_seq (pe_ix (r := rIxT K) ix_tup (pv 2) pe_int (fun _ _ => rfl)) (pe_tup (pa_cons pe_str (pa_cons pe_str pa_nil))) (by rfl)) (pw_and1 (pt_not (pt_val (pcl G_row_fits hr (pa_cons (pv 0) (pa_cons (pv 1) (pa_cons (pv 3) (pa_cons (pv 4) (pa_cons (pe_ix (r := rIxT K) ix_tup (pv 2) (pe_un un_neg pe_int) (fun _ _ => rfl)) pa_nil))))))))))) pss_never pss_nil)
  (pss_cons (ps_if (pt_cmpR op_eq (pe_ix (r := rIxT K) ix_tup (pv 2) pe_int (fun _ _ => rfl)) pe_str (nomark _)) (pss_one (ps_ret (pcl G_wrong_field hr (pa_cons (pmt (pv 0) T.cl_Shape G_Shape_fields hr (pa_cons (pv 3) pa_nil)) (pa_cons (pe_ix (r := rIxT K) ix_tup (pv 2) pe_int (fun _ _ => rfl)) (pa_cons (pe_ix (r := rIxT K) ix_tup (pv 2) pe_int (fun _ _ => rfl)) pa_nil)))))) pss_nil)
  (pss_one (ps_ret pe_non)))))))))), ?_⟩
    have form : hasF dd = true := by
      cases rea with
      | flag => rfl
      | list o => exact hasF_deed _ _ o
      | field => rfl
    refine Evl.q_when (b := !true) (Evl.et_not (Evl.et_B (ev_fn (z := .bl true) (Evl.ea_cons (Evl.ev_var rfl) (Evl.ea_cons Evl.ev_c Evl.ea_nil)) fun H1 e1 Q' q' => ⟨.ref t, 9, S2, dd, rfl, rep_ex e1 hdd, fun H2 e2 => by rw [form]; exact q' H2 e2⟩))) (fun h => nomatch h) (fun _ H1 e1 => ?_)
    have tst : ∀ {H4 H5 : Hp} {σ : L2.St} {zs : List V} {a b : Str} (r : Bool), Ex H4 H5 → H4 t = some (.tup zs) → σ[2]? = some (some (.ref t)) → zs[0]? = some (.str a) → decide (V.str a = V.str b) = r → EvT (tTest (tOp rEq (tOp (rIxT K) (tVar 2) (tC (.int 0))) (tC (.str b)))) σ H5 r := fun r e ht hs h0 hr => Evl.et_is (Evl.et_test (Evl.ev_op (Evl.ev_op (Evl.ev_var hs) Evl.ev_c (Evl.rv_ixT (Evl.st_of (e _ _ ht)) (atI_nat (j := 0) h0))) Evl.ev_c (Evl.rv_eq rfl))) hr
    cases rea with
    | @flag x hx =>
      obtain ⟨a, xs, ea, ht, _, pr⟩ := id (rep_ex e1 hdd)
      cases ea
      cases pr with
      | cons h0 pr =>
      cases pr with
      | cons h1 pr =>
      cases pr
      have h0 := str_of h0; have h1 := str_of h1
      subst h0 h1
      refine Evl.q_when (b := true) (tst (a := "flag") (b := "flag") true (Ex.refl _) ht rfl rfl (by decide)) (fun _ H2 e2 => ?_) (fun h => nomatch h)
      have e02 := e1.trans e2
      refine Evl.s_ret (Evl.ev_if (b := true) (Evl.et_is (Evl.et_test (Evl.ev_op (Evl.ev_op (Evl.ev_var rfl) Evl.ev_c (Evl.rv_ixT (Evl.st_of (e2 _ _ ht)) (atI_nat (j := 1) rfl))) (fun H3 e3 Q' q' => ⟨_, rfl, p, C_Shape, dx, _, _, rfl, (e02.trans e3) _ _ hp, T.cl_Shape, T.no_Shape_flags, shF_flags _ _, q' H3 (Ex.refl _)⟩) (Evl.rv_isT (Evl.st_of (e02 _ _ hft)) rfl (all_flat_str fl)))) (by rw [inV_str]; exact decide_eq_true hx)) (fun _ => Evl.ev_c) (fun h => nomatch h)) fun H3 e3 => k H3 (e02.trans e3)
    | @list w0 C l x r id ids o hw kd ho l400 hnew =>
      rw [deed_form] at hdd
      obtain ⟨a, zs, ea, ht, _, pr⟩ := _root_.id (rep_ex e1 hdd)
      cases ea
      cases pr with
      | cons h0 pr =>
      cases pr with
      | cons h1 pr =>
      rename_i z0 _ z1 zr
      have h0 := str_of h0
      subst h0
      obtain ⟨tw, ws, rfl, htw, _, pw⟩ := _root_.id h1
      refine Evl.q_when (b := false) (tst (a := opNm o) (b := "flag") false (Ex.refl _) ht rfl rfl (opNm_flag o)) (fun h => nomatch h) (fun _ H2 e2 => ?_)
      have e02 := e1.trans e2
      obtain ⟨L, ls, u, mu, Su, rfl, hL, hat, rp, hu⟩ := where_rep hw (rep_ex e02 hv) pw kd
      have ix1 : ∀ {H4 : Hp} {o3 o4 : Option V}, Ex H2 H4 → Ev (tOp (rIxT K) (tVar 2) (tC (.int 1))) [some (.ref p), some v, some (.ref t), o3, o4] H4 (.ref tw) := fun e => Evl.ev_op (Evl.ev_var rfl) Evl.ev_c (Evl.rv_ixT (Evl.st_of ((e2.trans e) _ _ ht)) (atI_nat (j := 1) rfl))
      refine Evl.q_asg (v := .str r.1) (ev_fn (Evl.ea_cons (Evl.ev_var rfl) (Evl.ea_cons (Evl.ev_var rfl) (Evl.ea_cons (ix1 (Ex.refl _)) Evl.ea_nil))) fun H3 e3 Q' q' => ⟨p, tw, v, 10, S, S', fl, z, L, ls, ws, r.1, rfl, hS.ex (e02.trans e3), hz, rep_ex (e02.trans e3) hv, hL, (e2.trans e3) _ _ htw, hat, q'⟩) fun H3 e3 => ?_
      refine Evl.q_when (b := false) (Evl.et_is (Evl.et_test (Evl.ev_op (Evl.ev_var rfl) Evl.ev_c (fun H1 _ Q q => ⟨rfl, q H1 (Ex.refl _)⟩))) (decide_eq_false (fun h => nomatch h))) (fun h => nomatch h) (fun _ H4 e4 => ?_)
      have e24 := e3.trans e4
      refine Evl.q_asg (v := u) (ev_fn (Evl.ea_cons (Evl.ev_var rfl) (Evl.ea_cons (ix1 e24) Evl.ea_nil)) fun H5 e5 Q' q' => ⟨v, u, tw, ws, rfl, (e2.trans (e24.trans e5)) _ _ htw, rp.ex (e24.trans e5), q'⟩) fun H5 e5 => ?_
      have e25 := e24.trans e5
      cases mu with
      | zero => exact hu.elim
      | succ mu =>
      obtain ⟨c, xs, rfl, _, hc, _, px⟩ := _root_.id (rep_ex e25 hu)
      have lx := pair_len px
      have ht5 := (e2.trans e25) _ _ ht
      refine Evl.q_when (b := !true) (Evl.et_not (Evl.et_B (ev_fn (z := .bl true) (Evl.ea_cons (Evl.ev_var rfl) (Evl.ea_cons (ev_lenL (Evl.ev_var rfl) (.inl (Evl.sq_of hc))) Evl.ea_nil)) fun H6 e6 Q' q' => ⟨t, _, (xs.length : Int), rfl, e6 _ _ ht5, fits_deed (by rw [← lx]; exact ho) pr, q'⟩))) (fun h => nomatch h) (fun _ H6 e6 => ?_)
      have e05 := e02.trans e25
      have e06 := e05.trans e6
      have e16 := (e2.trans e25).trans e6
      have ht6 := e6 _ _ ht5
      have hc6 := e6 _ _ hc
      refine Evl.q_when (b := o.new && !true) (Evl.et_and (Evl.et_is (Evl.et_test (Evl.ev_opU (Evl.ev_op (Evl.ev_var rfl) Evl.ev_c (Evl.rv_ixT (Evl.st_of ht6) (atI_nat (j := 0) rfl))) (Evl.eu_tup (Evl.ea_cons Evl.ev_c (Evl.ea_cons Evl.ev_c Evl.ea_nil)) (by show 2 ≤ 100000; decide)) fun q H7 hq e7 => Evl.rv_isT (Evl.st_of hq) rfl rfl)) (opNm_new o)) fun hn => ?_) (fun hb => absurd hb (by cases o.new <;> decide)) (fun hb H7 e7 => ?_)
      · obtain ⟨hr1, okr, wfx, pids, ndi, nid, l300⟩ := hnew hn
        obtain ⟨y, hy, hlast⟩ := opLast (wv := .ref tw) hn pr
        refine Evl.et_not (Evl.et_B (ev_fn (Evl.ea_cons (Evl.ev_var rfl) (Evl.ea_cons (Evl.ev_var rfl) (Evl.ea_cons (Evl.ev_var rfl) (Evl.ea_cons (Evl.ev_var rfl) (Evl.ea_cons (Evl.ev_op (Evl.ev_var rfl) (Evl.ev_is (v := .int (-1)) (Evl.ev_un Evl.ev_c Evl.ru_neg) rfl) (Evl.rv_ixT (Evl.st_of ht6) hlast)) Evl.ea_nil))))) fun H7 e7 Q' q' => ⟨p, c, v, y, 10, 10, S, S2, S', .dic L, x, fl, z, r, id, ids, xs, rfl, hS.ex (e06.trans e7), hz, hr1, rep_ex (e06.trans e7) hv, wf, rep_ex (e16.trans e7) hy, okr, wfx, e7 _ _ hc6, by rw [← lx]; exact l400, ndi, ?_, nid, fun H8 e8 => by rw [decide_eq_true l300]; exact q' H8 e8⟩))
        refine pair_of (by rw [pair_len pids, lx]) fun i q xv hq hxv => ?_
        obtain ⟨row, hrow, R', rfl, hid⟩ := pair_at pids hq
        obtain ⟨row', hrow', rr⟩ := pair_back px hxv
        rw [hrow] at hrow'; cases hrow'
        cases mu with
        | zero => exact rr.elim
        | succ mu =>
        obtain ⟨u0, _, kd0, ru⟩ := rep_kid rr hid
        rw [int_of ru] at kd0
        exact kd0.ex (e6.trans e7)
      · refine Evl.q_when (b := false) (tst (a := opNm o) (b := "field") false e7 ht6 rfl rfl (opNm_field o)) (fun h => nomatch h) (fun _ H8 e8 => ?_)
        exact Evl.s_ret Evl.ev_c fun H9 e9 => k H9 (((e06.trans e7).trans e8).trans e9)
    | @field w0 C l r i f x ws0 hw kd hi l400 hr1 hf hx =>
      obtain ⟨a, zs, ea, ht, _, pr⟩ := id (rep_ex e1 hdd)
      cases ea
      cases pr with
      | cons h0 pr =>
      cases pr with
      | cons h1 pr =>
      cases pr with
      | cons h2 pr =>
      cases pr with
      | cons h3 pr =>
      cases pr with
      | cons h4 pr =>
      cases pr
      have h0 := str_of h0; have h2 := int_of h2; have h3 := str_of h3; have h4 := str_of h4
      subst h0 h2 h3 h4
      obtain ⟨tw, ws, rfl, htw, _, pw⟩ := id h1
      refine Evl.q_when (b := false) (tst (a := "field") (b := "flag") false (Ex.refl _) ht rfl rfl (by decide)) (fun h => nomatch h) (fun _ H2 e2 => ?_)
      have e02 := e1.trans e2
      obtain ⟨L, ls, u, mu, Su, rfl, hL, hat, rp, hu⟩ := where_rep hw (rep_ex e02 hv) pw kd
      have ixj : ∀ {jn : Nat} {y : V} {H4 : Hp} {o3 o4 : Option V}, Ex H2 H4 → [V.str "field", .ref tw, .int (i : Int), .str f, .str x][jn]? = some y → Ev (tOp (rIxT K) (tVar 2) (tC (.int (jn : Int)))) [some (.ref p), some v, some (.ref t), o3, o4] H4 y := fun e hy => Evl.ev_op (Evl.ev_var rfl) Evl.ev_c (Evl.rv_ixT (Evl.st_of ((e2.trans e) _ _ ht)) (atI_nat hy))
      refine Evl.q_asg (v := .str r.1) (ev_fn (Evl.ea_cons (Evl.ev_var rfl) (Evl.ea_cons (Evl.ev_var rfl) (Evl.ea_cons (ixj (jn := 1) (Ex.refl _) rfl) Evl.ea_nil))) fun H3 e3 Q' q' => ⟨p, tw, v, 10, S, S', fl, z, L, ls, ws, r.1, rfl, hS.ex (e02.trans e3), hz, rep_ex (e02.trans e3) hv, hL, (e2.trans e3) _ _ htw, hat, q'⟩) fun H3 e3 => ?_
      refine Evl.q_when (b := false) (Evl.et_is (Evl.et_test (Evl.ev_op (Evl.ev_var rfl) Evl.ev_c (fun H1 _ Q q => ⟨rfl, q H1 (Ex.refl _)⟩))) (decide_eq_false (fun h => nomatch h))) (fun h => nomatch h) (fun _ H4 e4 => ?_)
      have e24 := e3.trans e4
      refine Evl.q_asg (v := u) (ev_fn (Evl.ea_cons (Evl.ev_var rfl) (Evl.ea_cons (ixj (jn := 1) e24 rfl) Evl.ea_nil)) fun H5 e5 Q' q' => ⟨v, u, tw, ws, rfl, (e2.trans (e24.trans e5)) _ _ htw, rp.ex (e24.trans e5), q'⟩) fun H5 e5 => ?_
      have e25 := e24.trans e5
      cases mu with
      | zero => exact hu.elim
      | succ mu =>
      obtain ⟨c, xs, rfl, _, hc, _, px⟩ := id (rep_ex e25 hu)
      have lx := pair_len px
      have ht5 := (e2.trans e25) _ _ ht
      refine Evl.q_when (b := !true) (Evl.et_not (Evl.et_B (ev_fn (z := .bl true) (Evl.ea_cons (Evl.ev_var rfl) (Evl.ea_cons (ev_lenL (Evl.ev_var rfl) (.inl (Evl.sq_of hc))) Evl.ea_nil)) fun H6 e6 Q' q' => ⟨t, _, (xs.length : Int), rfl, e6 _ _ ht5, .inr (.inr (.inr (.inr (.inr ⟨_, _, _, _, rfl, by omega, by omega⟩)))), q'⟩))) (fun h => nomatch h) (fun _ H6 e6 => ?_)
      have e05 := e02.trans e25
      have e06 := e05.trans e6
      have ht6 := e6 _ _ ht5
      refine Evl.q_when (b := false && true) (Evl.et_and (Evl.et_is (Evl.et_test (Evl.ev_opU (Evl.ev_op (Evl.ev_var rfl) Evl.ev_c (Evl.rv_ixT (Evl.st_of ht6) (atI_nat (j := 0) rfl))) (Evl.eu_tup (Evl.ea_cons Evl.ev_c (Evl.ea_cons Evl.ev_c Evl.ea_nil)) (by show 2 ≤ 100000; decide)) fun q H7 hq e7 => Evl.rv_isT (Evl.st_of hq) rfl rfl)) rfl) fun h => nomatch h) (fun h => nomatch h) (fun hb H7 e7 => ?_)
      refine Evl.q_when (b := true) (tst (a := "field") (b := "field") true e7 ht6 rfl rfl (by decide)) (fun _ H8 e8 => ?_) (fun h => nomatch h)
      have e08 := (e06.trans e7).trans e8
      have e28 := ((e25.trans e6).trans e7).trans e8
      have okf := ((okSh_rows hz).2 r hr1).2
      refine ⟨_, rfl, p, dx, _, rfl, e08 _ _ hp, shF_no _ _ (by decide +kernel) (by decide +kernel), _, rfl, p, fl, z, S', r, rfl, hS.ex e08, hz, hr1, fun H9 q9 e9 hq9 => ?_⟩
      refine ixj (jn := 3) (e28.trans e9) rfl H9 (Ex.refl _) _ fun Ha ea => ?_
      refine ixj (jn := 4) ((e28.trans e9).trans ea) rfl Ha (Ex.refl _) _ fun Hb eb => ?_
      exact ⟨q9, 3, _, r.2.2, f, x, ws0, rfl, rep_ex (ea.trans eb) hq9, okf, hf, hx, fun Hc ec => k Hc ((((e08.trans e9).trans ea).trans eb).trans ec)⟩
end
end Pk

namespace Pk
open PySem PySem.Spec PyProof.Rows L2 Ssb
open Evl (Ex Ev EvT EvL EvA EvU)
section
variable {P : Program} {w : World} {K : PySem.W.Frag} {mg : Str → Option Value} {base : Heap} {C_Shape C_FORMS : Addr}
def spAp (C : Addr) : Sp := fun vs H Q _ => ∃ (p t : Addr) (v : V) (S S2 S' : Addr → Prop) (d dd d' : D) (fl : List Str) (s : Sh), vs = [.ref p, v, .ref t] ∧ ShapeAt C H p fl s S' ∧ fl.length ≤ 2 ∧ fl.Nodup ∧ okSh s ∧ Rep H 10 S d v ∧ pl 10 d ∧ okD fl s d ∧ Rep H 11 S2 dd (.ref t) ∧ Fits s fl d dd ∧ Does d dd d' ∧
  ∀ H' v', Ex H H' → RepT H' 10 (fun b => H b = none) d' v' → Q v' H'
theorem ok_apply (T : Txt K mg C_Shape C_FORMS) (R : Prg K mg C_Shape C_FORMS) : ∃ f fd, Fn P w K mg base "apply" 14 ["shape", "data", "deed"] (spAp C_Shape) f fd := by
  obtain ⟨_, _, G_check⟩ := ok_check (P := P) (w := w) (base := base) T R
  obtain ⟨_, _, G_wrong_reason⟩ := ok_wrong_reason (P := P) (w := w) (base := base) T R
  obtain ⟨_, _, G_after_deed⟩ := ok_after_deed (P := P) (w := w) (base := base) T R
  obtain ⟨f, fd, at_, F, kp⟩ := R.apply
  refine ⟨f, fd, F.ok sc_apply (fun vs H Q E h => ?_) (fun cdv A outer s H vs Q E hr h => ?_), at_, kp, F.binds (fun _ _ _ _ _ _ us hl => match us, hl with | [_, _, _], _ => rfl)⟩
  · obtain ⟨p, t, v, S, S2, S', d, dd, d', fl, s, rfl, _⟩ := h; rfl
  · obtain ⟨p, t, v, S, S2, S', d, dd, d', fl, z, rfl, hS, fl2, fln, hz, hv, hpl, okd, hdd, fits, does, k⟩ := h
    refine ⟨_, (pss_cons (ps_expr (pcl G_check hr (pa_cons (pv 0) (pa_cons (pv 1) pa_nil))))
  (pss_cons (ps_set (i := 3) sc_apply.nd rfl (Or.inl rfl) (pcl G_wrong_reason hr (pa_cons (pv 0) (pa_cons (pv 1) (pa_cons (pv 2) pa_nil)))))
  (pss_cons (ps_if (pt_cmpR op_notN (pv 3) pe_non (nomark _)) pss_never pss_nil)
  (pss_one (ps_ret (pcl G_after_deed hr (pa_cons (pv 1) (pa_cons (pv 2) pa_nil)))))))), ?_⟩
    have wf : wfR 3 d := by obtain ⟨_, _, _, rfl, _, _, _, _, _, _, wf, _⟩ := okd; exact wf
    refine Evl.q_drop (v := .non) (ev_fn (Evl.ea_cons (Evl.ev_var rfl) (Evl.ea_cons (Evl.ev_var rfl) Evl.ea_nil)) fun H1 e1 Q' q' => ⟨p, v, 10, S, d, fl, z, S', rfl, hS.ex e1, fl2, fln, hz, rep_ex e1 hv, okd, q'⟩) fun H1 e1 => ?_
    refine Evl.q_asg (v := .non) (ev_fn (Evl.ea_cons (Evl.ev_var rfl) (Evl.ea_cons (Evl.ev_var rfl) (Evl.ea_cons (Evl.ev_var rfl) Evl.ea_nil))) fun H2 e2 Q' q' => ⟨p, t, v, S, S2, S', d, dd, fl, z, rfl, hS.ex (e1.trans e2), hz, rep_ex (e1.trans e2) hv, wf, rep_ex (e1.trans e2) hdd, fits, q'⟩) fun H2 e2 => ?_
    have e02 := e1.trans e2
    refine Evl.q_when (b := false) (Evl.et_is (Evl.et_test (Evl.ev_op (Evl.ev_var rfl) Evl.ev_c (fun H1 _ Q q => ⟨rfl, q H1 (Ex.refl _)⟩))) (by decide)) (fun h => nomatch h) (fun _ H3 e3 => ?_)
    have e03 := e02.trans e3
    exact ⟨_, rfl, _, rfl, v, t, d, dd, d', S, S2, rfl, rep_ex e03 hv, hpl, rep_ex e03 hdd, does, fun H4 v4 e4 h4 => k H4 v4 (e03.trans e4) (rt_S (fun b hb => Evl.fresh_back e03 hb) h4)⟩
end
end Pk

namespace Pk
open PySem PySem.Spec PyProof.Rows L2 Ssb
open Evl (Ex Ev EvT EvL EvA EvU)
/-! ### words -/
theorem StAt.upd {S c p : Addr} {H : Hp} {o : HO} (n : p ≠ S ∧ p ≠ c) (h : StAt H S c) : StAt (L2.upd H p o) S c := by
  obtain ⟨ne, k, cs, h1, h2, h3⟩ := h
  exact ⟨ne, k, cs, by rw [upd_ne n.1.symm]; exact h1, by rw [upd_ne n.2.symm]; exact h2, h3⟩
section
variable {K : PySem.W.Frag} {σ : L2.St} {H : Hp} {ta : TA} {S c : Addr} {m : Int}
theorem dr_go {Q : VK} (h : EvA ta σ H [.ref S, .int m]) (st : StAt H S c) (h1 : 1 ≤ m) (h2 : m ≤ 2000000) (q : ∀ H' r, Mv S c H H' → 0 ≤ r → r < m → Q (.int r) H') : tCall spDraw [] E0 ta σ H Q :=
  h H (Ex.refl _) _ fun H1 e1 => ⟨S, c, m, rfl, st.ex e1, h1, by omega, fun H' r mv r0 r1 => q H' r ((Mv.ex st e1).trans mv) r0 r1⟩
theorem dr_if {tu tw : TS} {D_ : Ends} {z : Int} (h : EvA ta σ H [.ref S, .int m]) (st : StAt H S c) (h1 : 1 ≤ m) (h2 : m ≤ 2000000) (y : ∀ H', Mv S c H H' → tu D_ σ H') (n : ∀ H', Mv S c H H' → tw D_ σ H') : tIfS (tTest (tOp rEq (tCall spDraw [] E0 ta) (tC (.int z)))) tu tw D_ σ H :=
  dr_go h st h1 h2 fun H' r mv _ _ => ⟨rfl, _, rfl, by
    dsimp only
    by_cases e : V.int r = V.int z
    · rw [if_pos (decide_eq_true e)]; exact y H' mv
    · rw [if_neg (fun z => e (of_decide_eq_true z))]; exact n H' mv⟩
end
/-- the stream and the list at t moved, all else stands -/
structure MvX (S c t : Addr) (H H' : Hp) : Prop where
  z : StAt H' S c
  fr : ∀ b o, b ≠ S → b ≠ c → b ≠ t → H b = some o → H' b = some o
theorem Mv.x {S c t : Addr} {H0 H H' : Hp} (m : Mv S c H0 H) (h : H0 t = none) (x : MvX S c t H H') : Mv S c H0 H' :=
  ⟨m.a, x.z, fun b o b1 b2 hb => x.fr b o b1 b2 (fun e => by rw [e, h] at hb; cases hb) (m.fr b o b1 b2 hb)⟩
def ab : Str := "abcdefghijklmnopqrstuvwxyz"
theorem ab_list : ab.cps.toList = (List.range 26).map (97 + ·) := by decide +kernel
theorem ab_at {i : Nat} (h : i < 26) : atI ab.cps.toList (i : Int) = some (97 + i) := by
  refine atI_nat ?_
  rw [ab_list, List.getElem?_map, List.getElem?_range h]; rfl
def spare (k : Nat) : Str := ("spareq" : Str) ++ ⟨#[97 + k]⟩
def notSpare (x : Str) : Prop := ∀ k, x ≠ spare k
/-- the words of a list so far -/
structure WdOk (ws : List Str) : Prop where
  w : ∀ x ∈ ws, isW x
  sp : ∀ (i : Nat) (x : Str), ws[i]? = some x → x = spare i ∨ notSpare x
  nd : ws.Nodup
theorem WdOk.nil : WdOk [] := ⟨(fun x h => nomatch h), (fun i x h => by rw [List.getElem?_nil] at h; cases h), List.nodup_nil⟩
theorem spare_inj {i j : Nat} (h : spare i = spare j) : i = j := by
  have h1 : (spare i).cps.toList = (spare j).cps.toList := by rw [h]
  have e : ∀ k, (spare k).cps.toList = ("spareq" : Str).cps.toList ++ [97 + k] := fun k => by
    show (("spareq" : Str).cps ++ #[97 + k]).toList = _
    rw [Array.toList_append]
  rw [e, e] at h1
  have := List.append_cancel_left h1
  simp at this
  exact this
theorem spare_w {k : Nat} (h : k < 26) : isW (spare k) := by
  have e : (spare k).cps.toList = ("spareq" : Str).cps.toList ++ [97 + k] := by
    show (("spareq" : Str).cps ++ #[97 + k]).toList = _
    rw [Array.toList_append]
  have l : (spare k).length = 7 := by
    show (spare k).cps.size = 7
    rw [← Array.length_toList, e, List.length_append]
    have : ("spareq" : Str).cps.toList.length = 6 := by decide +kernel
    rw [this]; rfl
  refine ⟨by omega, by omega, fun c hc => ?_⟩
  rw [e] at hc
  rcases List.mem_append.mp hc with hc | hc
  · exact (by decide +kernel : ∀ c ∈ ("spareq" : Str).cps.toList, 97 ≤ c ∧ c ≤ 122) c hc
  · rw [List.mem_singleton.mp hc]; omega
theorem spare_new {ws : List Str} (h : WdOk ws) : spare ws.length ∉ ws := fun hm => by
  obtain ⟨i, hi⟩ := List.getElem?_of_mem hm
  rcases h.sp i _ hi with e | e
  · have := spare_inj e
    have := (List.getElem?_eq_some_iff.mp hi).1
    omega
  · exact e _ rfl
theorem WdOk.snoc {ws : List Str} {x : Str} (h : WdOk ws) (hw : isW x) (hs : x = spare ws.length ∨ notSpare x) (hn : x ∉ ws) : WdOk (ws ++ [x]) := by
  refine ⟨fun y hy => ?_, fun i y hy => ?_, List.nodup_append.mpr ⟨h.nd, by simp, fun a ha b hb => ?_⟩⟩
  · rcases List.mem_append.mp hy with hy | hy
    · exact h.w y hy
    · rw [List.mem_singleton.mp hy]; exact hw
  · by_cases c : i < ws.length
    · rw [List.getElem?_append_left c] at hy
      exact h.sp i y hy
    · rw [List.getElem?_append_right (by omega)] at hy
      have ei : i = ws.length := by
        cases e : i - ws.length with
        | zero => omega
        | succ n => rw [e] at hy; simp at hy
      subst ei
      rw [Nat.sub_self] at hy
      cases hy
      exact hs
  · rw [List.mem_singleton.mp hb]
    exact fun e => hn (e ▸ ha)
theorem short_ns {x : Str} (h : x.length ≤ 3) : notSpare x := fun k e => by
  have : (spare k).length = 7 := by
    show (("spareq" : Str).cps ++ #[97 + k]).size = 7
    rw [Array.size_append]
    have : ("spareq" : Str).cps.size = 6 := by decide +kernel
    rw [this]; rfl
  rw [e, this] at h; omega
theorem long_ns {x : Str} (h : x.length ≤ 3) : notSpare (x ++ ("wxyzv" : Str)) := fun k e => by
  have h1 : (x ++ ("wxyzv" : Str)).cps.toList = (spare k).cps.toList := by rw [e]
  have e1 : (x ++ ("wxyzv" : Str)).cps.toList = x.cps.toList ++ [119, 120, 121, 122, 118] := by
    show (x.cps ++ ("wxyzv" : Str).cps).toList = _
    rw [Array.toList_append]
    exact congrArg _ (by decide +kernel)
  have e2 : (spare k).cps.toList = [115, 112, 97, 114, 101, 113, 97 + k] := by
    show (("spareq" : Str).cps ++ #[97 + k]).toList = _
    rw [Array.toList_append]
    have : ("spareq" : Str).cps.toList = [115, 112, 97, 114, 101, 113] := by decide +kernel
    rw [this]; rfl
  rw [e1, e2] at h1
  have hl : x.cps.toList.length ≤ 3 := by rw [Array.length_toList]; exact h
  match hx : x.cps.toList, hl with
  | [], _ => rw [hx] at h1; simp at h1
  | [a], _ => rw [hx] at h1; simp at h1
  | [a, b], _ => rw [hx] at h1; simp at h1
  | [a, b, d], _ => rw [hx] at h1; simp at h1
section
variable {P : Program} {w : World} {K : PySem.W.Frag} {mg : Str → Option Value} {base : Heap} {C_Shape C_FORMS : Addr}
def spWord : Sp := fun vs H Q _ => ∃ (S c t : Addr) (ws : List Str), vs = [.ref S, .ref t] ∧ StAt H S c ∧ t ≠ S ∧ t ≠ c ∧ H t = some (.lst (ws.map V.str)) ∧ ws.length ≤ 20 ∧ WdOk ws ∧
  ∀ H' x, MvX S c t H H' → H' t = some (.lst ((ws ++ [x]).map V.str)) → WdOk (ws ++ [x]) → Q (.str x) H'
theorem ok__law_word (T : Txt K mg C_Shape C_FORMS) (R : Prg K mg C_Shape C_FORMS) : ∃ f fd, Fn P w K mg base "_law_word" 3 ["_law_state", "_law_taken"] spWord f fd := by
  obtain ⟨_, _, G__law_draw⟩ := ok__law_draw (P := P) (w := w) (base := base) T R
  obtain ⟨f, fd, at_, F, kp⟩ := R._law_word
  refine ⟨f, fd, F.ok sc__law_word (fun vs H Q E h => ?_) (fun cdv A outer s H vs Q E hr h => ?_), at_, kp, F.binds (fun _ _ _ _ _ _ us hl => match us, hl with | [_, _], _ => rfl)⟩
  · obtain ⟨S, c, t, ws, rfl, _⟩ := h; rfl
  · obtain ⟨S, c, t, ws, rfl, st, tS, tc, ht, l20, ok, k⟩ := h
    refine ⟨_, (pss_cons (ps_set (i := 2) sc__law_word.nd rfl (Or.inl rfl) pe_str)
  (pss_cons (ps_set (i := 3) sc__law_word.nd rfl (Or.inl rfl) pe_str)
  (pss_cons (ps_for PassesOwn.never rfl (pi_range1 (by rfl) T.range (pa_cons (pe_op op_add pe_int (pcl G__law_draw hr (pa_cons (pv 0) (pa_cons pe_int pa_nil)))) pa_nil)) (pg_name (i := 4) sc__law_word.nd rfl (Or.inl rfl))
    (pss_one (ps_set (i := 3) sc__law_word.nd rfl (Or.inl rfl) (pe_op op_add_str (pv 3) (pe_ix ix_str (pv 2) (pcl G__law_draw hr (pa_cons (pv 0) (pa_cons pe_int pa_nil))) (fun _ _ => rfl))))))
  (Evl.pss_cut (ps_if (pt_cmpR op_eq (pcl G__law_draw hr (pa_cons (pv 0) (pa_cons pe_int pa_nil))) pe_int (nomark _)) (pss_one (ps_set (i := 3) sc__law_word.nd rfl (Or.inl rfl) (pe_op op_add_str (pv 3) pe_str))) pss_nil)
  (Evl.pss_cut (ps_if (pt_cmpR (r := rIn K false) op_in_seq (pv 3) (pv 1) (by rfl)) (pss_one (ps_set (i := 3) sc__law_word.nd rfl (Or.inl rfl) (pe_op op_add_str pe_str (pe_ix ix_str (pv 2) (pe_callB (r := rLenA K) call_len (by rfl) T.len (by decide +kernel) (pa_cons (pv 1) pa_nil)) (fun _ _ => rfl))))) pss_nil)
  (pss_cons (ps_expr (show PE _ _ (tBM K _ _ _ _) from pe_bm PySem.F.plainAttrs_list PySem.F.slot_list_append PySem.F.type_list_append mt_append (pv 1) (pa_cons (pv 3) pa_nil)))
  (pss_one (ps_ret (pv 3))))))))), ?_⟩
    refine Evl.q_asg Evl.ev_c fun H1 e1 => ?_
    refine Evl.q_asg Evl.ev_c fun H2 e2 => ?_
    have m2 := Mv.ex st (e1.trans e2)
    refine dr_go (m := 3) (Evl.ea_cons (Evl.ev_var rfl) (Evl.ea_cons Evl.ev_c Evl.ea_nil)) m2.z (by decide) (by decide) fun H3 r m3 r0 r1 => ⟨_, _, rfl, rfl, _, rfl, by omega, by omega, ?_⟩
    have m03 := m2.trans m3
    refine for_it walk_range (fun i σ' H' => ∃ (b : Str) (o4 : Option V), σ' = [some (.ref S), some (.ref t), some (.str ab), some (.str b), o4] ∧ Mv S c H H' ∧ b.length = i ∧ ∀ c ∈ b.cps.toList, 97 ≤ c ∧ c ≤ 122) ⟨_, _, rfl, m03, rfl, fun c hc => by cases hc⟩ (fun _ _ _ _ _ => trivial) (fun i x σ' H0 H' hi pv y => ?_) fun σ' H4 pv => ?_
    · obtain ⟨b, o4, rfl, mH, lb, hb⟩ := pv
      obtain ⟨rfl, rfl⟩ := y
      refine ⟨_, rfl, _, rfl, dr_go (m := 26) (Evl.ea_cons (Evl.ev_var rfl) (Evl.ea_cons Evl.ev_c Evl.ea_nil)) mH.z (by decide) (by decide) fun H5 q m5 q0 q1 => ?_⟩
      obtain ⟨qn, rfl⟩ := Int.eq_ofNat_of_zero_le q0
      refine ⟨ab, (qn : Int), _, rfl, rfl, by decide +kernel, ab_at (by omega), b, _, rfl, rfl, Evl.sz_of (by show b.length + 1 ≤ 100000; omega), ?_⟩
      refine gname_go ⟨_, _, rfl, mH.trans m5, ?_, fun d hd => ?_⟩
      · show (b.cps ++ #[97 + qn]).size = i + 1
        rw [Array.size_append]
        show b.length + 1 = i + 1
        rw [lb]
      · have hd : d ∈ (b.cps ++ #[97 + qn]).toList := hd
        rw [Array.toList_append, List.mem_append] at hd
        rcases hd with hd | hd
        · exact hb d hd
        · have : d = 97 + qn := by simpa using hd
          omega
    · obtain ⟨b, o4, rfl, mH, lb, hb⟩ := pv
      have lb3 : 1 ≤ b.length ∧ b.length ≤ 3 := by omega
      refine Evl.q_cut (M := fun σ' H' => ∃ b : Str, σ' = [some (.ref S), some (.ref t), some (.str ab), some (.str b), o4] ∧ Mv S c H H' ∧ isW b ∧ notSpare b) ?_ fun σ' H5 pm => ?_
      · refine dr_if (m := 6) (z := 0) (Evl.ea_cons (Evl.ev_var rfl) (Evl.ea_cons Evl.ev_c Evl.ea_nil)) mH.z (by decide) (by decide) (fun H5 m5 => ?_) (fun H5 m5 => ⟨b, rfl, mH.trans m5, ⟨lb3.1, by omega, hb⟩, short_ns lb3.2⟩)
        refine Evl.s_asg (v := .str (b ++ ("wxyzv" : Str))) (Evl.ev_op (Evl.ev_var rfl) Evl.ev_c (fun H7 _ Q' q' => ⟨_, _, rfl, rfl, Evl.sz_of (by show b.length + 5 ≤ 100000; omega), q' _ (Ex.refl _)⟩)) fun H6 e6 => ⟨_, rfl, (mH.trans m5).tx e6, ⟨?_, ?_, fun d hd => ?_⟩, long_ns lb3.2⟩
        · show 1 ≤ (b.cps ++ ("wxyzv" : Str).cps).size
          rw [Array.size_append]
          have : 1 ≤ b.cps.size := lb3.1
          omega
        · show (b.cps ++ ("wxyzv" : Str).cps).size ≤ 8
          rw [Array.size_append]
          have h1 : b.cps.size ≤ 3 := lb3.2
          have h2 : ("wxyzv" : Str).cps.size = 5 := by decide +kernel
          omega
        · have hd : d ∈ (b.cps ++ ("wxyzv" : Str).cps).toList := hd
          rw [Array.toList_append, List.mem_append] at hd
          rcases hd with hd | hd
          · exact hb d hd
          · exact (by decide +kernel : ∀ c ∈ ("wxyzv" : Str).cps.toList, 97 ≤ c ∧ c ≤ 122) d hd
      obtain ⟨b, rfl, m5, wb, nb⟩ := pm
      have ht5 := m5.fr t _ tS tc ht
      refine Evl.q_cut (M := fun σ' H' => ∃ b : Str, σ' = [some (.ref S), some (.ref t), some (.str ab), some (.str b), o4] ∧ Mv S c H H' ∧ WdOk (ws ++ [b])) ?_ fun σ' H6 pm => ?_
      · refine Evl.s_when (b := decide (b ∈ ws)) (Evl.et_is (Evl.et_test (Evl.ev_op (Evl.ev_var rfl) (Evl.ev_var rfl) (Evl.rv_isL (Evl.sq_of ht5) rfl (all_flat_str ws)))) inV_str) (fun hb H6 e6 => ?_) (fun hb H6 e6 => ⟨b, rfl, m5.tx e6, ok.snoc wb (.inr nb) (of_decide_eq_false hb)⟩)
        refine Evl.s_asg (v := .str (spare ws.length)) (Evl.ev_op Evl.ev_c (Evl.ev_op (Evl.ev_var rfl) (Evl.ev_is (ev_lenL (Evl.ev_var rfl) (.inl (Evl.sq_of (e6 _ _ ht5)))) (by rw [List.length_map])) (Evl.rv_ixS (by show 26 ≤ 100000; decide) (ab_at (by omega)))) (fun H7 _ Q' q' => ⟨_, _, rfl, rfl, Evl.sz_of (by show ("spareq" : Str).length + 1 ≤ 100000; decide +kernel), q' _ (Ex.refl _)⟩)) fun H7 e7 => ⟨_, rfl, (m5.tx e6).tx e7, ok.snoc (spare_w (by omega)) (.inl rfl) (spare_new ok)⟩
      obtain ⟨b, rfl, m6, okb⟩ := pm
      have ht6 := m6.fr t _ tS tc ht
      refine ⟨_, rfl, .inl ⟨rfl, _, Evl.sq_of ht6⟩, _, rfl, t, _, _, rfl, rfl, ht6, Evl.sz_lt (by rw [List.length_map]; omega), ?_⟩
      refine Evl.s_ret (Evl.ev_var rfl) fun H7 e7 => k H7 b ⟨(m6.z.upd ⟨tS, tc⟩).ex e7, fun y o y1 y2 y3 hy => e7 _ _ (by rw [upd_ne y3]; exact m6.fr y o y1 y2 hy)⟩ ?_ okb
      refine e7 _ _ ?_
      rw [upd_same, List.map_append]; rfl
end
end Pk

namespace Pk
open PySem PySem.Spec PyProof.Rows L2 Ssb
open Evl (Ex Ev EvT EvL EvA EvU)
/-! ### shapes that are drawn -/
/-- only what stands counts -/
theorem rep_dom {H : Hp} : ∀ {n : Nat} {S : Addr → Prop} {d : D} {v : V}, Rep H n S d v → Rep H n (fun b => S b ∧ H b ≠ none) d v
  | 0, _, _, _, h => h.elim
  | n + 1, S, d, v, h => by
    cases d with
    | non => exact h
    | bl b => exact h
    | int i => exact h
    | str s => exact h
    | lst l =>
      obtain ⟨a, xs, e, s, ha, hl, p⟩ := h
      exact ⟨a, xs, e, ⟨s, by rw [ha]; exact fun z => nomatch z⟩, ha, hl, pair_imp p fun d x r => rep_dom r⟩
    | tup l =>
      obtain ⟨a, xs, e, ha, hl, p⟩ := h
      exact ⟨a, xs, e, ha, hl, pair_imp p fun d x r => rep_dom r⟩
    | dic l =>
      obtain ⟨a, es, e, s, ha, hl, p⟩ := h
      exact ⟨a, es, e, ⟨s, by rw [ha]; exact fun z => nomatch z⟩, ha, hl, pair_imp p fun q x r => ⟨r.1, rep_S (fun b z => ⟨⟨z.1.1, z.2⟩, z.1.2⟩) (rep_dom r.2)⟩⟩
theorem rep_Sd {H : Hp} {n : Nat} {S S' : Addr → Prop} {d : D} {v : V} (k : ∀ b, S b → H b ≠ none → S' b) (h : Rep H n S d v) : Rep H n S' d v := rep_S (fun b z => k b z.1 z.2) (rep_dom h)
theorem lk_none {α : Type} : ∀ {l : List (Str × α)} {k : Str}, k ∉ l.map (·.1) → l.lookup k = none
  | [], _, _ => rfl
  | (j, d) :: l, k, h => by
    rw [lk_cons, if_neg (fun e => h (by rw [e]; exact List.mem_cons_self))]
    exact lk_none fun z => h (List.mem_cons_of_mem _ z)
theorem pair_strs {H : Hp} {n : Nat} {S : Addr → Prop} : ∀ {ws : List Str}, Paired (fun d x => Rep H (n + 1) S d x) (ws.map D.str) (ws.map V.str)
  | [] => .nil
  | w :: ws => .cons rfl pair_strs
theorem merge2 {k1 k2 : Str} {v1 v2 : V} (ne : k1 ≠ k2) : mergeK [] [((Sum.inr k1 : Key), v1), (Sum.inr k2, v2)] = [(Sum.inr k1, v1), (Sum.inr k2, v2)] := by
  show putK (putK [] (Sum.inr k1 : Key) v1) (Sum.inr k2) v2 = _
  rw [putK_new _ (by rfl : valV ([] : List (Key × V)) (Sum.inr k1) = none), List.nil_append, putK_new]
  · rfl
  · rw [vV_cons, if_neg fun z => ne (Sum.inr.inj z)]; rfl
def okFe (p : Str × List Str) : Prop := isW p.1 ∧ 2 ≤ p.2.length ∧ p.2.length ≤ 3 ∧ (∀ x ∈ p.2, isW x) ∧ p.2.Nodup
theorem rep_mvx {S c t : Addr} {H H' : Hp} (m : MvX S c t H H') (st : StAt H S c) {o : HO} (ht : H t = some o) (no : ∀ xs, o ≠ .tup xs) {n : Nat} {P : Addr → Prop} {d : D} {v : V} (n1 : ¬ P S) (n2 : ¬ P c) (n3 : ¬ P t) (h : Rep H n P d v) : Rep H' n P d v := by
  obtain ⟨_, k, cs, h1, h2, _⟩ := st
  refine rep_to (fun b o' hb hp => m.fr b o' (fun e => ?_) (fun e => ?_) (fun e => ?_) hb) h
  · rw [e] at hp hb
    rcases hp with hp | ⟨xs, rfl⟩
    · exact n1 hp
    · rw [h1] at hb; cases hb
  · rw [e] at hp hb
    rcases hp with hp | ⟨xs, rfl⟩
    · exact n2 hp
    · rw [h2] at hb; cases hb
  · rw [e] at hp hb
    rcases hp with hp | ⟨xs, rfl⟩
    · exact n3 hp
    · rw [ht] at hb; exact no _ (Option.some.inj hb)
section
variable {P : Program} {w : World} {K : PySem.W.Frag} {mg : Str → Option Value} {base : Heap} {C_Shape C_FORMS : Addr}
def spFieldsG : Sp := fun vs H Q _ => ∃ (S c : Addr), vs = [.ref S] ∧ StAt H S c ∧ ∀ H' q f, Mv S c H H' → Rep H' 3 (fun b => H b = none) (flD f) (.ref q) → okFl f → Q (.ref q) H'
theorem ok__law_rich_fields (T : Txt K mg C_Shape C_FORMS) (R : Prg K mg C_Shape C_FORMS) : ∃ f fd, Fn P w K mg base "_law_rich_fields" 4 ["_law_state"] spFieldsG f fd := by
  obtain ⟨_, _, G__law_word⟩ := ok__law_word (P := P) (w := w) (base := base) T R
  obtain ⟨_, _, G__law_draw⟩ := ok__law_draw (P := P) (w := w) (base := base) T R
  obtain ⟨f, fd, at_, F, kp⟩ := R._law_rich_fields
  refine ⟨f, fd, F.ok sc__law_rich_fields (fun vs H Q E h => ?_) (fun cdv A outer s H vs Q E hr h => ?_), at_, kp, F.binds (fun _ _ _ _ _ _ us hl => match us, hl with | [_], _ => rfl)⟩
  · obtain ⟨S, c, rfl, _⟩ := h; rfl
  · obtain ⟨S, c, rfl, st, k⟩ := h
    refine ⟨_, (pss_cons (ps_set (i := 1) sc__law_rich_fields.nd rfl (Or.inl rfl) pe_dnewK)
  (pss_cons (ps_set (i := 2) sc__law_rich_fields.nd rfl (Or.inl rfl) (pe_lst pa_nil))
  (pss_cons (ps_for PassesOwn.never rfl (pi_range1 (by rfl) T.range (pa_cons (pcl G__law_draw hr (pa_cons (pv 0) (pa_cons pe_int pa_nil))) pa_nil)) (pg_name (i := 3) sc__law_rich_fields.nd rfl (Or.inl rfl))
    (pss_cons (ps_set (i := 4) sc__law_rich_fields.nd rfl (Or.inl rfl) (pcl G__law_word hr (pa_cons (pv 0) (pa_cons (pv 2) pa_nil))))
  (pss_cons (ps_set (i := 5) sc__law_rich_fields.nd rfl (Or.inr rfl) (pe_lst pa_nil))
  (pss_cons (ps_setLc (i := 6) (own := [("_law_k", 3)]) rfl sc__law_rich_fields.nd rfl rfl (sw_true rfl rfl rfl (by decide +kernel)) (pi_range1 (by rfl) T.range (pa_cons (pe_op op_add pe_int (pcl G__law_draw hr (pa_cons (pv 0) (pa_cons pe_int pa_nil)))) pa_nil)) (blkOk_by (own := [("_law_k", 3)]) (N := ["_law_state", "_law_fields_here", "_law_taken", "_law_k", "_law_field", "_law_inside", "_law_several"]) (sc := defScope s__law_rich_fields) (by decide +kernel)) (fun _ _ _ _ _ => (pg_name (i := 3) sc__law_rich_fields.nd rfl (Or.inl rfl))) (fun _ _ _ _ _ => pts_nil) (fun _ _ _ _ _ => (pcl G__law_word hr (pa_cons (pv 0) (pa_cons (pv 5) pa_nil)))))
  (pss_one (ps_dput (hu_of hr) (pv 1) (pv 4) (pe_callTy (r := rTupA K) call_tuple_of (by rfl) T.tuple (by decide +kernel) (pa_cons (pv 6) pa_nil)) rfl))))))
  (pss_one (ps_ret (pv 1)))))), ?_⟩
    intro d hd
    refine gname_go ?_
    have dS := st.someS hd
    refine Evl.q_asgL (xs := []) (Evl.el_lst Evl.ea_nil (Nat.zero_le _)) fun t H2 ht e2 ht2 => ?_
    have td : t ≠ d := fun e => by rw [e, upd_same] at ht; cases ht
    have htH : H t = none := by rw [upd_ne td] at ht; exact ht
    have tS := st.someS htH
    have m02 := (Mv.new (o := .dK []) st hd).tx e2
    refine dr_go (m := 3) (Evl.ea_cons (Evl.ev_var rfl) (Evl.ea_cons Evl.ev_c Evl.ea_nil)) m02.z (by decide) (by decide) fun H3 r m3 r0 r1 => ⟨r, rfl, by omega, by omega, ?_⟩
    have m03 := m02.trans m3
    refine for_it walk_range (fun i σ' H' => ∃ (es : List (Key × V)) (f : Fl) (ws : List Str) (o3 o4 o5 o6 : Option V), σ' = [some (.ref S), some (.ref d), some (.ref t), o3, o4, o5, o6] ∧ Mv S c H H' ∧ H' d = some (.dK es) ∧ H' t = some (.lst (ws.map V.str)) ∧ ws.length = i ∧ WdOk ws ∧ f.map (·.1) = ws ∧ (∀ p ∈ f, okFe p) ∧
        Paired (fun (x : Str × D) (e : Key × V) => e.1 = Sum.inr x.1 ∧ Rep H' 2 (fun b => (H b = none ∧ b ≠ t) ∧ b ≠ d) x.2 e.2) (f.map fun p => (p.1, .tup (p.2.map .str))) es)
      ⟨[], [], [], _, _, _, _, rfl, m03, m3.fr d _ dS.1 dS.2 (e2 _ _ upd_same), m3.fr t _ tS.1 tS.2 ht2, rfl, .nil, rfl, (fun p hp => nomatch hp), .nil⟩ (fun _ _ _ _ _ => trivial) (fun i x σ' H0 H' hi pv y => ?_) fun σ' H' pv => ?_
    · obtain ⟨es, f, ws, o3, o4, o5, o6, rfl, mH, hdH, htH', lw, ok, fk, fok, pr⟩ := pv
      obtain ⟨rfl, rfl⟩ := y
      refine gname_go ?_
      refine ⟨_, rfl, _, rfl, S, c, t, ws, rfl, mH.z, tS.1, tS.2, htH', by omega, ok, fun H5 x mx ht5 ok5 => ?_⟩
      refine gname_go ?_
      have m05 := mH.x htH mx
      have hd5 := mx.fr d _ dS.1 dS.2 td.symm hdH
      have pr5 := pair_imp pr fun a b h => (⟨h.1, rep_mvx mx mH.z htH' (fun _ z => nomatch z) (fun z => (st.someS z.1.1).1 rfl) (fun z => (st.someS z.1.1).2 rfl) (fun z => z.1.2 rfl) h.2⟩ : _ ∧ _)
      clear pr hdH htH' mx mH
      refine Evl.q_asgL (xs := []) (Evl.el_lst Evl.ea_nil (Nat.zero_le _)) fun t2 H6 ht2' e6 ht26 => ?_
      have m56 := Mv.ex m05.z e6
      have t2S := m05.z.someS ht2'
      refine q_go (dr_go (m := 2) (Evl.ea_cons (Evl.ev_var rfl) (Evl.ea_cons Evl.ev_c Evl.ea_nil)) m56.z (by decide) (by decide) fun H7 r5 m7 s0 s1 => ⟨_, _, rfl, rfl, _, rfl, by omega, by omega, fun q hq => ?_⟩)
      have m57 := m56.trans m7
      have hq5 := m57.back hq
      have qS := m05.z.someS hq5
      have ht27 := m7.fr t2 _ t2S.1 t2S.2 ht26
      have qt2 : q ≠ t2 := fun e => by rw [e, ht27] at hq; cases hq
      refine lc_it walk_range (fun j H' => Mv S c H5 H' ∧ ∃ vs : List Str, H' q = some (.lst (vs.map V.str)) ∧ H' t2 = some (.lst (vs.map V.str)) ∧ vs.length = j ∧ WdOk vs) ⟨m57.trans (Mv.new m7.z hq), [], upd_same, by rw [upd_ne qt2.symm]; exact ht27, rfl, .nil⟩ (fun _ _ _ _ => trivial) (fun j x' H0 H' hj pv y => ?_) fun H8 pv => ?_
      · obtain ⟨mv, vs, hqv, htv, lv, okv⟩ := pv
        obtain ⟨rfl, hx⟩ := y
        refine ⟨rfl, yes_go ?_⟩
        refine ⟨_, rfl, _, rfl, S, c, t2, vs, rfl, mv.z, t2S.1, t2S.2, htv, by omega, okv, fun H9 y my ht9 ok9 => ?_⟩
        have hq9 := my.fr q _ qS.1 qS.2 qt2 hqv
        refine ⟨_, hq9, Evl.sz_lt (by rw [List.length_map]; omega), (mv.x ht2' my).mut hq5, vs ++ [y], by rw [upd_same, List.map_append]; rfl, by rw [upd_ne qt2.symm]; exact ht9, by rw [List.length_append, lv]; rfl, ok9⟩
      · obtain ⟨mv, vs, hqv, htv, lv, okv⟩ := pv
        dsimp only
        have m08 := m05.trans mv
        have lv2 : 2 ≤ vs.length ∧ vs.length ≤ 3 := by omega
        refine ⟨_, rfl, q, _, rfl, .inl ⟨Evl.sq_of hqv, fun tp htp => ?_⟩⟩
        have eT := Ex.new (o := .tup (vs.map V.str)) htp
        have m09 := m08.tx eT
        have m59 := mv.tx eT
        have hd9 := m59.fr d _ dS.1 dS.2 hd5
        have ht9 := m59.fr t _ tS.1 tS.2 ht5
        have htp9 : (upd H8 tp (.tup (vs.map V.str))) tp = some (.tup (vs.map V.str)) := upd_same
        generalize (upd H8 tp (.tup (vs.map V.str))) = H9 at m09 m59 hd9 ht9 htp9 ⊢
        have les : es.length = f.length := by have := pair_len pr5; rw [List.length_map] at this; exact this.symm
        have lf : f.length = i := by rw [← lw, ← fk, List.length_map]
        have nx : x ∉ ws := fun hm => (List.nodup_append.mp ok5.nd).2.2 x hm x (List.mem_singleton.mpr rfl) rfl
        have nv : valV es (Sum.inr x : Key) = none := pair_no (F := fun x v => Rep H5 2 (fun b => (H b = none ∧ b ≠ t) ∧ b ≠ d) x v) pr5 (lk_none (by rw [List.map_map]; show x ∉ f.map (·.1); rw [fk]; exact nx))
        refine ⟨_, rfl, _, rfl, d, _, rfl, .inl ⟨es, Sum.inr x, hd9, rfl, Evl.sz_lt (by omega), rfl⟩, ?_⟩
        refine ⟨es ++ [(Sum.inr x, .ref tp)], f ++ [(x, vs)], ws ++ [x], _, _, _, _, rfl, m09.mut hd, by rw [upd_same, putK_new _ nv], by rw [upd_ne td]; exact ht9, by rw [List.length_append, lw]; rfl, ok5, by rw [List.map_append, fk]; rfl, fun p hp => ?_, ?_⟩
        · rcases List.mem_append.mp hp with hp | hp
          · exact fok p hp
          · rw [List.mem_singleton.mp hp]
            exact ⟨ok5.w x (List.mem_append_right _ List.mem_cons_self), lv2.1, lv2.2, okv.w, okv.nd⟩
        · rw [List.map_append]
          have tr : ∀ {y : D} {v : V}, Rep H9 2 (fun b => (H b = none ∧ b ≠ t) ∧ b ≠ d) y v → Rep (upd H9 d (.dK (putK es (Sum.inr x) (.ref tp)))) 2 (fun b => (H b = none ∧ b ≠ t) ∧ b ≠ d) y v := fun h => rep_lock hd9 (fun b z => z.2) h
          refine pair_snoc (pair_imp pr5 fun a b h => ⟨h.1, tr (rep_mv m59 (fun z => (st.someS z.1.1).1 rfl) (fun z => (st.someS z.1.1).2 rfl) h.2)⟩) ⟨rfl, tr ?_⟩
          exact ⟨tp, _, rfl, htp9, by show (vs.map D.str).length ≤ 100000; rw [List.length_map]; omega, pair_strs⟩
    · obtain ⟨es, f, ws, o3, o4, o5, o6, rfl, mH, hdH, htH', lw, ok, fk, fok, pr⟩ := pv
      have lf : f.length = ws.length := by rw [← fk, List.length_map]
      exact Evl.s_ret (Evl.ev_var rfl) fun H7 e7 => k H7 d f (mH.tx e7) (rep_ex e7 ⟨d, es, rfl, hd, hdH, by rw [List.length_map]; omega, pair_imp pr fun a b h => ⟨h.1, rep_S (fun b hb => ⟨hb.1.1, hb.2⟩) h.2⟩⟩) ⟨by omega, by rw [fk]; exact ok.nd, fok⟩
end
end Pk

namespace Pk
open PySem PySem.Spec PyProof.Rows L2 Ssb
open Evl (Ex Ev EvT EvL EvA EvU)
/-! ### the whole shape -/
def inL (i : List (Str × Fl)) : List (Str × D) := i.map fun q => (q.1, .dic [("fields", flD q.2), ("inner", .dic [])])
def elD (f : Fl) (i : List (Str × Fl)) : D := .dic [("fields", flD f), ("inner", .dic (inL i))]
def lsL (s : Sh) : List (Str × D) := s.map fun p => (p.1, elD p.2.1 p.2.2)
def lsD (s : Sh) : D := .dic (lsL s)
theorem ne_fi : ("fields" : Str) ≠ "inner" := by decide +kernel
theorem rep_le {H : Hp} {n : Nat} {S : Addr → Prop} {d : D} {v : V} : ∀ {m : Nat}, n ≤ m → Rep H n S d v → Rep H m S d v := by
  intro m hm h
  induction hm with
  | refl => exact h
  | step _ ih => exact rep_up ih
theorem merge_2 {k1 k2 : Str} {v1 v2 : V} (ne : k1 ≠ k2) : mergeK [] [((Sum.inr k1 : Key), v1), (Sum.inr k2, v2)] = [(Sum.inr k1, v1), (Sum.inr k2, v2)] := by
  show putK [((Sum.inr k1 : Key), v1)] (Sum.inr k2) v2 = _
  rw [putK_new _ (by rw [vV_cons, if_neg (fun e => ne (Sum.inr.inj e))]; rfl)]
  rfl
structure PcOk (fl : List Str) (s : Sh) (ws : List Str) : Prop where
  ok : WdOk ws
  us : ∃ us, ws = fl ++ us ∧ us.Perm ((rowsS s).map (·.1))
  p : ∀ p ∈ s, isW p.1 ∧ okFl p.2.1 ∧ p.2.2.length ≤ 1 ∧ ∀ q ∈ p.2.2, isW q.1 ∧ okFl q.2
theorem rows_app (s : Sh) (p : Str × Fl × List (Str × Fl)) : rowsS (s ++ [p]) = rowsS s ++ rowsOf p := by unfold rowsS; rw [List.flatMap_append]; simp
theorem PcOk.okSh {fl : List Str} {s : Sh} {ws : List Str} (h : PcOk fl s ws) (l : s.length ≤ 2) : okSh s ∧ fl.Nodup ∧ ∀ x ∈ fl, isW x := by
  obtain ⟨us, rfl, pm⟩ := h.us
  have nd := List.nodup_append.mp h.ok.nd
  exact ⟨⟨l, pm.nodup_iff.mp nd.2.1, h.p⟩, nd.1, fun x hx => h.ok.w x (List.mem_append_left _ hx)⟩
section
variable {P : Program} {w : World} {K : PySem.W.Frag} {mg : Str → Option Value} {base : Heap} {C_Shape C_FORMS : Addr}
/-- {'fields': rich_fields(state), 'inner': te} -/
theorem el_go {te : TE} {σ : L2.St} {H : Hp} {S c : Addr} {Q : VK} {i : List (Str × Fl)} {n : Nat} {P : Addr → Prop} (hs : σ[0]? = some (some (.ref S))) (st : StAt H S c) (hP : ∀ b, P b → H b ≠ none)
    (hte : ∀ H1, Mv S c H H1 → ∀ Q1 : VK, (∀ u H2, Ex H1 H2 → Rep H2 (n + 3) (fun b => P b ∨ H1 b = none) (.dic (inL i)) u → Q1 u H2) → te σ H1 Q1)
    (k : ∀ p H' f, Mv S c H H' → H p = none → Rep H' (n + 4) (fun b => P b ∨ H b = none) (elD f i) (.ref p) → okFl f → Q (.ref p) H') :
    tDisp [(tC (.str "fields"), tCall spFieldsG [] E0 (tCons (tVar 0) tNil)), (tC (.str "inner"), te)] σ H Q := by
  intro p hp
  have mp := Mv.new (o := .dK []) st hp
  have pS := st.someS hp
  refine ⟨_, hs, S, c, rfl, mp.z, fun H3 qd f m3 rf okf => ?_⟩
  have m03 := mp.trans m3
  refine hte H3 m03 _ fun u H4 e4 ru => ?_
  have hp4 := e4 _ _ (m3.fr p _ pS.1 pS.2 upd_same)
  refine ⟨hp4, [(Sum.inr "fields", .ref qd), (Sum.inr "inner", u)], rfl, by show 2 ≤ 15; decide, ?_⟩
  rw [merge_2 ne_fi]
  refine k p _ f ((m03.tx e4).mut hp) hp ?_ okf
  have np : ∀ b, (upd H p (.dK [])) b = none → H b = none ∧ b ≠ p := fun b hb => by
    have n : b ≠ p := fun z => by rw [z, upd_same] at hb; cases hb
    rw [upd_ne n] at hb; exact ⟨hb, n⟩
  have rf : Rep H4 (n + 3) (fun b => H b = none ∧ b ≠ p) (flD f) (.ref qd) := by
    exact rep_le (by omega) (rep_ex e4 (rep_S (S' := fun b => H b = none ∧ b ≠ p) (fun b hb => np b hb) rf))
  refine ⟨p, _, rfl, .inr hp, upd_same, by show 2 ≤ 100000; decide, .cons ⟨rfl, ?_⟩ (.cons ⟨rfl, ?_⟩ .nil)⟩
  · exact rep_upd hp4 (fun _ z => nomatch z) (fun b z => z.2) (rep_S (fun b hb => ⟨.inr hb.1, hb.2⟩) rf)
  · refine rep_upd hp4 (fun _ z => nomatch z) (fun b z => z.2) (rep_S (fun b hb => ?_) ru)
    rcases hb with hb | hb
    · exact ⟨.inl hb, fun z => hP b hb (by rw [z]; exact hp)⟩
    · have := np b (m3.back hb)
      exact ⟨.inr this.1, this.2⟩
def spRich : Sp := fun vs H Q _ => ∃ (S c : Addr), vs = [.ref S] ∧ StAt H S c ∧
  ∀ (H' : Hp) (q qf ql : Addr) (fl : List Str) (s : Sh), Mv S c H H' → H q = none → H qf = none → H' q = some (.lst [.ref qf, .ref ql]) → H' qf = some (.lst (fl.map V.str)) → fl.length ≤ 2 → fl.Nodup → (∀ x ∈ fl, isW x) → Rep H' 7 (fun b => H b = none) (lsD s) (.ref ql) → okSh s → Q (.ref q) H'
theorem ok__law_rich (T : Txt K mg C_Shape C_FORMS) (R : Prg K mg C_Shape C_FORMS) : ∃ f fd, Fn P w K mg base "_law_rich" 5 ["_law_state"] spRich f fd := by
  obtain ⟨_, _, G__law_word⟩ := ok__law_word (P := P) (w := w) (base := base) T R
  obtain ⟨_, _, G__law_draw⟩ := ok__law_draw (P := P) (w := w) (base := base) T R
  obtain ⟨_, _, G__law_rich_fields⟩ := ok__law_rich_fields (P := P) (w := w) (base := base) T R
  obtain ⟨f, fd, at_, F, kp⟩ := R._law_rich
  refine ⟨f, fd, F.ok sc__law_rich (fun vs H Q E h => ?_) (fun cdv A outer s H vs Q E hr h => ?_), at_, kp, F.binds (fun _ _ _ _ _ _ us hl => match us, hl with | [_], _ => rfl)⟩
  · obtain ⟨S, c, rfl, _⟩ := h; rfl
  · obtain ⟨S, c, rfl, st, k⟩ := h
    refine ⟨_, (pss_cons (ps_set (i := 1) sc__law_rich.nd rfl (Or.inr rfl) (pe_lst pa_nil))
  (pss_cons (ps_setLc (i := 2) (own := [("_law_k", 4)]) rfl sc__law_rich.nd rfl rfl (sw_true rfl rfl rfl (by decide +kernel)) (pi_range1 (by rfl) T.range (pa_cons (pcl G__law_draw hr (pa_cons (pv 0) (pa_cons pe_int pa_nil))) pa_nil)) (blkOk_by (own := [("_law_k", 4)]) (N := ["_law_state", "_law_taken", "_law_flags", "_law_lists", "_law_k", "_law_inner_here"]) (sc := defScope s__law_rich) (by decide +kernel)) (fun _ _ _ _ _ => (pg_name (i := 4) sc__law_rich.nd rfl (Or.inl rfl))) (fun _ _ _ _ _ => pts_nil) (fun _ _ _ _ _ => (pcl G__law_word hr (pa_cons (pv 0) (pa_cons (pv 1) pa_nil)))))
  (pss_cons (ps_set (i := 3) sc__law_rich.nd rfl (Or.inl rfl) pe_dnewK)
  (pss_cons (ps_for PassesOwn.never rfl (pi_range1 (by rfl) T.range (pa_cons (pe_ix (r := rIxT K) ix_tup (pe_tup (pa_cons pe_int (pa_cons pe_int (pa_cons pe_int (pa_cons pe_int (pa_cons pe_int pa_nil)))))) (pcl G__law_draw hr (pa_cons (pv 0) (pa_cons pe_int pa_nil))) (fun _ _ => rfl)) pa_nil)) (pg_name (i := 4) sc__law_rich.nd rfl (Or.inl rfl))
    (pss_cons (ps_set (i := 5) sc__law_rich.nd rfl (Or.inl rfl) pe_dnewK)
  (Evl.pss_cut (ps_if (pt_cmpR op_eq (pcl G__law_draw hr (pa_cons (pv 0) (pa_cons pe_int pa_nil))) pe_int (nomark _)) (pss_one (ps_dput (hu_of hr) (pv 5) (pcl G__law_word hr (pa_cons (pv 0) (pa_cons (pv 1) pa_nil))) (pe_disp (pps_cons pe_str (pcl G__law_rich_fields hr (pa_cons (pv 0) pa_nil)) (pps_cons pe_str pe_dnewK pps_nil)) (by rfl) (by rfl) (fun z => by cases z) (by decide)) rfl)) pss_nil)
  (pss_one (ps_dput (hu_of hr) (pv 3) (pcl G__law_word hr (pa_cons (pv 0) (pa_cons (pv 1) pa_nil))) (pe_disp (pps_cons pe_str (pcl G__law_rich_fields hr (pa_cons (pv 0) pa_nil)) (pps_cons pe_str (pv 5) pps_nil)) (by rfl) (by rfl) (fun z => by cases z) (by decide)) rfl)))))
  (pss_one (ps_ret (pe_lst (pa_cons (pv 2) (pa_cons (pv 3) pa_nil))))))))), ?_⟩
    refine Evl.q_asgL (xs := []) (Evl.el_lst Evl.ea_nil (Nat.zero_le _)) fun t H1 ht e1 ht1 => ?_
    have tS := st.someS ht
    have m1 := Mv.ex st e1
    -- flags
    refine q_go (dr_go (m := 3) (Evl.ea_cons (Evl.ev_var rfl) (Evl.ea_cons Evl.ev_c Evl.ea_nil)) m1.z (by decide) (by decide) fun H2 r m2 r0 r1 => ⟨r, rfl, by omega, by omega, fun qf hqf => ?_⟩)
    have m02 := m1.trans m2
    have hqf0 := m02.back hqf
    have qS := st.someS hqf0
    have ht2 := m2.fr t _ tS.1 tS.2 ht1
    have qt : qf ≠ t := fun e => by rw [e, ht2] at hqf; cases hqf
    refine lc_it walk_range (fun j H' => Mv S c H H' ∧ ∃ vs : List Str, H' qf = some (.lst (vs.map V.str)) ∧ H' t = some (.lst (vs.map V.str)) ∧ vs.length = j ∧ WdOk vs) ⟨m02.mut hqf0, [], upd_same, by rw [upd_ne qt.symm]; exact ht2, rfl, .nil⟩ (fun _ _ _ _ => trivial) (fun j x' H0 H' hj pv y => ?_) fun H3 pv => ?_
    · obtain ⟨mv, vs, hqv, htv, lv, okv⟩ := pv
      obtain ⟨rfl, hx⟩ := y
      refine ⟨rfl, yes_go ?_⟩
      refine ⟨_, rfl, _, rfl, S, c, t, vs, rfl, mv.z, tS.1, tS.2, htv, by omega, okv, fun H9 y my ht9 ok9 => ?_⟩
      have hq9 := my.fr qf _ qS.1 qS.2 qt hqv
      refine ⟨_, hq9, Evl.sz_lt (by rw [List.length_map]; omega), (mv.x ht my).mut hqf0, vs ++ [y], by rw [upd_same, List.map_append]; rfl, by rw [upd_ne qt.symm]; exact ht9, by rw [List.length_append, lv]; rfl, ok9⟩
    obtain ⟨m03, fl, hqf3, ht3, lfl, okfl⟩ := pv
    -- lists
    intro d hd
    refine gname_go ?_
    have hd0 := m03.back hd
    have dS := st.someS hd0
    have dqf : d ≠ qf := fun e => by rw [e, hqf3] at hd; cases hd
    have dt : d ≠ t := fun e => by rw [e, ht3] at hd; cases hd
    have m04 := m03.mut (o := .dK []) hd0
    have hqf4 : (upd H3 d (.dK [])) qf = some (.lst (fl.map V.str)) := by rw [upd_ne dqf.symm]; exact hqf3
    have ht4 : (upd H3 d (.dK [])) t = some (.lst (fl.map V.str)) := by rw [upd_ne dt.symm]; exact ht3
    have hd4 : (upd H3 d (.dK [])) d = some (.dK []) := upd_same
    generalize (upd H3 d (.dK [])) = H4 at m04 hqf4 ht4 hd4 ⊢
    refine ⟨by show 5 ≤ sizeLine; decide, fun tp htp => ?_⟩
    have e5 := Ex.new (o := .tup [V.int 1, V.int 1, V.int 2, V.int 2, V.int 0]) htp
    refine dr_go (m := 5) (Evl.ea_cons (Evl.ev_var rfl) (Evl.ea_cons Evl.ev_c Evl.ea_nil)) (m04.tx e5).z (by decide) (by decide) fun H6 r2 m6 s0 s1 => ?_
    have m06 := (m04.tx e5).trans m6
    have tpS := m04.z.someS htp
    have htp6 := m6.fr tp _ tpS.1 tpS.2 upd_same
    obtain ⟨many, hat, hmany⟩ : ∃ many : Nat, atI [V.int 1, V.int 1, V.int 2, V.int 2, V.int 0] r2 = some (.int (many : Int)) ∧ many ≤ 2 := by
      obtain ⟨rn, rfl⟩ := Int.eq_ofNat_of_zero_le s0
      match rn, (show rn < 5 by omega) with
      | 0, _ => exact ⟨1, rfl, by decide⟩
      | 1, _ => exact ⟨1, rfl, by decide⟩
      | 2, _ => exact ⟨2, rfl, by decide⟩
      | 3, _ => exact ⟨2, rfl, by decide⟩
      | 4, _ => exact ⟨0, rfl, by decide⟩
    refine ⟨tp, _, r2, _, rfl, rfl, Evl.st_of htp6, hat, _, rfl, by omega, by omega, ?_⟩
    rw [Int.toNat_natCast]
    have g6 : ∀ {b : Addr} {o : HO}, b ≠ S → b ≠ c → H4 b = some o → H6 b = some o := fun b1 b2 h => m6.fr _ _ b1 b2 (e5 _ _ h)
    refine for_it walk_range (fun i σ' H' => ∃ (es : List (Key × V)) (s : Sh) (ws : List Str) (o4 o5 : Option V), σ' = [some (.ref S), some (.ref t), some (.ref qf), some (.ref d), o4, o5] ∧ Mv S c H H' ∧ H' qf = some (.lst (fl.map V.str)) ∧ H' t = some (.lst (ws.map V.str)) ∧ H' d = some (.dK es) ∧ s.length = i ∧ ws.length ≤ 2 + 2 * i ∧ PcOk fl s ws ∧
        Paired (fun (x : Str × D) (e : Key × V) => e.1 = Sum.inr x.1 ∧ Rep H' 6 (fun b => ((H b = none ∧ b ≠ t) ∧ b ≠ qf) ∧ b ≠ d) x.2 e.2) (lsL s) es)
      ⟨[], [], fl, _, _, rfl, m06, g6 qS.1 qS.2 hqf4, g6 tS.1 tS.2 ht4, g6 dS.1 dS.2 hd4, rfl, by omega, ⟨okfl, ⟨[], by rw [List.append_nil], .nil⟩, fun p hp => nomatch hp⟩, .nil⟩ (fun _ _ _ _ _ => trivial) (fun i x σ' H0 H' hi pv y => ?_) fun σ' H' pv => ?_
    · obtain ⟨es, s, ws, o4, o5, rfl, mH, hqfH, htH, hdH, ls, lw, pc, pr⟩ := pv
      obtain ⟨rfl, rfl⟩ := y
      refine gname_go ?_
      intro e he
      refine gname_go ?_
      have he0 := mH.back he
      have eS := st.someS he0
      have eqf : e ≠ qf := fun z => by rw [z, hqfH] at he; cases he
      have et : e ≠ t := fun z => by rw [z, htH] at he; cases he
      have ed : e ≠ d := fun z => by rw [z, hdH] at he; cases he
      have rS : ∀ b, ((H b = none ∧ b ≠ t) ∧ b ≠ qf) ∧ b ≠ d → b ≠ S ∧ b ≠ c := fun b hb => st.someS hb.1.1.1
      -- the inner list
      refine Evl.q_cut (M := fun σ'' Hx => ∃ (inn : List (Str × Fl)) (ies : List (Key × V)) (ws2 : List Str), σ'' = [some (.ref S), some (.ref t), some (.ref qf), some (.ref d), some (.int ((0 : Int) + (i : Int))), some (.ref e)] ∧ Mv S c H Hx ∧ Mv S c H' (upd Hx t (.lst (ws.map V.str))) ∧ Hx t = some (.lst (ws2.map V.str)) ∧ Hx e = some (.dK ies) ∧ inn.length ≤ 1 ∧ WdOk ws2 ∧ ws2 = ws ++ inn.map (·.1) ∧ (∀ q ∈ inn, okFl q.2) ∧
          Paired (fun (x : Str × D) (e' : Key × V) => e'.1 = Sum.inr x.1 ∧ Rep Hx 4 (fun b => H' b = none ∧ b ≠ e) x.2 e'.2) (inL inn) ies) ?_ fun σ'' Hx pm => ?_
      · have mN : Mv S c H' (upd H' e (.dK [])) := Mv.new mH.z he
        have htN : (upd H' e (.dK [])) t = some (.lst (ws.map V.str)) := by rw [upd_ne et.symm]; exact htH
        have heN : (upd H' e (.dK [])) e = some (.dK []) := upd_same
        generalize (upd H' e (.dK [])) = HN at mN htN heN ⊢
        have same : ∀ {Hy : Hp}, Hy t = some (.lst (ws.map V.str)) → upd Hy t (.lst (ws.map V.str)) = Hy := fun h => by
          funext b
          by_cases z : b = t
          · rw [z, upd_same, h]
          · rw [upd_ne z]
        refine dr_if (m := 2) (z := 1) (Evl.ea_cons (Evl.ev_var rfl) (Evl.ea_cons Evl.ev_c Evl.ea_nil)) mN.z (by decide) (by decide) (fun H7 m7 => ?_) (fun H7 m7 => ?_)
        · have mN7 := mN.trans m7
          refine el_go (n := 0) (i := []) (P := fun _ => False) rfl m7.z (fun _ h => h.elim) (fun H8 m8 Q1 q1 p hp => q1 _ _ (Ex.new hp) ⟨p, [], rfl, .inr hp, upd_same, Nat.zero_le _, .nil⟩) fun p H8 f m8 hp rp okf => ?_
          have mN8 := mN7.trans m8
          have ht8 := (m7.trans m8).fr t _ tS.1 tS.2 htN
          have he8 := (m7.trans m8).fr e _ eS.1 eS.2 heN
          refine ⟨_, rfl, _, rfl, _, rfl, S, c, t, ws, rfl, mN8.z, tS.1, tS.2, ht8, by omega, pc.ok, fun H9 x mx ht9 ok9 => ?_⟩
          have he9 := mx.fr e _ eS.1 eS.2 et he8
          have p7 : H7 p = none := hp
          have pH : H' p = none := mN7.back hp
          have rp9 : Rep H9 4 (fun b => H' b = none ∧ b ≠ e) (elD f []) (.ref p) := by
            have ne7 : H7 e ≠ none := by rw [m7.fr e _ eS.1 eS.2 heN]; exact fun z => nomatch z
            have nt7 : H7 t ≠ none := by rw [m7.fr t _ tS.1 tS.2 htN]; exact fun z => nomatch z
            have := rep_mvx mx mN8.z ht8 (fun _ z => nomatch z) (fun z => z.elim id fun z => (m7.z.someS z).1 rfl) (fun z => z.elim id fun z => (m7.z.someS z).2 rfl) (fun z => z.elim id fun z => nt7 z) rp
            exact rep_S (fun b hb => hb.elim False.elim fun z => ⟨mN7.back z, fun y => ne7 (by rw [← y]; exact z)⟩) this
          refine ⟨e, _, rfl, .inl ⟨[], Sum.inr x, he9, rfl, by decide, rfl⟩, [(x, f)], [(Sum.inr x, .ref p)], ws ++ [x], rfl, ((mH.trans mN8).x ht mx).mut he0, ?_, by rw [upd_ne et.symm]; exact ht9, upd_same, Nat.le_refl _, ok9, rfl, fun q hq => by rw [List.mem_singleton.mp hq]; exact okf, .cons ⟨rfl, rep_upd he9 (fun _ z => nomatch z) (fun b z => z.2) rp9⟩ .nil⟩
          refine ⟨mN.a, ?_, fun b o b1 b2 hb => ?_⟩
          · exact ((mx.z.upd (o := .dK (putK [] (Sum.inr x) (.ref p))) ⟨eS.1, eS.2⟩).upd (o := .lst (ws.map V.str)) ⟨tS.1, tS.2⟩)
          · by_cases z : b = t
            · rw [z, upd_same]; rw [z, htH] at hb; exact hb
            · rw [upd_ne z]
              have ne : b ≠ e := fun y => by rw [y, he] at hb; cases hb
              rw [upd_ne ne]
              exact mx.fr b o b1 b2 z (mN8.fr b o b1 b2 hb)
        · have ht7 := m7.fr t _ tS.1 tS.2 htN
          refine ⟨[], [], ws, rfl, (mH.trans mN).trans m7, by rw [same ht7]; exact mN.trans m7, ht7, m7.fr e _ eS.1 eS.2 heN, Nat.zero_le _, pc.ok, by simp, (fun q hq => nomatch hq), .nil⟩
      · obtain ⟨inn, ies, ws2, rfl, mx, mt, htx, hex, li, okw, rfl, oki, pri⟩ := pm
        -- facts at Hx
        have keep : ∀ {b : Addr} {o : HO}, b ≠ S → b ≠ c → b ≠ t → H' b = some o → Hx b = some o := fun b1 b2 b3 h => by have := mt.fr _ _ b1 b2 h; rw [upd_ne b3] at this; exact this
        have hqfx := keep qS.1 qS.2 qt hqfH
        have hdx := keep dS.1 dS.2 dt hdH
        have backx : ∀ b, Hx b = none → H' b = none := fun b hb => by
          have nt : b ≠ t := fun z => by rw [z, htx] at hb; cases hb
          exact mt.back (by rw [upd_ne nt]; exact hb)
        have prx := pair_imp pr fun a b h => (⟨h.1, rep_to (fun y o hy hp => by
          have nt : y ≠ t := fun z => by
            rw [z] at hp hy
            rcases hp with hp | ⟨xs, rfl⟩
            · exact hp.1.1.2 rfl
            · rw [htH] at hy; cases hy
          have sc : y ≠ S ∧ y ≠ c := by
            obtain ⟨_, k0, cs0, h1, h2, _⟩ := mH.z
            refine ⟨fun z => ?_, fun z => ?_⟩
            · rw [z] at hp hy
              rcases hp with hp | ⟨xs, rfl⟩
              · exact (rS _ hp).1 rfl
              · rw [h1] at hy; cases hy
            · rw [z] at hp hy
              rcases hp with hp | ⟨xs, rfl⟩
              · exact (rS _ hp).2 rfl
              · rw [h2] at hy; cases hy
          exact keep sc.1 sc.2 nt hy) h.2⟩ : _ ∧ _)
        have rin : Rep Hx 5 (fun b => H' b = none ∧ Hx b ≠ none) (.dic (inL inn)) (.ref e) := rep_dom (rep_S (S := fun b => H' b = none) (fun b h => h) ⟨e, ies, rfl, he, hex, by unfold inL; rw [List.length_map]; omega, pri⟩)
        refine el_go (n := 2) (i := inn) (P := fun b => H' b = none ∧ Hx b ≠ none) rfl mx.z (fun b hb => hb.2) (fun H8 m8 Q1 q1 => ⟨_, rfl, q1 _ _ (Ex.refl _) ?_⟩) fun p H8 f m8 hp rp okf => ?_
        · have n1 : ¬ (H' S = none ∧ Hx S ≠ none) := fun z => (mH.z.someS z.1).1 rfl
          have n2 : ¬ (H' c = none ∧ Hx c ≠ none) := fun z => (mH.z.someS z.1).2 rfl
          exact rep_S (fun b hb => .inl hb) (rep_mv m8 n1 n2 rin)
        have m08 := mx.trans m8
        have ht8 := m8.fr t _ tS.1 tS.2 htx
        have hd8 := m8.fr d _ dS.1 dS.2 hdx
        have hqf8 := m8.fr qf _ qS.1 qS.2 hqfx
        have lw2 : (ws ++ inn.map (·.1)).length ≤ 3 + 2 * i := by rw [List.length_append, List.length_map]; omega
        refine ⟨_, rfl, _, rfl, _, rfl, S, c, t, _, rfl, m8.z, tS.1, tS.2, ht8, by omega, okw, fun H9 x my ht9 ok9 => ?_⟩
        have hd9 := my.fr d _ dS.1 dS.2 dt hd8
        have hqf9 := my.fr qf _ qS.1 qS.2 qt hqf8
        have m09 := m08.x ht my
        have reg : ∀ b, H' b = none → ((H b = none ∧ b ≠ t) ∧ b ≠ qf) ∧ b ≠ d := fun b hb => ⟨⟨⟨mH.back hb, fun z => by rw [z, htH] at hb; cases hb⟩, fun z => by rw [z, hqfH] at hb; cases hb⟩, fun z => by rw [z, hdH] at hb; cases hb⟩
        have go : ∀ {y : D} {v : V}, Rep Hx 6 (fun b => ((H b = none ∧ b ≠ t) ∧ b ≠ qf) ∧ b ≠ d) y v → Rep H9 6 (fun b => ((H b = none ∧ b ≠ t) ∧ b ≠ qf) ∧ b ≠ d) y v := fun h => rep_mvx my m8.z ht8 (fun _ z => nomatch z) (fun z => (rS _ z).1 rfl) (fun z => (rS _ z).2 rfl) (fun z => z.1.1.2 rfl) (rep_mv m8 (fun z => (rS _ z).1 rfl) (fun z => (rS _ z).2 rfl) h)
        have rp9 : Rep H9 6 (fun b => ((H b = none ∧ b ≠ t) ∧ b ≠ qf) ∧ b ≠ d) (elD f inn) (.ref p) := by
          have rp' := rep_S (S' := fun b => ((H b = none ∧ b ≠ t) ∧ b ≠ qf) ∧ b ≠ d) (fun b hb => hb.elim (fun z => reg b z.1) fun z => reg b (backx b z)) rp
          exact rep_mvx my m8.z ht8 (fun _ z => nomatch z) (fun z => (rS _ z).1 rfl) (fun z => (rS _ z).2 rfl) (fun z => z.1.1.2 rfl) rp'
        have les : es.length = s.length := by have := pair_len pr; unfold lsL at this; rw [List.length_map] at this; exact this.symm
        obtain ⟨us, hus, pus⟩ := pc.us
        have nx : x ∉ ws ++ inn.map (·.1) := fun hm => (List.nodup_append.mp ok9.nd).2.2 x hm x (List.mem_singleton.mpr rfl) rfl
        have nxs : x ∉ s.map (·.1) := fun hm => by
          refine nx (List.mem_append_left _ ?_)
          rw [hus]
          refine List.mem_append_right _ (pus.mem_iff.mpr ?_)
          obtain ⟨p0, hp0, rfl⟩ := List.mem_map.mp hm
          exact List.mem_map.mpr ⟨(p0.1, none, p0.2.1), List.mem_flatMap.mpr ⟨p0, hp0, List.mem_cons_self⟩, rfl⟩
        have nv : valV es (Sum.inr x : Key) = none := pair_no (F := fun x v => Rep H' 6 (fun b => ((H b = none ∧ b ≠ t) ∧ b ≠ qf) ∧ b ≠ d) x v) pr (lk_none (by unfold lsL; rw [List.map_map]; exact nxs))
        refine ⟨d, _, rfl, .inl ⟨es, Sum.inr x, hd9, rfl, Evl.sz_lt (by omega), rfl⟩, es ++ [(Sum.inr x, .ref p)], s ++ [(x, f, inn)], ws ++ inn.map (·.1) ++ [x], _, _, rfl, m09.mut hd0, by rw [upd_ne dqf.symm]; exact hqf9, by rw [upd_ne dt.symm]; exact ht9, by rw [upd_same, putK_new _ nv], by rw [List.length_append, ls]; rfl, by rw [List.length_append]; simp only [List.length_singleton]; omega, ⟨ok9, ⟨us ++ inn.map (·.1) ++ [x], by rw [hus]; simp [List.append_assoc], ?_⟩, fun p1 hp1 => ?_⟩, ?_⟩
        · rw [rows_app, List.map_append]
          have e2 : (rowsOf (x, f, inn)).map (·.1) = x :: inn.map (·.1) := by show x :: (inn.map _).map _ = _; rw [List.map_map]; rfl
          rw [e2, List.append_assoc]
          exact List.Perm.append pus List.perm_append_comm
        · rcases List.mem_append.mp hp1 with hp1 | hp1
          · exact pc.p p1 hp1
          · rw [List.mem_singleton.mp hp1]
            exact ⟨ok9.w x (List.mem_append_right _ List.mem_cons_self), okf, li, fun q hq => ⟨ok9.w _ (List.mem_append_left _ (List.mem_append_right _ (List.mem_map.mpr ⟨q, hq, rfl⟩))), oki q hq⟩⟩
        · unfold lsL
          rw [List.map_append]
          have tr : ∀ {y : D} {v : V}, Rep H9 6 (fun b => ((H b = none ∧ b ≠ t) ∧ b ≠ qf) ∧ b ≠ d) y v → Rep (upd H9 d (.dK (putK es (Sum.inr x) (.ref p)))) 6 (fun b => ((H b = none ∧ b ≠ t) ∧ b ≠ qf) ∧ b ≠ d) y v := fun h => rep_lock hd9 (fun b z => z.2) h
          exact pair_snoc (pair_imp prx fun a b h => ⟨h.1, tr (go h.2)⟩) ⟨rfl, tr rp9⟩
    · obtain ⟨es, s, ws, o4, o5, rfl, mH, hqfH, htH, hdH, ls, lw, pc, pr⟩ := pv
      obtain ⟨ok1, nd1, w1⟩ := pc.okSh (by omega)
      refine Evl.s_retL (xs := [.ref qf, .ref d]) (Evl.el_lst (Evl.ea_cons (Evl.ev_var rfl) (Evl.ea_cons (Evl.ev_var rfl) Evl.ea_nil)) (by show 2 ≤ 100000; decide)) fun q H7 hq e7 hq7 => ?_
      exact k H7 q qf d fl s (mH.tx e7) (mH.back hq) hqf0 hq7 (e7 _ _ hqfH) (by omega) nd1 w1 (rep_ex e7 ⟨d, es, rfl, hd0, hdH, by unfold lsL; rw [List.length_map]; omega, pair_imp pr fun a b h => ⟨h.1, rep_S (fun b hb => ⟨hb.1.1.1, hb.2⟩) h.2⟩⟩) ok1
end
end Pk

namespace Pk
open PySem PySem.Spec PyProof.Rows L2 Ssb
open Evl (Ex Ev EvT EvL EvA EvU)
/-! ### what the description of a shape tells -/
theorem rows_uniq {s : Sh} (nd : ((rowsS s).map (·.1)).Nodup) {r r' : Ro} (h : r ∈ rowsS s) (h' : r' ∈ rowsS s) (e : r.1 = r'.1) : r = r' := by
  obtain ⟨i, hi⟩ := List.getElem?_of_mem h
  obtain ⟨j, hj⟩ := List.getElem?_of_mem h'
  have h1 : ((rowsS s).map (·.1))[i]? = some r.1 := by rw [List.getElem?_map, hi]; rfl
  have h2 : ((rowsS s).map (·.1))[j]? = some r.1 := by rw [List.getElem?_map, hj, e]; rfl
  obtain ⟨i1, j1⟩ := List.getElem?_eq_some_iff.mp h1
  obtain ⟨i2, j2⟩ := List.getElem?_eq_some_iff.mp h2
  rcases Nat.lt_trichotomy i j with lt | lt | lt
  · exact absurd (j1.trans j2.symm) (List.pairwise_iff_getElem.mp nd _ _ i1 i2 lt)
  · subst lt; rw [hi] at hj; exact Option.some.inj hj
  · exact absurd (j2.trans j1.symm) (List.pairwise_iff_getElem.mp nd _ _ i2 i1 lt)
theorem outer_in {s : Sh} {p : Str × Fl × List (Str × Fl)} (h : p ∈ s) : ((p.1, none, p.2.1) : Ro) ∈ rowsS s := List.mem_flatMap.mpr ⟨p, h, List.mem_cons_self⟩
theorem inner_in {s : Sh} {p : Str × Fl × List (Str × Fl)} {q : Str × Fl} (h : p ∈ s) (hq : q ∈ p.2.2) : ((q.1, some p.1, q.2) : Ro) ∈ rowsS s := List.mem_flatMap.mpr ⟨p, h, List.mem_cons_of_mem _ (List.mem_map.mpr ⟨q, hq, rfl⟩)⟩
theorem row_cases {s : Sh} {r : Ro} (h : r ∈ rowsS s) : (∃ p ∈ s, r = (p.1, none, p.2.1)) ∨ ∃ p ∈ s, ∃ q ∈ p.2.2, r = (q.1, some p.1, q.2) := by
  obtain ⟨p, hp, hr⟩ := List.mem_flatMap.mp h
  rcases List.mem_cons.mp hr with rfl | hr
  · exact .inl ⟨p, hp, rfl⟩
  · obtain ⟨q, hq, rfl⟩ := List.mem_map.mp hr
    exact .inr ⟨p, hp, q, hq, rfl⟩
theorem nd_sub {α β : Type} {f : α → β} {l : List α} (h : (l.map f).Nodup) {a b : α} (ha : a ∈ l) (hb : b ∈ l) (e : f a = f b) : a = b := by
  induction l with
  | nil => cases ha
  | cons x l ih =>
    rw [List.map_cons, List.nodup_cons] at h
    rcases List.mem_cons.mp ha with rfl | ha
    · rcases List.mem_cons.mp hb with rfl | hb
      · rfl
      · exact absurd (show f a ∈ l.map f from List.mem_map.mpr ⟨b, hb, e.symm⟩) h.1
    · rcases List.mem_cons.mp hb with hb | hb
      · rw [← hb] at h; exact absurd (show f b ∈ l.map f from List.mem_map.mpr ⟨a, ha, e⟩) h.1
      · exact ih h.2 ha hb
theorem sh_names {s : Sh} (h : okSh s) : (s.map (·.1)).Nodup := by
  have sub : (s.map (·.1)).Sublist ((rowsS s).map (·.1)) := by
    clear h
    induction s with
    | nil => exact .slnil
    | cons p s ih =>
      show (p.1 :: s.map (·.1)).Sublist (((rowsOf p) ++ rowsS s).map (·.1))
      rw [List.map_append]
      show (p.1 :: s.map (·.1)).Sublist (p.1 :: ((p.2.2.map _).map _ ++ _))
      exact List.Sublist.cons_cons _ (ih.trans (List.sublist_append_right _ _))
  exact sub.nodup h.2.1
theorem lsL_names (s : Sh) : (lsL s).map (·.1) = s.map (·.1) := by unfold lsL; rw [List.map_map]; rfl
theorem lsL_lk {s : Sh} (h : okSh s) {p : Str × Fl × List (Str × Fl)} (hp : p ∈ s) : (lsL s).lookup p.1 = some (elD p.2.1 p.2.2) :=
  lk_of_mem (by rw [lsL_names]; exact sh_names h) (List.mem_map.mpr ⟨p, hp, rfl⟩)
theorem el_f {f : Fl} {i : List (Str × Fl)} : List.lookup ("fields" : Str) [(("fields" : Str), flD f), (("inner" : Str), D.dic (inL i))] = some (flD f) := by rw [lk_cons, if_pos rfl]
theorem el_i {f : Fl} {d : D} : List.lookup ("inner" : Str) [(("fields" : Str), flD f), (("inner" : Str), d)] = some d := by rw [lk_cons, if_neg ne_fi.symm, lk_cons, if_pos rfl]
theorem inL_names (i : List (Str × Fl)) : (inL i).map (·.1) = i.map (·.1) := by unfold inL; rw [List.map_map]; rfl
theorem some_in {l : List (Str × D)} {es : List (Key × V)} {F : D → V → Prop} (pr : Paired (fun (q : Str × D) (e : Key × V) => e.1 = Sum.inr q.1 ∧ F q.2 e.2) l es) (k : Str) : (valV es (Sum.inr k : Key)).isSome = decide (k ∈ l.map (·.1)) := by
  cases h : l.lookup k with
  | none =>
    rw [pair_no pr h]
    refine (decide_eq_false fun hm => ?_).symm
    clear pr
    induction l with
    | nil => cases hm
    | cons p l ih =>
      obtain ⟨j, d⟩ := p
      rw [lk_cons] at h
      by_cases c : k = j
      · rw [if_pos c] at h; cases h
      · rw [if_neg c] at h
        rcases List.mem_cons.mp hm with hm | hm
        · exact c hm
        · exact ih h hm
  | some d =>
    obtain ⟨v, hv, _⟩ := pair_lk pr h
    rw [hv]
    refine (decide_eq_true ?_).symm
    clear pr hv
    induction l with
    | nil => cases h
    | cons p l ih =>
      obtain ⟨j, d0⟩ := p
      rw [lk_cons] at h
      by_cases c : k = j
      · rw [c]; exact List.mem_cons_self
      · rw [if_neg c] at h; exact List.mem_cons_of_mem _ (ih h)
theorem rep_kidS {H : Hp} {n : Nat} {S : Addr → Prop} {l : List (Str × D)} {v : V} {k : Str} {d : D} (h : Rep H n S (.dic l) v) (hk : l.lookup k = some d) : ∃ u m, n = m + 1 ∧ Kid H v k u ∧ Rep H m S d u := by
  cases n with
  | zero => exact h.elim
  | succ n =>
  obtain ⟨a, es, rfl, _, ha, _, pr⟩ := h
  obtain ⟨u, hu, r⟩ := rep_entry pr hk
  exact ⟨u, n, rfl, ⟨a, es, rfl, ha, hu⟩, rep_S (fun b hb => hb.1) r⟩
/-- the description of a shape, perhaps while someone goes through it -/
def RepF (H : Hp) (n : Nat) (P : Addr → Prop) (s : Sh) (v : V) : Prop := ∃ d es, v = .ref d ∧ P d ∧ Rd H d (.dK es) ∧ Paired (fun (q : Str × D) (e : Key × V) => e.1 = Sum.inr q.1 ∧ Rep H n (fun b => P b ∧ b ≠ d) q.2 e.2) (lsL s) es
theorem RepF.ex {H H' : Hp} {n : Nat} {P : Addr → Prop} {s : Sh} {v : V} (e : Ex H H') (h : RepF H n P s v) : RepF H' n P s v := by
  obtain ⟨d, es, h1, h2, h3, pr⟩ := h
  exact ⟨d, es, h1, h2, Evl.ex_rd e h3, pair_imp pr fun a b r => ⟨r.1, rep_ex e r.2⟩⟩
theorem RepF.of {H : Hp} {n : Nat} {P : Addr → Prop} {s : Sh} {v : V} (h : Rep H (n + 1) P (lsD s) v) : RepF H n P s v := by
  obtain ⟨d, es, h1, h2, h3, _, pr⟩ := h
  exact ⟨d, es, h1, h2, .inl h3, pr⟩
theorem RepF.to {H H' : Hp} {n : Nat} {P : Addr → Prop} {s : Sh} {v : V} (k : ∀ b o, H b = some o → (P b ∨ ∃ xs, o = .tup xs) → H' b = some o) (h : RepF H n P s v) : RepF H' n P s v := by
  obtain ⟨d, es, h1, h2, h3, pr⟩ := h
  exact ⟨d, es, h1, h2, h3.imp (fun z => k d _ z (.inl h2)) (fun ⟨o, z⟩ => ⟨o, k d _ z (.inl h2)⟩), pair_imp pr fun a b r => ⟨r.1, rep_to (fun b o hb hp => k b o hb (hp.imp (·.1) id)) r.2⟩⟩
theorem RepF.mv {S c : Addr} {H H' : Hp} (m : Mv S c H H') {n : Nat} {P : Addr → Prop} {s : Sh} {v : V} (n1 : ¬ P S) (n2 : ¬ P c) (h : RepF H n P s v) : RepF H' n P s v := by
  obtain ⟨_, k, cs, h1, h2, _⟩ := m.a
  refine h.to fun b o hb hp => m.fr b o (fun e => ?_) (fun e => ?_) hb
  · rw [e] at hp hb
    rcases hp with hp | ⟨xs, rfl⟩
    · exact n1 hp
    · rw [h1] at hb; cases hb
  · rw [e] at hp hb
    rcases hp with hp | ⟨xs, rfl⟩
    · exact n2 hp
    · rw [h2] at hb; cases hb
section
variable {P : Program} {w : World} {K : PySem.W.Frag} {mg : Str → Option Value} {base : Heap} {C_Shape C_FORMS : Addr}
def spLF : Sp := fun vs H Q _ => ∃ (v : V) (n : Nat) (P : Addr → Prop) (s : Sh) (r : Ro), vs = [v, .str r.1] ∧ RepF H n P s v ∧ okSh s ∧ r ∈ rowsS s ∧ (∃ x u, H x = some (.lst u) ∧ ¬ P x) ∧ ∀ (H' : Hp) (u : V) (n' : Nat), Ex H H' → Rep H' n' P (flD r.2.2) u → Q u H'
/-- for outer in lists: if name in lists[outer]['inner']: return lists[outer]['inner'][name]['fields'] -/
theorem scan_go {D_ : Ends} {Hl : Hp} {d : Addr} {od : Obj} {es : List (Key × V)} {n : Nat} {R : Addr → Prop} {z : Sh} {p : Str × Fl × List (Str × Fl)} {q : Str × Fl} (hz : okSh z) (hp : p ∈ z) (hq : q ∈ p.2.2) (hdl : Hl d = some (.frz od (.dK es)))
    (pr : Paired (fun (q : Str × D) (e : Key × V) => e.1 = Sum.inr q.1 ∧ Rep Hl n R q.2 e.2) (lsL z) es) (k : ∀ H' u n', Ex Hl H' → Rep H' n' R (flD q.2) u → D_.rt u H') :
    tFor (iKeys (tVar 0)) (gName 2) (tIfS (tB (tDIn (tVar 1) (tDGet (tDGet (tVar 0) (tVar 2)) (tC (.str "inner"))))) (tRet (tDGet (tDGet (tDGet (tDGet (tVar 0) (tVar 2)) (tC (.str "inner"))) (tVar 1)) (tC (.str "fields")))) tNext) D_ [some (.ref d), some (.str q.1), none] Hl := by
  have le := pair_len pr
  have ekeys := pair_keys pr
  have ndz := sh_names hz
  refine ⟨_, rfl, d, od, rfl, .inl ⟨es, hdl, for_it walk_keys (fun j σ' H' => ∃ o2, σ' = [some (.ref d), some (.str q.1), o2] ∧ Ex Hl H' ∧ ∀ i p', i < j → z[i]? = some p' → q.1 ∉ p'.2.2.map (·.1))
    ⟨_, rfl, Ex.refl _, fun i p' h => absurd h (Nat.not_lt_zero i)⟩ (fun j σ' H' _ ⟨_, _, e, _⟩ => e _ _ hdl) (fun j x σ' H0 H' hlt pv y => ?_) fun σ' H' pv => ?_⟩⟩
  · obtain ⟨o2, rfl, e, no⟩ := pv
    obtain ⟨rfl, kk, vj, hkv, rfl⟩ := y
    obtain ⟨⟨nm, dj⟩, hdj, hk, hrj⟩ := pair_back pr hkv
    have hk : kk = Sum.inr nm := hk
    subst hk
    unfold lsL at hdj
    rw [List.getElem?_map] at hdj
    cases hp' : z[j]? with
    | none => rw [hp'] at hdj; cases hdj
    | some p' =>
    rw [hp'] at hdj
    cases hdj
    have hvj : valV es (Sum.inr p'.1 : Key) = some vj := valV_at (by rw [ekeys, lsL_names]; exact inr_nd ndz) hkv
    have hrj' := rep_ex e hrj
    have hpm := List.mem_of_getElem? hp'
    obtain ⟨u2, n2, _, kd2, r2⟩ := rep_kidS hrj' (el_i (d := .dic (inL p'.2.2)))
    cases n2 with
    | zero => exact r2.elim
    | succ n2 =>
    obtain ⟨a2, es2, rfl, _, ha2, _, pr2⟩ := id r2
    have hin2 : (valV es2 (Sum.inr q.1 : Key)).isSome = decide (q.1 ∈ p'.2.2.map (·.1)) := by rw [some_in pr2, inL_names]
    have locked : Rd H' d (.dK es) := .inr ⟨od, e _ _ hdl⟩
    have get1 : ∀ {Hx : Hp} {σ : L2.St}, Ex H' Hx → σ[0]? = some (some (.ref d)) → σ[2]? = some (some (.str p'.1)) → Ev (tDGet (tDGet (tVar 0) (tVar 2)) (tC (.str "inner"))) σ Hx (.ref a2) := fun ex h0 h2 => ev_kid (ev_get (Evl.ev_var h0) (Evl.ev_var h2) (Evl.ex_rd ex locked) hvj) Evl.ev_c (kd2.ex ex)
    refine gname_go ?_
    refine Evl.s_when (b := decide (q.1 ∈ p'.2.2.map (·.1))) (Evl.et_B (Evl.ev_is (ev_din (Evl.ev_var rfl) (get1 (Ex.refl _) rfl rfl) (.inl ha2)) (by rw [hin2]))) (fun hb Hx ex => ?_) (fun hb Hx ex => ⟨_, rfl, e.trans ex, fun i p2 hi h2 => ?_⟩)
    · have hb := of_decide_eq_true hb
      obtain ⟨q', hq', eq'⟩ := List.mem_map.mp hb
      have e3 : q'.2 = q.2 := congrArg (fun r : Ro => r.2.2) (rows_uniq hz.2.1 (inner_in hpm hq') (inner_in hp hq) eq')
      have lk2 : (inL p'.2.2).lookup q.1 = some (.dic [("fields", flD q'.2), ("inner", .dic [])]) := by
        rw [← eq']
        refine lk_of_mem ?_ (List.mem_map.mpr ⟨q', hq', rfl⟩)
        rw [inL_names]
        have := (hz.2.2 p' hpm).2.2.1
        match p'.2.2, this with
        | [], _ => exact List.nodup_nil
        | [_], _ => simp
      obtain ⟨u3, _, _, kd3, r3⟩ := rep_kidS r2 lk2
      obtain ⟨u4, n4, _, kd4, r4⟩ := rep_kidS r3 (show List.lookup ("fields" : Str) [(("fields" : Str), flD q'.2), (("inner" : Str), D.dic [])] = some (flD q'.2) by rw [lk_cons, if_pos rfl])
      refine Evl.s_ret (ev_kid (ev_kid (get1 ex rfl rfl) (Evl.ev_var rfl) (kd3.ex ex)) Evl.ev_c (kd4.ex ex)) fun Hy ey => ?_
      have r5 := rep_ex (ex.trans ey) r4
      rw [e3] at r5
      exact k Hy u4 n4 (e.trans (ex.trans ey)) r5
    · by_cases c : i = j
      · subst c; rw [hp'] at h2; cases h2; exact of_decide_eq_false hb
      · exact no i p2 (by omega) h2
  · obtain ⟨o2, rfl, e, no⟩ := pv
    obtain ⟨i, hi⟩ := List.getElem?_of_mem hp
    have : i < es.length := by rw [← le]; unfold lsL; rw [List.length_map]; exact (List.getElem?_eq_some_iff.mp hi).1
    exact absurd (List.mem_map.mpr ⟨q, hq, rfl⟩) (no i p this hi)
theorem ok__law_fields (T : Txt K mg C_Shape C_FORMS) (R : Prg K mg C_Shape C_FORMS) : ∃ f fd, Fn P w K mg base "_law_fields" 1 ["_law_lists", "_law_name"] spLF f fd := by
  obtain ⟨f, fd, at_, F, kp⟩ := R._law_fields
  refine ⟨f, fd, F.ok sc__law_fields (fun vs H Q E h => ?_) (fun cdv A outer s H vs Q E hr h => ?_), at_, kp, F.binds (fun _ _ _ _ _ _ us hl => match us, hl with | [_, _], _ => rfl)⟩
  · obtain ⟨v, n, PP, s, r, rfl, _⟩ := h; rfl
  · obtain ⟨v, n, PP, z, r, rfl, ⟨d, es, rfl, Pd, hd, pr⟩, hz, hr1, ⟨x, ux, hx, nPx⟩, k⟩ := h
    refine ⟨_, (pss_cons (ps_if (pt_cmp (pc_din (hu_of hr) (pv 1) (pv 0))) (pss_one (ps_ret (pe_dget (hu_of hr) (pe_dget (hu_of hr) (pv 0) (pv 1) (fun _ _ => rfl)) pe_str (fun _ _ => rfl)))) pss_nil)
  (pss_cons (ps_lock (ps_for PassesOwn.never rfl (pi_keys (pv 0)) (pg_name (i := 2) sc__law_fields.nd rfl (Or.inl rfl))
    (pss_one (ps_if (pt_cmp (pc_din (hu_of hr) (pv 1) (pe_dget (hu_of hr) (pe_dget (hu_of hr) (pv 0) (pv 2) (fun _ _ => rfl)) pe_str (fun _ _ => rfl)))) (pss_one (ps_ret (pe_dget (hu_of hr) (pe_dget (hu_of hr) (pe_dget (hu_of hr) (pe_dget (hu_of hr) (pv 0) (pv 2) (fun _ _ => rfl)) pe_str (fun _ _ => rfl)) (pv 1) (fun _ _ => rfl)) pe_str (fun _ _ => rfl)))) pss_nil))))
  pss_never)), ?_⟩
    have hin : (valV es (Sum.inr r.1 : Key)).isSome = decide (r.1 ∈ z.map (·.1)) := by rw [some_in pr, lsL_names]
    have ndz := sh_names hz
    rcases row_cases hr1 with ⟨p, hp, rfl⟩ | ⟨p, hp, q, hq, rfl⟩
    · obtain ⟨u1, kd1, r1⟩ := rep_entry pr (lsL_lk hz hp)
      obtain ⟨u2, _, _, kd2, r2⟩ := rep_kidS r1 el_f
      refine Evl.q_when (b := true) (Evl.et_B (Evl.ev_is (ev_din (Evl.ev_var rfl) (Evl.ev_var rfl) hd) (by rw [hin, decide_eq_true (List.mem_map.mpr ⟨p, hp, rfl⟩)]))) (fun _ H1 e1 => ?_) (fun h => nomatch h)
      exact Evl.s_ret (ev_kid (ev_get (Evl.ev_var rfl) (Evl.ev_var rfl) (Evl.ex_rd e1 hd) kd1) Evl.ev_c (kd2.ex e1)) fun H2 e2 => k H2 u2 _ (e1.trans e2) (rep_ex (e1.trans e2) (rep_S (fun b hb => hb.1) r2))
    · have nin : q.1 ∉ z.map (·.1) := fun hm => by
        obtain ⟨p', hp', e⟩ := List.mem_map.mp hm
        have := rows_uniq hz.2.1 (outer_in hp') (inner_in hp hq) e
        cases congrArg (fun r : Ro => r.2.1) this
      refine Evl.q_when (b := false) (Evl.et_B (Evl.ev_is (ev_din (Evl.ev_var rfl) (Evl.ev_var rfl) hd) (by rw [hin, decide_eq_false nin]))) (fun h => nomatch h) (fun _ H1 e1 => ?_)
      rcases hd with hd | ⟨od, hd⟩
      · have hd1 := e1 _ _ hd
        refine ⟨d, .dK es, hd1, trivial, fun od => ?_⟩
        refine scan_go hz hp hq (R := fun b => PP b ∧ b ≠ d) (od := od) (es := es) upd_same (pair_imp pr fun a b h => ⟨h.1, rep_lock hd1 (fun b z => z.2) (rep_ex e1 h.2)⟩) fun H' u n' e2 ru => ⟨e2 _ _ upd_same, ?_⟩
        refine k _ u n' (e1.trans (unlock hd1 e2)) (rep_S (fun b hb => hb.1) (rep_to (fun b o hb hp => ?_) ru))
        have nb : b ≠ d := fun y => by
          rcases hp with hp | ⟨xs, rfl⟩
          · exact hp.2 y
          · rw [y, e2 _ _ upd_same] at hb; cases hb
        rw [upd_ne nb]; exact hb
      · have hx1 := e1 _ _ hx
        have xd : x ≠ d := fun e => nPx (e ▸ Pd)
        refine ⟨x, .lst ux, hx1, trivial, fun od2 => ?_⟩
        refine scan_go hz hp hq (R := fun b => PP b ∧ b ≠ d) (od := od) (es := es) (by rw [upd_ne xd.symm]; exact e1 _ _ hd) (pair_imp pr fun a b h => ⟨h.1, rep_upd hx1 (fun _ z => nomatch z) (fun b z e => nPx (e ▸ z.1)) (rep_ex e1 h.2)⟩) fun H' u n' e2 ru => ⟨e2 _ _ upd_same, ?_⟩
        refine k _ u n' (e1.trans (unlock hx1 e2)) (rep_S (fun b hb => hb.1) (rep_to (fun b o hb hp => ?_) ru))
        have nb : b ≠ x := fun y => by
          rcases hp with hp | ⟨xs, rfl⟩
          · exact nPx (y ▸ hp.1)
          · rw [y, e2 _ _ upd_same] at hb; cases hb
        rw [upd_ne nb]; exact hb
def rSortDK : List V → Hp → VK → Prop := fun xs H Q => ∃ (a : Addr) (kvs : List (Key × V)) (ks : List Str), xs = [.ref a] ∧ Rd H a (.dK kvs) ∧ kvs.map (·.1) = ks.map Sum.inr ∧ ks.length < 64 ∧ ∀ ys p, ys.Perm ks → sortedS ys = true → H p = none → Q (.ref p) (upd H p (.lst (ys.map V.str)))
/-- the inner lists of a list, sorted: a new list -/
def innerOf (s : Sh) (r : Ro) : List Str := kids s (some r.1)
theorem kids_one {s : Sh} (h : okSh s) {p : Str × Fl × List (Str × Fl)} (hp : p ∈ s) : (kids s (some p.1)).Perm (p.2.2.map (·.1)) := by
  have nd : (kids s (some p.1)).Nodup := by
    unfold kids
    exact List.Sublist.nodup ((List.filter_sublist).map _) h.2.1
  have nd2 : (p.2.2.map (·.1)).Nodup := by
    have := (h.2.2 p hp).2.2.1
    match p.2.2, this with
    | [], _ => exact List.nodup_nil
    | [_], _ => simp
  refine (List.perm_ext_iff_of_nodup nd nd2).mpr fun x => ⟨fun hx => ?_, fun hx => ?_⟩
  · obtain ⟨r, hr, e1, rfl⟩ := kids_mem hx
    rcases row_cases hr with ⟨p', hp', rfl⟩ | ⟨p', hp', q, hq, rfl⟩
    · cases e1
    · have : p' = p := nd_sub (sh_names h) hp' hp (Option.some.inj e1)
      subst this
      exact List.mem_map.mpr ⟨q, hq, rfl⟩
  · obtain ⟨q, hq, rfl⟩ := List.mem_map.mp hx
    exact List.mem_map.mpr ⟨_, List.mem_filter.mpr ⟨inner_in hp hq, decide_eq_true rfl⟩, rfl⟩
theorem kids_inner {s : Sh} (h : okSh s) {p : Str × Fl × List (Str × Fl)} {q : Str × Fl} (hp : p ∈ s) (hq : q ∈ p.2.2) : kids s (some q.1) = [] := by
  refine List.eq_nil_iff_forall_not_mem.mpr fun x hx => ?_
  obtain ⟨r, hr, e1, rfl⟩ := kids_mem hx
  rcases row_cases hr with ⟨p', hp', rfl⟩ | ⟨p', hp', q', hq', rfl⟩
  · cases e1
  · have e1 : p'.1 = q.1 := Option.some.inj e1
    cases congrArg (fun r : Ro => r.2.1) (rows_uniq h.2.1 (outer_in hp') (inner_in hp hq) e1)
theorem kids_le {s : Sh} (h : okSh s) {r : Ro} (hr : r ∈ rowsS s) : (kids s (some r.1)).length ≤ 1 := by
  rcases row_cases hr with ⟨p, hp, rfl⟩ | ⟨p, hp, q, hq, rfl⟩
  · rw [(kids_one h hp).length_eq, List.length_map]; exact (h.2.2 p hp).2.2.1
  · rw [kids_inner h hp hq]; exact Nat.zero_le _
theorem perm_le1 {α : Type} {l m : List α} (h : l.Perm m) (l1 : m.length ≤ 1) : l = m := by
  match m, l1 with
  | [], _ => exact h.eq_nil
  | [x], _ => exact List.perm_singleton.mp h
def spLI : Sp := fun vs H Q _ => ∃ (v : V) (n : Nat) (P : Addr → Prop) (s : Sh) (r : Ro), vs = [v, .str r.1] ∧ RepF H n P s v ∧ okSh s ∧ r ∈ rowsS s ∧ ∀ (H' : Hp) (q : Addr), Ex H H' → H q = none → H' q = some (.lst ((kids s (some r.1)).map V.str)) → Q (.ref q) H'
theorem ok__law_inner (T : Txt K mg C_Shape C_FORMS) (R : Prg K mg C_Shape C_FORMS) : ∃ f fd, Fn P w K mg base "_law_inner" 1 ["_law_lists", "_law_name"] spLI f fd := by
  obtain ⟨f, fd, at_, F, kp⟩ := R._law_inner
  refine ⟨f, fd, F.ok sc__law_inner (fun vs H Q E h => ?_) (fun cdv A outer s H vs Q E hr h => ?_), at_, kp, F.binds (fun _ _ _ _ _ _ us hl => match us, hl with | [_, _], _ => rfl)⟩
  · obtain ⟨v, n, PP, s, r, rfl, _⟩ := h; rfl
  · obtain ⟨v, n, PP, z, r, rfl, ⟨d, es, rfl, Pd, hd, pr⟩, hz, hr1, k⟩ := h
    refine ⟨_, (pss_cons (ps_if (pt_cmp (pc_din (hu_of hr) (pv 1) (pv 0))) (pss_one (ps_ret (pe_callB (r := rSortDK) (call_sortedD rfl) (by rfl) T.sorted (by decide +kernel) (pa_cons (pe_dget (hu_of hr) (pe_dget (hu_of hr) (pv 0) (pv 1) (fun _ _ => rfl)) pe_str (fun _ _ => rfl)) pa_nil)))) pss_nil)
  (pss_one (ps_ret (pe_lst pa_nil)))), ?_⟩
    have hin : (valV es (Sum.inr r.1 : Key)).isSome = decide (r.1 ∈ z.map (·.1)) := by rw [some_in pr, lsL_names]
    rcases row_cases hr1 with ⟨p, hp, rfl⟩ | ⟨p, hp, q, hq, rfl⟩
    · obtain ⟨u1, kd1, r1⟩ := rep_entry pr (lsL_lk hz hp)
      obtain ⟨u2, n2, _, kd2, r2⟩ := rep_kidS r1 (el_i (d := .dic (inL p.2.2)))
      cases n2 with
      | zero => exact r2.elim
      | succ n2 =>
      obtain ⟨a2, es2, rfl, _, ha2, _, pr2⟩ := id r2
      refine Evl.q_when (b := true) (Evl.et_B (Evl.ev_is (ev_din (Evl.ev_var rfl) (Evl.ev_var rfl) hd) (by rw [hin, decide_eq_true (List.mem_map.mpr ⟨p, hp, rfl⟩)]))) (fun _ H1 e1 => ?_) (fun h => nomatch h)
      refine ev_kid (ev_get (Evl.ev_var rfl) (Evl.ev_var rfl) (Evl.ex_rd e1 hd) kd1) Evl.ev_c (kd2.ex e1) H1 (Ex.refl _) _ fun H2 e2 => ?_
      have e02 := e1.trans e2
      refine ⟨a2, es2, (inL p.2.2).map (·.1), rfl, .inl (e02 _ _ ha2), pair_keys pr2, by rw [inL_names, List.length_map]; have := (hz.2.2 p hp).2.2.1; omega, fun ys b pm _ hb => ?_⟩
      have ey : ys = kids z (some p.1) := by
        have pm2 : ys.Perm (kids z (some p.1)) := by rw [inL_names] at pm; exact pm.trans (kids_one hz hp).symm
        exact perm_le1 pm2 (kids_le hz hr1)
      rw [ey]
      exact k _ b (e02.trans (Ex.new hb)) (Evl.fresh_back e02 hb) upd_same
    · have nin : q.1 ∉ z.map (·.1) := fun hm => by
        obtain ⟨p', hp', e⟩ := List.mem_map.mp hm
        have := rows_uniq hz.2.1 (outer_in hp') (inner_in hp hq) e
        cases congrArg (fun r : Ro => r.2.1) this
      refine Evl.q_when (b := false) (Evl.et_B (Evl.ev_is (ev_din (Evl.ev_var rfl) (Evl.ev_var rfl) hd) (by rw [hin, decide_eq_false nin]))) (fun h => nomatch h) (fun _ H1 e1 => ?_)
      refine Evl.s_retL (xs := []) (Evl.el_lst Evl.ea_nil (Nat.zero_le _)) fun b H2 hb e2 hb2 => k H2 b (e1.trans e2) (Evl.fresh_back e1 hb) ?_
      rw [kids_inner hz hp hq]; exact hb2
/-! ### twelve numbers -/
def poolN (s t : Int) : List Int := (List.range 12).map fun (k : Nat) => (s + (k : Int) * t) % 1000001
theorem pool_ok {s t : Int} (t1 : 1 ≤ t) (t2 : t ≤ 1000) : (poolN s t).Nodup ∧ (∀ x ∈ poolN s t, 0 ≤ x ∧ x ≤ 1000000) ∧ (poolN s t).length = 12 := by
  refine ⟨?_, fun x hx => ?_, by unfold poolN; rw [List.length_map, List.length_range]⟩
  · unfold poolN
    refine List.pairwise_map.mpr (List.pairwise_iff_getElem.mpr fun i j hi hj lt => ?_)
    rw [List.length_range] at hi hj
    rw [List.getElem_range, List.getElem_range]
    intro e
    have h1 : (i : Int) * t < (j : Int) * t := Int.mul_lt_mul_of_pos_right (by omega) (by omega)
    have h3 : (j : Int) * t - (i : Int) * t ≤ 11000 := by
      have h4 : ((j : Int) - (i : Int)) * t ≤ 11 * t := Int.mul_le_mul_of_nonneg_right (by omega) (by omega)
      rw [Int.sub_mul] at h4
      omega
    generalize (i : Int) * t = a at *
    generalize (j : Int) * t = b at *
    omega
  · obtain ⟨k, _, rfl⟩ := List.mem_map.mp hx
    exact ⟨Int.emod_nonneg _ (by decide), by have := Int.emod_lt_of_pos (s + (k : Int) * t) (show (0 : Int) < 1000001 by decide); omega⟩
def spPool : Sp := fun vs H Q _ => ∃ (S c : Addr), vs = [.ref S] ∧ StAt H S c ∧ ∀ (H' : Hp) (q : Addr) (ps : List Int), Mv S c H H' → H q = none → H' q = some (.lst (ps.map V.int)) → ps.Nodup → (∀ x ∈ ps, 0 ≤ x ∧ x ≤ 1000000) → ps.length = 12 → Q (.ref q) H'
theorem ok__law_pool (T : Txt K mg C_Shape C_FORMS) (R : Prg K mg C_Shape C_FORMS) : ∃ f fd, Fn P w K mg base "_law_pool" 3 ["_law_state"] spPool f fd := by
  obtain ⟨_, _, G__law_draw⟩ := ok__law_draw (P := P) (w := w) (base := base) T R
  obtain ⟨f, fd, at_, F, kp⟩ := R._law_pool
  refine ⟨f, fd, F.ok sc__law_pool (fun vs H Q E h => ?_) (fun cdv A outer s H vs Q E hr h => ?_), at_, kp, F.binds (fun _ _ _ _ _ _ us hl => match us, hl with | [_], _ => rfl)⟩
  · obtain ⟨S, c, rfl, _⟩ := h; rfl
  · obtain ⟨S, c, rfl, st, k⟩ := h
    refine ⟨_, (pss_cons (ps_set (i := 1) sc__law_pool.nd rfl (Or.inr rfl) (pcl G__law_draw hr (pa_cons (pv 0) (pa_cons pe_int pa_nil))))
  (pss_cons (ps_set (i := 2) sc__law_pool.nd rfl (Or.inr rfl) (pe_op op_add pe_int (pcl G__law_draw hr (pa_cons (pv 0) (pa_cons pe_int pa_nil)))))
  (pss_one (ps_ret (pe_lc (own := [("_law_k", 3)]) rfl sc__law_pool.nd (pi_range1 (by rfl) T.range (pa_cons pe_int pa_nil)) (blkOk_by (own := [("_law_k", 3)]) (N := ["_law_state", "_law_start", "_law_step", "_law_k"]) (sc := defScope s__law_pool) (by decide +kernel)) (fun _ _ _ _ _ => (pg_name (i := 3) sc__law_pool.nd rfl (Or.inl rfl))) (fun _ _ _ _ _ => pts_nil) (fun _ _ _ _ _ => (pe_op op_mod (pe_callTy call_int1 (by rfl) T.int (by decide +kernel) (pa_cons (pe_op op_add (pv 1) (pe_op op_mul (pv 3) (pv 2))) pa_nil)) pe_int))))))), ?_⟩
    refine q_go (dr_go (m := 1000001) (Evl.ea_cons (Evl.ev_var rfl) (Evl.ea_cons Evl.ev_c Evl.ea_nil)) st (by decide) (by decide) fun H1 s0 m1 s1 s2 => ?_)
    refine q_go (dr_go (m := 1000) (Evl.ea_cons (Evl.ev_var rfl) (Evl.ea_cons Evl.ev_c Evl.ea_nil)) m1.z (by decide) (by decide) fun H2 t0 m2 t1 t2 => ⟨_, _, rfl, rfl, ?_⟩)
    have m02 := m1.trans m2
    obtain ⟨pn, pr, pl⟩ := pool_ok (s := s0) (t := 1 + t0) (by omega) (by omega)
    refine ⟨12, rfl, by decide, by decide, fun q hq => ?_⟩
    refine lc_it walk_range (fun j H' => Ex H2 H' ∧ H' q = some (.lst (((poolN s0 (1 + t0)).take j).map V.int))) ⟨Ex.new hq, upd_same⟩ (fun _ _ _ _ => trivial) (fun j x H0 H' hj pv y => ?_) fun H3 pv => ?_
    · obtain ⟨e, hqv⟩ := pv
      obtain ⟨rfl, hx⟩ := y
      have hx : x = V.int (0 + (j : Int)) := hx
      rw [Int.zero_add] at hx
      subst hx
      refine ⟨rfl, yes_go ?_⟩
      have hj : j < 12 := hj
      have hel : (poolN s0 (1 + t0))[j]? = some ((s0 + (j : Int) * (1 + t0)) % 1000001) := by
        unfold poolN
        rw [List.getElem?_map, List.getElem?_range hj]; rfl
      have bd : ((j : Int) * (1 + t0)).natAbs < 2 ^ 40 := by
        have h1 : (j : Int) * (1 + t0) ≤ 12 * (1 + t0) := Int.mul_le_mul_of_nonneg_right (by omega) (by omega)
        have h2 : 0 ≤ (j : Int) * (1 + t0) := Int.mul_nonneg (by omega) (by omega)
        omega
      refine (Evl.ev_op (ev_int1 (Evl.ev_op (Evl.ev_var rfl) (Evl.ev_op (Evl.ev_var rfl) (Evl.ev_var rfl) (Evl.rv_I (.inl ⟨by omega, by omega⟩))) Evl.rv_I0)) Evl.ev_c (Evl.rv_I (by decide))) H' (Ex.refl _) _ fun H4 e4 => ?_
      refine ⟨_, e4 _ _ hqv, Evl.sz_lt (by rw [List.length_map, List.length_take]; omega), Ex.mut (e.trans e4) hq, ?_⟩
      rw [upd_same, take_snoc hel, List.map_append]; rfl
    · obtain ⟨e, hqv⟩ := pv
      have hqv : H3 q = some (.lst (((poolN s0 (1 + t0)).take 12).map V.int)) := hqv
      rw [List.take_of_length_le (by omega)] at hqv
      exact k H3 q _ (m02.tx e) (m02.back hq) hqv pn pr pl
end
end Pk

namespace Pk
open PySem PySem.Spec PyProof.Rows L2 Ssb
open Evl (Ex Ev EvT EvL EvA EvU)
/-! ### rows that are drawn -/
theorem RepF.upd {H : Hp} {n : Nat} {P : Addr → Prop} {s : Sh} {v : V} {a : Addr} {o u : HO} (ha : H a = some o) (no : ∀ xs, o ≠ .tup xs) (hS : ∀ b, P b → b ≠ a) (h : RepF H n P s v) : RepF (L2.upd H a u) n P s v :=
  h.to fun b o' hb hp => by
    have ne : b ≠ a := by
      rcases hp with hp | ⟨xs, rfl⟩
      · exact hS b hp
      · intro e; rw [e, ha] at hb; exact no xs (Option.some.inj hb)
    rw [upd_ne ne]; exact hb
theorem MvX.refl {S c t : Addr} {H : Hp} (st : StAt H S c) : MvX S c t H H := ⟨st, fun _ _ _ _ _ h => h⟩
theorem MvX.trans {S c t : Addr} {H H1 H2 : Hp} (m : MvX S c t H H1) (m2 : MvX S c t H1 H2) : MvX S c t H H2 := ⟨m2.z, fun b o b1 b2 b3 h => m2.fr b o b1 b2 b3 (m.fr b o b1 b2 b3 h)⟩
theorem MvX.mv {S c t : Addr} {H H1 H2 : Hp} (m : MvX S c t H H1) (m2 : Mv S c H1 H2) : MvX S c t H H2 := ⟨m2.z, fun b o b1 b2 b3 h => m2.fr b o b1 b2 (m.fr b o b1 b2 b3 h)⟩
theorem MvX.put {S c t : Addr} {H H1 : Hp} {o : HO} (m : MvX S c t H H1) (t1 : t ≠ S) (t2 : t ≠ c) : MvX S c t H (upd H1 t o) := ⟨m.z.upd ⟨t1, t2⟩, fun b o b1 b2 b3 h => by rw [upd_ne b3]; exact m.fr b o b1 b2 b3 h⟩
theorem MvX.back {S c t : Addr} {H H1 : Hp} {o : HO} (m : MvX S c t H H1) (ht : H1 t = some o) {b : Addr} (h : H1 b = none) : H b = none := by
  have n3 : b ≠ t := fun e => by rw [e, ht] at h; cases h
  obtain ⟨n1, n2⟩ := m.z.someS h
  cases e : H b with
  | none => rfl
  | some o => rw [m.fr b o n1 n2 n3 e] at h; cases h
def rowD (id : Int) (fs ls : List (Str × D)) : D := .dic [("id", .int id), ("fields", .dic fs), ("lists", .dic ls)]
structure FsOk (f : Fl) (fs : List (Str × D)) : Prop where
  nd : (fs.map (·.1)).Nodup
  ok : okFs f fs
  str : ∀ p ∈ fs, ∃ x, p.2 = .str x
def gRows (s : Sh) (pool : List Int) : Nat → Ro → D → Prop
  | 0, _, _ => False
  | m + 1, r, d => ∃ (rows : List D) (ids : List Int), d = .lst rows ∧ ids.Nodup ∧ rows.length ≤ 9 ∧ (∀ i ∈ ids, i ∈ pool) ∧ Paired (fun (row : D) (id : Int) => ∃ fs ls, row = rowD id fs ls ∧ FsOk r.2.2 fs ∧ ls.map (·.1) = kids s (some r.1) ∧ ∀ r' ∈ rowsS s, r'.2.1 = some r.1 → ∃ d', ls.lookup r'.1 = some d' ∧ gRows s pool m r' d') rows ids
def gRow (s : Sh) (pool : List Int) (m : Nat) (r : Ro) (row : D) (id : Int) : Prop := ∃ fs ls, row = rowD id fs ls ∧ FsOk r.2.2 fs ∧ ls.map (·.1) = kids s (some r.1) ∧ ∀ r' ∈ rowsS s, r'.2.1 = some r.1 → ∃ d', ls.lookup r'.1 = some d' ∧ gRows s pool m r' d'
theorem fs_of {f : Fl} {fs : List (Str × D)} {ys : List Str} (hf : (f.map (·.1)).Nodup) (perm : ys.Perm (f.map (·.1))) (hk : fs.map (·.1) = ys) (hv : ∀ p ∈ fs, ∃ x ws, p.2 = .str x ∧ (p.1, ws) ∈ f ∧ x ∈ ws) : FsOk f fs := by
  have nd : (fs.map (·.1)).Nodup := by rw [hk]; exact perm.nodup_iff.mpr hf
  refine ⟨nd, ⟨?_, fun p hp => ?_⟩, fun p hp => ?_⟩
  · have := perm.length_eq
    rw [← hk, List.length_map, List.length_map] at this
    exact this
  · have : p.1 ∈ fs.map (·.1) := by rw [hk]; exact perm.mem_iff.mpr (List.mem_map.mpr ⟨p, hp, rfl⟩)
    obtain ⟨e, he, e1⟩ := List.mem_map.mp this
    obtain ⟨x, ws, hx, hm, hw⟩ := hv e he
    refine ⟨x, lk_of_mem nd (by rw [← e1, ← hx]; exact he), ?_⟩
    have h1 := lk_of_mem hf hm
    have h2 := lk_of_mem hf (show (e.1, p.2) ∈ f by rw [e1]; exact hp)
    rw [h1] at h2
    cases h2
    exact hw
  · obtain ⟨x, ws, hx, _⟩ := hv p hp
    exact ⟨x, hx⟩
/-- a slot of the loop -/
theorem set_back {σ : L2.St} {b : Nat} {o : Option V} (h : σ[b]? = some o) : σ.set b o = σ := by
  refine List.ext_getElem? fun i => ?_
  rw [List.getElem?_set]
  by_cases e : b = i
  · subst e
    rw [if_pos rfl, if_pos (List.getElem?_eq_some_iff.mp h).1, h]
  · rw [if_neg e]
theorem set_at {σ : L2.St} {a b : Nat} {o : Option V} {y : Option V} (ne : b ≠ a) (h : σ[a]? = some y) : (σ.set b o)[a]? = some y := by rw [List.getElem?_set, if_neg ne]; exact h
section
variable {P : Program} {w : World} {K : PySem.W.Frag} {mg : Str → Option Value} {base : Heap} {C_Shape C_FORMS : Addr}
/-- for field in sorted(fields): chosen[field] = fields[field][draw(len(fields[field]))] -/
theorem choose_go {a b cc : Nat} {σ : L2.St} {D_ : Ends} {H : Hp} {S c fu ch : Addr} {n : Nat} {P : Addr → Prop} {f : Fl} (h0 : σ[0]? = some (some (.ref S))) (ha : σ[a]? = some (some (.ref fu))) (hc : σ[cc]? = some (some (.ref ch))) {ob : Option V} (hb : σ[b]? = some ob) (b0 : b ≠ 0) (ba : b ≠ a) (bc : b ≠ cc)
    (st : StAt H S c) (hf : Rep H n P (flD f) (.ref fu)) (okf : okFl f) (nS : ¬ P S) (nc : ¬ P c) (nch : ¬ P ch) (hch : H ch = some (.dK [])) (chS : ch ≠ S ∧ ch ≠ c)
    (k : ∀ H' fs es o, MvX S c ch H H' → H' ch = some (.dK es) → Paired (fun (x : Str × D) (e : Key × V) => e.1 = Sum.inr x.1 ∧ ∃ y, x.2 = .str y ∧ e.2 = .str y) fs es → FsOk f fs → D_.nx (σ.set b o) H') :
    tFor (iList K (tCB rSortDK (tCons (tVar a) tNil))) (gName b) (sDPut (tVar cc) (tVar b) (tOp (rIxT K) (tDGet (tVar a) (tVar b)) (tCall spDraw [] E0 (tCons (tVar 0) (tCons (tCB (rLenA K) (tCons (tDGet (tVar a) (tVar b)) tNil)) tNil))))) D_ σ H := by
  cases n with
  | zero => exact hf.elim
  | succ n =>
  obtain ⟨a', es, e', _, ha', _, pr⟩ := id hf
  cases e'
  refine ⟨_, ha, fu, es, f.map (·.1), rfl, .inl ha', by rw [pair_keys pr]; simp only [List.map_map]; rfl, by rw [List.length_map]; have := okf.1; omega, fun ys p pm _ hp => ⟨p, rfl, ⟨ys.map V.str, Evl.sq_of upd_same⟩, ?_⟩⟩
  have ep := Ex.new (o := .lst (ys.map V.str)) hp
  have pS := st.someS hp
  have pch : p ≠ ch := fun e => by rw [e, hch] at hp; cases hp
  have st1 := st.ex ep
  have ly : ys.length ≤ 2 := by rw [pm.length_eq, List.length_map]; exact okf.1
  refine for_list (K := K) (a := p) (xs := ys.map V.str) (fun i σ' H' => ∃ (es : List (Key × V)) (fs : List (Str × D)) (o : Option V), σ' = σ.set b o ∧ MvX S c ch H H' ∧ H' p = some (.lst (ys.map V.str)) ∧ H' ch = some (.dK es) ∧ Rep H' (n + 1) P (flD f) (.ref fu) ∧ fs.map (·.1) = ys.take i ∧ (∀ p ∈ fs, ∃ x ws, p.2 = .str x ∧ (p.1, ws) ∈ f ∧ x ∈ ws) ∧ Paired (fun (x : Str × D) (e : Key × V) => e.1 = Sum.inr x.1 ∧ ∃ y, x.2 = .str y ∧ e.2 = .str y) fs es)
    ⟨[], [], ob, (set_back hb).symm, ⟨st1, fun y o _ _ _ h => ep _ _ h⟩, upd_same, ep _ _ hch, rep_ex ep hf, rfl, (fun p hp => nomatch hp), .nil⟩ (fun i σ' H' _ ⟨_, _, _, _, _, h, _⟩ => Evl.sq_of h) (fun i x σ' H' hx pv => ?_) fun σ' H' pv => ?_
  · obtain ⟨es1, fs, o, rfl, mx, hpH, hchH, hfH, fk, fv, pr1⟩ := pv
    rw [List.getElem?_map] at hx
    cases hy : ys[i]? with
    | none => rw [hy] at hx; cases hx
    | some y =>
    rw [hy] at hx
    cases hx
    refine gname_go ?_
    rw [List.set_set]
    obtain ⟨⟨y', ws⟩, hm, e⟩ := List.mem_map.mp (pm.mem_iff.mp (List.mem_of_getElem? hy))
    have e : y' = y := e
    subst e
    have hbv : ∀ {v : V}, (σ.set b (some v))[b]? = some (some v) := by
      intro v
      rw [List.getElem?_set, if_pos rfl, if_pos (List.getElem?_eq_some_iff.mp hb).1]
    obtain ⟨_, es2, e2, _, hfu, _, pr2⟩ := id hfH
    cases e2
    have lk : (f.map fun p => (p.1, D.tup (p.2.map .str))).lookup y' = some (.tup (ws.map .str)) := by
      refine lk_of_mem ?_ (List.mem_map.mpr ⟨(y', ws), hm, rfl⟩)
      rw [List.map_map]; exact okf.2.1
    obtain ⟨v, hv, rv⟩ := rep_entry pr2 lk
    obtain ⟨ta, rfl, hta⟩ := rep_words rv
    have okw := okf.2.2 _ hm
    have get1 : ∀ {Hx : Hp}, Ex H' Hx → Ev (tDGet (tVar a) (tVar b)) (σ.set b (some (.str y'))) Hx (.ref ta) := fun ex => ev_get (Evl.ev_var (set_at ba ha)) (Evl.ev_var hbv) (.inl (ex _ _ hfu)) hv
    refine get1 (Ex.refl _) H' (Ex.refl _) _ fun H5 e5 => ?_
    have st5 := mx.z.ex e5
    refine dr_go (m := (ws.length : Int)) (Evl.ea_cons (Evl.ev_var (set_at b0 h0)) (Evl.ea_cons (Evl.ev_is (ev_lenL (get1 e5) (.inr (Evl.st_of (e5 _ _ hta)))) (by rw [List.length_map])) Evl.ea_nil)) st5 (by have := okw.2.1; have h : (2 : Nat) ≤ ws.length := this; omega) (by have := okw.2.2.1; have h : ws.length ≤ 3 := this; omega) fun H6 j m6 j0 j1 => ?_
    obtain ⟨jn, rfl⟩ := Int.eq_ofNat_of_zero_le j0
    have hj := List.getElem?_eq_getElem (l := ws) (i := jn) (by omega)
    have m56 := (Mv.ex mx.z e5).trans m6
    have hta6 := m56.tup hta
    refine ⟨ta, _, (jn : Int), .str ws[jn], rfl, rfl, Evl.st_of hta6, atI_nat (by rw [List.getElem?_map, hj]; rfl), ?_⟩
    have hch6 := m56.fr _ _ chS.1 chS.2 hchH
    have les : es1.length ≤ 2 := by
      have h1 := pair_len pr1
      have h2 := congrArg List.length fk
      rw [List.length_map, List.length_take] at h2
      omega
    have nv : valV es1 (Sum.inr y' : Key) = none := vV_no (by
      have : es1.map (·.1) = (fs.map (·.1)).map Sum.inr := pair_keys (F := fun x e => ∃ y, x.2 = .str y ∧ e.2 = .str y) pr1
      rw [this, fk]
      exact inr_not (not_take (pm.nodup_iff.mpr okf.2.1) hy))
    refine ⟨_, set_at bc hc, _, hbv, ch, _, rfl, .inl ⟨es1, Sum.inr y', hch6, rfl, Evl.sz_lt (by omega), rfl⟩, ?_⟩
    refine ⟨es1 ++ [(Sum.inr y', .str ws[jn])], fs ++ [(y', .str ws[jn])], _, rfl, (mx.mv m56).put chS.1 chS.2, by rw [upd_ne pch]; exact m56.fr _ _ pS.1 pS.2 hpH, by rw [upd_same, putK_new _ nv], ?_, by rw [List.map_append, fk, take_snoc hy]; rfl, fun p hp => ?_, pair_snoc pr1 ⟨rfl, _, rfl, rfl⟩⟩
    · exact rep_upd hch6 (fun _ z => nomatch z) (fun b hb z => nch (by rw [← z]; exact hb)) (rep_mv m56 nS nc hfH)
    · rcases List.mem_append.mp hp with hp | hp
      · exact fv p hp
      · rw [List.mem_singleton.mp hp]; exact ⟨_, ws, rfl, hm, List.getElem_mem _⟩
  · obtain ⟨es1, fs, o, rfl, mx, hpH, hchH, hfH, fk, fv, pr1⟩ := pv
    rw [List.length_map, List.take_of_length_le (Nat.le_refl _)] at fk
    exact k H' fs es1 o mx hchH pr1 (fs_of okf.2.1 pm fk fv)
def spRw (m : Nat) : Sp := fun vs H Q _ => ∃ (s : Sh) (pool : List Int) (S c pa : Addr) (v : V) (n : Nat) (P : Addr → Prop) (r : Ro) (most : Int), vs = [.ref S, v, .str r.1, .int most, .ref pa] ∧ StAt H S c ∧ RepF H n P s v ∧ ¬ P S ∧ ¬ P c ∧ (∀ b, P b → H b ≠ none) ∧ okSh s ∧ r ∈ rowsS s ∧ 0 ≤ most ∧ most ≤ 5 ∧ H pa = some (.lst (pool.map V.int)) ∧ pa ≠ S ∧ pa ≠ c ∧ ¬ P pa ∧ pool.length = 12 ∧ pool.Nodup ∧ 1 ≤ m ∧ (r.2.1 = none → 2 ≤ m) ∧
  ∀ (H' : Hp) (q : Addr) (rd : D), Mv S c H H' → Rep H' (3 * m + 1) (fun b => H b = none) rd (.ref q) → gRows s pool m r rd → Q (.ref q) H'
/-- for inner in _law_inner(lists, name): below[inner] = _law_rows(state, lists, inner, most, pool) -/
theorem below_go {l nm b be pp : Nat} {s : Sh} {pool : List Int} {m : Nat} {σ : L2.St} {D_ : Ends} {H : Hp} {S c pa ba : Addr} {v : V} {n : Nat} {P : Addr → Prop} {r : Ro} {most : Int} (h0 : σ[0]? = some (some (.ref S))) (hl : σ[l]? = some (some v)) (hnm : σ[nm]? = some (some (.str r.1))) (hbe : σ[be]? = some (some (.ref ba))) (hpp : σ[pp]? = some (some (.ref pa))) {ob : Option V} (hb : σ[b]? = some ob) (b0 : b ≠ 0) (bl : b ≠ l) (bbe : b ≠ be) (bpp : b ≠ pp)
    (st : StAt H S c) (hv : RepF H n P s v) (nS : ¬ P S) (nc : ¬ P c) (nba : ¬ P ba) (nP : ∀ b, P b → H b ≠ none) (hz : okSh s) (hr1 : r ∈ rowsS s) (hm : r.2.1 = none → 1 ≤ m) (m0 : 0 ≤ most) (m5 : most ≤ 5) (hpa : H pa = some (.lst (pool.map V.int))) (paS : pa ≠ S ∧ pa ≠ c) (npa : ¬ P pa) (pl12 : pool.length = 12) (pnd : pool.Nodup) (hba : H ba = some (.dK [])) (baS : ba ≠ S ∧ ba ≠ c)
    (k : ∀ H' ls es o, MvX S c ba H H' → H' ba = some (.dK es) → Paired (fun (x : Str × D) (e : Key × V) => e.1 = Sum.inr x.1 ∧ Rep H' (3 * m + 1) (fun b => H b = none) x.2 e.2) ls es → ls.map (·.1) = kids s (some r.1) → (∀ r' ∈ rowsS s, r'.2.1 = some r.1 → ∃ d', ls.lookup r'.1 = some d' ∧ gRows s pool m r' d') → D_.nx (σ.set b o) H') :
    tFor (iList K (tCall spLI [] E0 (tCons (tVar l) (tCons (tVar nm) tNil)))) (gName b) (sDPut (tVar be) (tVar b) (tCall (spRw m) [] E0 (tCons (tVar 0) (tCons (tVar l) (tCons (tVar b) (tCons (tC (.int most)) (tCons (tVar pp) tNil))))))) D_ σ H := by
  refine ⟨_, hl, _, hnm, v, n, P, s, r, rfl, hv, hz, hr1, fun H1 q e1 hq hq1 => ⟨q, rfl, ⟨_, Evl.sq_of hq1⟩, ?_⟩⟩
  have st1 := st.ex e1
  have qS := st.someS hq
  have qba : q ≠ ba := fun e => by rw [e, hba] at hq; cases hq
  have kl := kids_le hz hr1
  have knd : (kids s (some r.1)).Nodup := by
    match kids s (some r.1), kl with
    | [], _ => exact List.nodup_nil
    | [_], _ => simp
  refine for_list (K := K) (a := q) (xs := (kids s (some r.1)).map V.str) (fun i σ' H' => ∃ (es : List (Key × V)) (ls : List (Str × D)) (o : Option V), σ' = σ.set b o ∧ MvX S c ba H H' ∧ H' q = some (.lst ((kids s (some r.1)).map V.str)) ∧ H' ba = some (.dK es) ∧ RepF H' n P s v ∧ H' pa = some (.lst (pool.map V.int)) ∧ ls.map (·.1) = (kids s (some r.1)).take i ∧ (∀ r' ∈ rowsS s, r'.2.1 = some r.1 → r'.1 ∈ (kids s (some r.1)).take i → ∃ d', ls.lookup r'.1 = some d' ∧ gRows s pool m r' d') ∧ Paired (fun (x : Str × D) (e : Key × V) => e.1 = Sum.inr x.1 ∧ Rep H' (3 * m + 1) (fun b => H b = none) x.2 e.2) ls es)
    ⟨[], [], ob, (set_back hb).symm, ⟨st1, fun y o _ _ _ h => e1 _ _ h⟩, hq1, e1 _ _ hba, hv.ex e1, e1 _ _ hpa, rfl, (fun r' _ _ h => nomatch h), .nil⟩ (fun i σ' H' _ ⟨_, _, _, _, _, h, _⟩ => Evl.sq_of h) (fun i x σ' H' hx pv => ?_) fun σ' H' pv => ?_
  · obtain ⟨es, ls, o, rfl, mx, hqH, hbaH, hvH, hpaH, lk0, lg, pr⟩ := pv
    rw [List.getElem?_map] at hx
    cases hy : (kids s (some r.1))[i]? with
    | none => rw [hy] at hx; cases hx
    | some y =>
    rw [hy] at hx
    cases hx
    have i0 : i = 0 := by have := (List.getElem?_eq_some_iff.mp hy).1; omega
    subst i0
    have lnil : ls = [] := by cases ls with | nil => rfl | cons a b => simp at lk0
    subst lnil
    cases pr
    refine gname_go ?_
    rw [List.set_set]
    have hbv : ∀ {v : V}, (σ.set b (some v))[b]? = some (some v) := by
      intro v
      rw [List.getElem?_set, if_pos rfl, if_pos (List.getElem?_eq_some_iff.mp hb).1]
    obtain ⟨r', hr', e1', e2'⟩ := kids_mem (List.mem_of_getElem? hy)
    subst e2'
    have pout : r.2.1 = none := by
      rcases row_cases hr1 with ⟨p, hp, rfl⟩ | ⟨p, hp, q', hq', rfl⟩
      · rfl
      · have := kids_inner hz hp hq'
        rw [show kids s (some q'.1) = [] from this] at hy; cases hy
    have nP' : ∀ b, P b → H' b ≠ none := fun b hb z => nP b hb (mx.back hbaH z)
    refine ⟨_, set_at b0 h0, _, set_at bl hl, _, hbv, _, set_at bpp hpp, s, pool, S, c, pa, v, n, P, r', most, rfl, mx.z, hvH, nS, nc, nP', hz, hr', m0, m5, hpaH, paS.1, paS.2, npa, pl12, pnd, hm pout, (fun z => by rw [e1'] at z; cases z), fun H2 q2 rd m2 rr gr => ?_⟩
    have hba2 := m2.fr _ _ baS.1 baS.2 hbaH
    refine ⟨_, set_at bbe hbe, _, hbv, ba, _, rfl, .inl ⟨[], Sum.inr r'.1, hba2, rfl, by decide, rfl⟩, ?_⟩
    have rr' : Rep (upd H2 ba (.dK [(Sum.inr r'.1, .ref q2)])) (3 * m + 1) (fun b => H b = none) rd (.ref q2) := by
      refine rep_S (S := fun b => H' b = none) (fun b hb => mx.back hbaH hb) (rep_upd hba2 (fun _ z => nomatch z) (fun b hb z => ?_) rr)
      rw [z, hbaH] at hb; cases hb
    refine ⟨[(Sum.inr r'.1, .ref q2)], [(r'.1, rd)], _, rfl, (mx.mv m2).put baS.1 baS.2, by rw [upd_ne qba]; exact m2.fr _ _ qS.1 qS.2 hqH, upd_same, RepF.upd hba2 (fun _ z => nomatch z) (fun b hb z => nba (by rw [← z]; exact hb)) (hvH.mv m2 nS nc), ?_, by rw [take_snoc hy]; rfl, fun r2 hr2 hp2 hm2 => ?_, .cons ⟨rfl, rr'⟩ .nil⟩
    · have : pa ≠ ba := fun e => by rw [e, hbaH] at hpaH; cases hpaH
      rw [upd_ne this]; exact m2.fr _ _ paS.1 paS.2 hpaH
    · rw [take_snoc hy] at hm2
      have e3 : r2.1 = r'.1 := by simpa using hm2
      have : r2 = r' := rows_uniq hz.2.1 hr2 hr' e3
      subst this
      exact ⟨rd, by rw [lk_cons, if_pos rfl], gr⟩
  · obtain ⟨es, ls, o, rfl, mx, hqH, hbaH, hvH, hpaH, lk0, lg, pr⟩ := pv
    rw [List.length_map, List.take_of_length_le (Nat.le_refl _)] at lk0 lg
    exact k H' ls es o mx hbaH pr lk0 fun r' hr' hp' => lg r' hr' hp' (List.mem_map.mpr ⟨r', List.mem_filter.mpr ⟨hr', decide_eq_true hp'⟩, rfl⟩)
end
end Pk

namespace Pk
open PySem PySem.Spec PyProof.Rows L2 Ssb
open Evl (Ex Ev EvT EvL EvA EvU)
theorem merge3 {k1 k2 k3 : Str} {v1 v2 v3 : V} (ne : k1 ≠ k2) (n13 : k1 ≠ k3) (n23 : k2 ≠ k3) : mergeK [] [((Sum.inr k1 : Key), v1), (Sum.inr k2, v2), (Sum.inr k3, v3)] = [(Sum.inr k1, v1), (Sum.inr k2, v2), (Sum.inr k3, v3)] := by
  show putK (mergeK [] [((Sum.inr k1 : Key), v1), (Sum.inr k2, v2)]) (Sum.inr k3) v3 = _
  rw [merge2 ne, putK_new]
  · rfl
  · rw [vV_cons, if_neg fun z => n13 (Sum.inr.inj z), vV_cons, if_neg fun z => n23 (Sum.inr.inj z)]; rfl
theorem nIF : ¬ (("id" : Str) = "fields") := by decide +kernel
theorem nIL : ¬ (("id" : Str) = "lists") := by decide +kernel
theorem nFL : ¬ (("fields" : Str) = "lists") := by decide +kernel
theorem lkR1 {d1 d2 d3 : D} : List.lookup ("id" : Str) [(("id" : Str), d1), (("fields" : Str), d2), (("lists" : Str), d3)] = some d1 := by rw [lk_cons, if_pos rfl]
theorem lkR2 {d1 d2 d3 : D} : List.lookup ("fields" : Str) [(("id" : Str), d1), (("fields" : Str), d2), (("lists" : Str), d3)] = some d2 := by rw [lk_cons, if_neg (fun e => nIF e.symm), lk_cons, if_pos rfl]
theorem lkR3 {d1 d2 d3 : D} : List.lookup ("lists" : Str) [(("id" : Str), d1), (("fields" : Str), d2), (("lists" : Str), d3)] = some d3 := by rw [lk_cons, if_neg (fun e => nIL e.symm), lk_cons, if_neg (fun e => nFL e.symm), lk_cons, if_pos rfl]
theorem q_seq {tu tz : TS} {D_ : Ends} {σ : L2.St} {H : Hp} (h : tu { D_ with nx := tz D_ } σ H) : tSeq tu tz D_ σ H := h
theorem strs_rep {H : Hp} {n : Nat} {S : Addr → Prop} {fs : List (Str × D)} {es : List (Key × V)} (pr : Paired (fun (x : Str × D) (e : Key × V) => e.1 = Sum.inr x.1 ∧ ∃ y, x.2 = .str y ∧ e.2 = .str y) fs es) : Paired (fun (x : Str × D) (e : Key × V) => e.1 = Sum.inr x.1 ∧ Rep H (n + 1) S x.2 e.2) fs es :=
  pair_imp pr fun a b h => ⟨h.1, by obtain ⟨y, h1, h2⟩ := h.2; rw [h1, h2]; exact rfl⟩
section
variable {P : Program} {w : World} {K : PySem.W.Frag} {mg : Str → Option Value} {base : Heap} {C_Shape C_FORMS : Addr}
theorem ok__law_rows (T : Txt K mg C_Shape C_FORMS) (R : Prg K mg C_Shape C_FORMS) : ∀ m, ∃ f fd, Fn P w K mg base "_law_rows" (m + 3) ["_law_state", "_law_lists", "_law_name", "_law_most", "_law_pool_here"] (spRw m) f fd
  | 0 => by
    obtain ⟨f, fd, at_, F, kp⟩ := R._law_rows
    refine ⟨f, fd, F.ok sc__law_rows (fun vs H Q E h => ?_) (fun cdv A outer s H vs Q E hr h => ?_), at_, kp, F.binds (fun _ _ _ _ _ _ us hl => match us, hl with | [_, _, _, _, _], _ => rfl)⟩
    · obtain ⟨s, pool, S, c, pa, v, n, P, r, most, rfl, _⟩ := h; rfl
    · obtain ⟨s, pool, S, c, pa, v, n, P, r, most, rfl, _, _, _, _, _, _, _, _, _, _, _, _, _, _, _, h, _⟩ := h; exact absurd h (by decide)
  | m + 1 => by
    obtain ⟨_, _, G__law_rows⟩ := ok__law_rows T R m
    obtain ⟨_, _, G__law_draw⟩ := ok__law_draw (P := P) (w := w) (base := base) T R
    obtain ⟨_, _, G__law_fields⟩ := ok__law_fields (P := P) (w := w) (base := base) T R
    obtain ⟨_, _, G__law_inner⟩ := ok__law_inner (P := P) (w := w) (base := base) T R
    obtain ⟨f, fd, at_, F, kp⟩ := R._law_rows
    refine ⟨f, fd, F.ok sc__law_rows (fun vs H Q E h => ?_) (fun cdv A outer s H vs Q E hr h => ?_), at_, kp, F.binds (fun _ _ _ _ _ _ us hl => match us, hl with | [_, _, _, _, _], _ => rfl)⟩
    · obtain ⟨s, pool, S, c, pa, v, n, P, r, most, rfl, _⟩ := h; rfl
    · obtain ⟨z, pool, S, c, pa, v, n, PP, r, most, rfl, st, hv, nS, nc, nP, hz, hr1, m0, m5, hpa, paS, pac, npa, pl12, pnd, _, hm, k⟩ := h
      refine ⟨_, (pss_cons (ps_set (i := 5) sc__law_rows.nd rfl (Or.inl rfl) (pe_callTy (r := rListA K) call_list_of (by rfl) T.list (by decide +kernel) (pa_cons (pv 4) pa_nil)))
  (pss_cons (ps_set (i := 6) sc__law_rows.nd rfl (Or.inl rfl) (pe_lst pa_nil))
  (pss_cons (ps_for PassesOwn.never rfl (pi_range1 (by rfl) T.range (pa_cons (pcl G__law_draw hr (pa_cons (pv 0) (pa_cons (pe_op op_add (pv 3) pe_int) pa_nil))) pa_nil)) (pg_name (i := 7) sc__law_rows.nd rfl (Or.inl rfl))
    (pss_cons (ps_set (i := 8) sc__law_rows.nd rfl (Or.inl rfl) (show PE _ _ (tBM K _ _ _ _) from pe_bm PySem.F.plainAttrs_list PySem.F.slot_list_pop PySem.F.type_list_pop mt_popAt (pv 5) (pa_cons (pcl G__law_draw hr (pa_cons (pv 0) (pa_cons (pe_callB (r := rLenA K) call_len (by rfl) T.len (by decide +kernel) (pa_cons (pv 5) pa_nil)) pa_nil))) pa_nil)))
  (pss_cons (ps_set (i := 9) sc__law_rows.nd rfl (Or.inl rfl) pe_dnewK)
  (pss_cons (ps_set (i := 10) sc__law_rows.nd rfl (Or.inl rfl) (pcl G__law_fields hr (pa_cons (pv 1) (pa_cons (pv 2) pa_nil))))
  (pss_cons (ps_for PassesOwn.never rfl (show PI _ _ _ (iList K _) from pi_list (pe_callB (r := rSortDK) (call_sortedD rfl) (by rfl) T.sorted (by decide +kernel) (pa_cons (pv 10) pa_nil))) (pg_name (i := 11) sc__law_rows.nd rfl (Or.inl rfl))
    (pss_one (ps_dput (hu_of hr) (pv 9) (pv 11) (pe_ix (r := rIxT K) ix_tup (pe_dget (hu_of hr) (pv 10) (pv 11) (fun _ _ => rfl)) (pcl G__law_draw hr (pa_cons (pv 0) (pa_cons (pe_callB (r := rLenA K) call_len (by rfl) T.len (by decide +kernel) (pa_cons (pe_dget (hu_of hr) (pv 10) (pv 11) (fun _ _ => rfl)) pa_nil)) pa_nil))) (fun _ _ => rfl)) rfl)))
  (pss_cons (ps_set (i := 12) sc__law_rows.nd rfl (Or.inl rfl) pe_dnewK)
  (pss_cons (ps_for PassesOwn.never rfl (show PI _ _ _ (iList K _) from pi_list (pcl G__law_inner hr (pa_cons (pv 1) (pa_cons (pv 2) pa_nil)))) (pg_name (i := 13) sc__law_rows.nd rfl (Or.inl rfl))
    (pss_one (ps_dput (hu_of hr) (pv 12) (pv 13) (pcl G__law_rows hr (pa_cons (pv 0) (pa_cons (pv 1) (pa_cons (pv 13) (pa_cons pe_int (pa_cons (pv 4) pa_nil)))))) rfl)))
  (pss_one (ps_expr (show PE _ _ (tBM K _ _ _ _) from pe_bm PySem.F.plainAttrs_list PySem.F.slot_list_append PySem.F.type_list_append mt_append (pv 6) (pa_cons (pe_disp (pps_cons pe_str (pv 8) (pps_cons pe_str (pv 9) (pps_cons pe_str (pv 12) pps_nil))) (by rfl) (by rfl) (fun z => by cases z) (by decide)) pa_nil)))))))))))
  (pss_one (ps_ret (pv 6)))))), ?_⟩
      refine ⟨_, rfl, pa, _, rfl, .inl (Evl.sq_of hpa), fun lf hlf => ?_⟩
      have e1 := Ex.new (o := .lst (pool.map V.int)) hlf
      refine gname_go ?_
      have lS := st.someS hlf
      refine Evl.q_asgL (xs := []) (Evl.el_lst Evl.ea_nil (Nat.zero_le _)) fun q H2 hq e2 hq2 => ?_
      have hqH : H q = none := Evl.fresh_back e1 hq
      have qS := st.someS hqH
      have qlf : q ≠ lf := fun e => by rw [e, upd_same] at hq; cases hq
      have m02 := Mv.ex st (e1.trans e2)
      have hlf2 := e2 _ _ (upd_same (H := H) (a := lf) (o := .lst (pool.map V.int)))
      refine dr_go (m := most + 1) (Evl.ea_cons (Evl.ev_var rfl) (Evl.ea_cons (Evl.ev_op (Evl.ev_var rfl) Evl.ev_c Evl.rv_I0) Evl.ea_nil)) m02.z (by omega) (by omega) fun H3 many m3 s0 s1 => ⟨many, rfl, by omega, by omega, ?_⟩
      have m03 := m02.trans m3
      refine for_it walk_range (fun i σ' H' => ∃ (lv : List Int) (ys : List V) (rows : List D) (ids : List Int) (o7 o8 o9 o10 o11 o12 o13 : Option V), σ' = [some (.ref S), some v, some (.str r.1), some (.int most), some (.ref pa), some (.ref lf), some (.ref q), o7, o8, o9, o10, o11, o12, o13] ∧ Mv S c H H' ∧ H' lf = some (.lst (lv.map V.int)) ∧ lv.length + i = 12 ∧ lv.Nodup ∧ (∀ x ∈ lv, x ∈ pool) ∧ H' q = some (.lst ys) ∧
          Paired (fun d y => Rep H' (3 * m + 3) (fun b => (H b = none ∧ b ≠ q) ∧ b ≠ lf) d y) rows ys ∧ Paired (gRow z pool m r) rows ids ∧ ids.Nodup ∧ (∀ x ∈ ids, x ∈ pool ∧ x ∉ lv) ∧ rows.length = i)
        ⟨pool, [], [], [], _, _, _, _, _, _, _, rfl, m03, m3.fr _ _ lS.1 lS.2 hlf2, by omega, pnd, fun x h => h, m3.fr _ _ qS.1 qS.2 hq2, .nil, .nil, List.nodup_nil, (fun x h => nomatch h), rfl⟩ (fun _ _ _ _ _ => trivial) (fun i x σ' H0 H' hi pv y => ?_) fun σ' H' pv => ?_
      · obtain ⟨lv, ys, rows, ids, o7, o8, o9, o10, o11, o12, o13, rfl, mH, hlfH, llv, lnd, lp, hqH', pys, prs, ind, idp, lrows⟩ := pv
        obtain ⟨rfl, rfl⟩ := y
        refine gname_go ?_
        have i5 : i < 6 := by omega
        refine ⟨_, rfl, .inl ⟨rfl, _, Evl.sq_of hlfH⟩, dr_go (m := (lv.length : Int)) (Evl.ea_cons (Evl.ev_var rfl) (Evl.ea_cons (Evl.ev_is (ev_lenL (Evl.ev_var rfl) (.inl (Evl.sq_of hlfH))) (by rw [List.length_map])) Evl.ea_nil)) mH.z (by omega) (by omega) fun H4 j m4 j0 j1 => ?_⟩
        obtain ⟨jn, rfl⟩ := Int.eq_ofNat_of_zero_le j0
        have hj := List.getElem?_eq_getElem (l := lv) (i := jn) (by omega)
        have hlf4 := m4.fr _ _ lS.1 lS.2 hlfH
        refine ⟨lf, _, (jn : Int), jn, .int lv[jn], rfl, rfl, hlf4, by omega, by omega, seq_ix (by rw [List.length_map]; omega), by rw [List.getElem?_map, hj]; rfl, ?_⟩
        refine gname_go ?_
        have pm := erase_perm hj
        have lnd' := pm.nodup_iff.mpr lnd
        rw [List.nodup_cons] at lnd'
        have elf : (lv.map V.int).eraseIdx jn = (lv.eraseIdx jn).map V.int := (erase_map V.int lv jn).symm
        rw [elf]
        have m05 : Mv S c H (upd H4 lf (.lst ((lv.eraseIdx jn).map V.int))) := (mH.trans m4).mut hlf
        have hlf5 : (upd H4 lf (.lst ((lv.eraseIdx jn).map V.int))) lf = some (.lst ((lv.eraseIdx jn).map V.int)) := upd_same
        have hq5 : (upd H4 lf (.lst ((lv.eraseIdx jn).map V.int))) q = some (.lst ys) := by rw [upd_ne qlf]; exact m4.fr _ _ qS.1 qS.2 hqH'
        have rg : ∀ b, (H b = none ∧ b ≠ q) ∧ b ≠ lf → b ≠ S ∧ b ≠ c := fun b hb => st.someS hb.1.1
        have pys5 : Paired (fun d y => Rep (upd H4 lf (.lst ((lv.eraseIdx jn).map V.int))) (3 * m + 3) (fun b => (H b = none ∧ b ≠ q) ∧ b ≠ lf) d y) rows ys := pair_imp pys fun a b h => rep_upd hlf4 (fun _ z => nomatch z) (fun b z => z.2) (rep_mv m4 (fun z => (rg _ z).1 rfl) (fun z => (rg _ z).2 rfl) h)
        have ler : (lv.eraseIdx jn).length + (i + 1) = 12 := by have := pm.length_eq; rw [List.length_cons] at this; omega
        clear pys hqH' hlfH hlf4
        generalize (upd H4 lf (.lst ((lv.eraseIdx jn).map V.int))) = H5 at m05 hlf5 hq5 pys5 ⊢
        have hv5 := hv.mv m05 nS nc
        have hpa5 := m05.fr _ _ paS pac hpa
        have pys5 := pair_imp pys5 fun a b h => rep_dom h
        -- chosen
        intro ch hch
        refine gname_go ?_
        have chH := m05.back hch
        have chS := st.someS chH
        have nPch : ¬ PP ch := fun h => nP ch h chH
        have m56 := Mv.new (o := .dK []) m05.z hch
        refine ⟨_, rfl, _, rfl, v, n, PP, z, r, rfl, hv5.mv m56 nS nc, hz, hr1, ⟨pa, _, m56.fr _ _ paS pac hpa5, npa⟩, fun H7 u nf e7 ru => ?_⟩
        refine gname_go ?_
        obtain ⟨fu, rfl⟩ : ∃ fu, u = .ref fu := by
          cases nf with
          | zero => exact ru.elim
          | succ nf => obtain ⟨a, _, e, _⟩ := ru; exact ⟨a, e⟩
        have okf : okFl r.2.2 := ((okSh_rows hz).2 r hr1).2
        have m57 := m56.tx e7
        refine q_seq (choose_go (a := 10) (b := 11) (cc := 9) rfl rfl rfl rfl (by decide) (by decide) (by decide) m57.z ru okf nS nc nPch (e7 _ _ upd_same) chS fun H8 fs es o mx8 hch8 prf fok => ?_)
        have m58 : Mv S c H5 H8 := m57.x hch mx8
        -- below
        intro be hbe
        refine gname_go ?_
        have hbe5 := m58.back hbe
        have beH := m05.back hbe5
        have beS := st.someS beH
        have bech : be ≠ ch := fun e => by rw [e, hch8] at hbe; cases hbe
        have nPbe : ¬ PP be := fun h => nP be h beH
        have m59 := m58.tx (Ex.new (o := .dK []) hbe)
        have nP9 : ∀ b, PP b → (upd H8 be (.dK [])) b ≠ none := fun b hb z => nP b hb (m05.back (m59.back z))
        refine q_seq (below_go (l := 1) (nm := 2) (b := 13) (be := 12) (pp := 4) (s := z) (pool := pool) (m := m) rfl rfl rfl rfl rfl rfl (by decide) (by decide) (by decide) (by decide) m59.z (hv5.mv m59 nS nc) nS nc nPbe nP9 hz hr1 (fun h => by have := hm h; omega) (by decide) (by decide) (m59.fr _ _ paS pac hpa5) ⟨paS, pac⟩ npa pl12 pnd upd_same beS fun HA ls els o2 mxA hbeA prl kls gls => ?_)
        have m5A : Mv S c H5 HA := m59.x hbe5 mxA
        have hchA : HA ch = some (.dK es) := mxA.fr _ _ chS.1 chS.2 bech.symm (by rw [upd_ne bech.symm]; exact hch8)
        have hqA := m5A.fr _ _ qS.1 qS.2 hq5
        have hlfA := m5A.fr _ _ lS.1 lS.2 hlf5
        -- the row
        refine ⟨_, rfl, .inl ⟨rfl, _, Evl.sq_of hqA⟩, fun p hp => ⟨_, rfl, _, rfl, _, rfl, upd_same, [(Sum.inr "id", .int lv[jn]), (Sum.inr "fields", .ref ch), (Sum.inr "lists", .ref be)], rfl, by show 3 ≤ 15; decide, ?_⟩⟩
        rw [merge3 nIF nIL nFL, upd_upd]
        have eP := Ex.new (o := .dK [((Sum.inr "id" : Key), V.int lv[jn]), (Sum.inr "fields", .ref ch), (Sum.inr "lists", .ref be)]) hp
        have hp5 := m5A.back hp
        have pH := m05.back hp5
        have pq : p ≠ q := fun e => by rw [e, hqA] at hp; cases hp
        have plf : p ≠ lf := fun e => by rw [e, hlfA] at hp; cases hp
        have pch : p ≠ ch := fun e => by rw [e, hchA] at hp; cases hp
        have pbe : p ≠ be := fun e => by rw [e, hbeA] at hp; cases hp
        have m5B := m5A.tx eP
        have lys : ys.length = i := by rw [← pair_len pys5]; exact lrows
        refine ⟨q, ys, .ref p, rfl, rfl, eP _ _ hqA, Evl.sz_lt (by omega), ?_⟩
        have rg5 : ∀ b, H5 b = none → ((H b = none ∧ b ≠ q) ∧ b ≠ lf) := fun b hb => ⟨⟨m05.back hb, fun e => by rw [e, hq5] at hb; cases hb⟩, fun e => by rw [e, hlf5] at hb; cases hb⟩
        have nS5 : ∀ b, (((H b = none ∧ b ≠ q) ∧ b ≠ lf) ∧ H5 b ≠ none) → b ≠ S ∧ b ≠ c := fun b hb => rg b hb.1
        have rowR : Rep (upd (upd HA p (.dK [((Sum.inr "id" : Key), V.int lv[jn]), (Sum.inr "fields", .ref ch), (Sum.inr "lists", .ref be)])) q (.lst (ys ++ [.ref p]))) (3 * m + 3) (fun b => (H b = none ∧ b ≠ q) ∧ b ≠ lf) (rowD lv[jn] fs ls) (.ref p) := by
          have chR := rg5 ch hch
          have beR := rg5 be hbe5
          refine ⟨p, [(Sum.inr "id", .int lv[jn]), (Sum.inr "fields", .ref ch), (Sum.inr "lists", .ref be)], rfl, rg5 p hp5, by rw [upd_ne pq, upd_same], by show 3 ≤ 100000; decide, .cons ⟨rfl, rfl⟩ (.cons ⟨rfl, ch, es, rfl, ⟨chR, pch.symm⟩, by rw [upd_ne chR.1.2, upd_ne pch.symm]; exact hchA, ?_, strs_rep prf⟩ (.cons ⟨rfl, be, els, rfl, ⟨beR, pbe.symm⟩, by rw [upd_ne beR.1.2, upd_ne pbe.symm]; exact hbeA, ?_, ?_⟩ .nil))⟩
          · have := pair_len prf
            have h2 := fok.ok.1
            have := okf.1
            omega
          · have : ls.length = (kids z (some r.1)).length := by rw [← kls, List.length_map]
            have := kids_le hz hr1
            omega
          · refine pair_imp prl fun a b h => ⟨h.1, ?_⟩
            have h1 := rep_dom h.2
            have h2 := rep_ex eP h1
            refine rep_S (fun b hb => ?_) (rep_upd (eP _ _ hqA) (fun _ z => nomatch z) (fun b hb e => ?_) h2)
            · have hb9 : (upd H8 be (.dK [])) b = none := hb.1
              exact ⟨⟨rg5 b (m59.back hb9), fun e => hb.2 (by rw [e]; exact hp)⟩, fun e => by rw [e, upd_same] at hb9; cases hb9⟩
            · have hb9 : (upd H8 be (.dK [])) b = none := hb.1
              have := m59.back hb9
              rw [e, hq5] at this; cases this
        refine ⟨lv.eraseIdx jn, ys ++ [.ref p], rows ++ [rowD lv[jn] fs ls], ids ++ [lv[jn]], _, _, _, _, _, _, _, rfl, (m05.trans m5B).mut hqH, by rw [upd_ne qlf.symm]; exact m5B.fr _ _ lS.1 lS.2 hlf5, ler, lnd'.2, fun x hx => lp x ((List.eraseIdx_sublist _ _).subset hx), upd_same, pair_snoc (pair_imp pys5 fun a b h => ?_) rowR, pair_snoc prs ⟨fs, ls, rfl, fok, kls, gls⟩, ?_, fun x hx => ?_, by rw [List.length_append, lrows]; rfl⟩
        · exact rep_S (fun b hb => hb.1) (rep_upd (eP _ _ hqA) (fun _ z => nomatch z) (fun b hb => hb.1.1.2) (rep_mv m5B (fun z => (nS5 _ z).1 rfl) (fun z => (nS5 _ z).2 rfl) h))
        · refine List.nodup_append.mpr ⟨ind, by simp, fun a ha b hb => ?_⟩
          rw [List.mem_singleton.mp hb]
          intro e
          exact (idp a ha).2 (by rw [e]; exact List.getElem_mem _)
        · rcases List.mem_append.mp hx with hx | hx
          · exact ⟨(idp x hx).1, fun h => (idp x hx).2 ((List.eraseIdx_sublist _ _).subset h)⟩
          · rw [List.mem_singleton.mp hx]
            exact ⟨lp _ (List.getElem_mem _), lnd'.1⟩
      · obtain ⟨lv, ys, rows, ids, o7, o8, o9, o10, o11, o12, o13, rfl, mH, hlfH, llv, lnd, lp, hqH', pys, prs, ind, idp, lrows⟩ := pv
        refine Evl.s_ret (Evl.ev_var rfl) fun H9 e9 => k H9 q (.lst rows) (mH.tx e9) (rep_ex e9 ⟨q, ys, rfl, hqH, hqH', by omega, pair_imp pys fun a b h => rep_S (fun b hb => hb.1.1) h⟩) ⟨rows, ids, rfl, ind, by omega, fun x hx => (idp x hx).1, prs⟩
end
end Pk

namespace Pk
open PySem PySem.Spec PyProof.Rows L2 Ssb
open Evl (Ex Ev EvT EvL EvA EvU)
/-! ### data that are drawn -/
theorem nFlLs : ("flags" : Str) ≠ "lists" := by decide +kernel
def dataG (fgs ls : List (Str × D)) : D := .dic [("flags", .dic fgs), ("lists", .dic ls)]
def GD (s : Sh) (fl : List Str) (pool : List Int) (d : D) : Prop := ∃ fgs ls, d = dataG fgs ls ∧ fgs.map (·.1) = fl ∧ (∀ p ∈ fgs, ∃ b, p.2 = .bl b) ∧ ls.map (·.1) = s.map (·.1) ∧ ∀ p ∈ s, ∃ d', ls.lookup p.1 = some d' ∧ gRows s pool 2 (p.1, none, p.2.1) d'
theorem lk_snoc {α : Type} : ∀ {l : List (Str × α)} {k : Str} {x : α}, k ∉ l.map (·.1) → (l ++ [(k, x)]).lookup k = some x
  | [], k, x, _ => by show List.lookup k [(k, x)] = _; rw [lk_cons, if_pos rfl]
  | (j, y) :: l, k, x, h => by
    show List.lookup k ((j, y) :: (l ++ [(k, x)])) = _
    rw [lk_cons, if_neg (fun e => h (by rw [e]; exact List.mem_cons_self))]
    exact lk_snoc fun hm => h (List.mem_cons_of_mem _ hm)
theorem lk_app {α : Type} : ∀ {l m : List (Str × α)} {k : Str} {x : α}, l.lookup k = some x → (l ++ m).lookup k = some x
  | (j, y) :: l, m, k, x, h => by
    show List.lookup k ((j, y) :: (l ++ m)) = _
    rw [lk_cons] at h ⊢
    by_cases c : k = j
    · rw [if_pos c] at h ⊢; exact h
    · rw [if_neg c] at h ⊢; exact lk_app h
theorem mv_unlock {S c d : Addr} {H1 H' : Hp} {u u' : HO} (st : StAt H1 S c) (hd : H1 d = some u) (dS : d ≠ S ∧ d ≠ c) (m : Mv S c (upd H1 d u') H') : Mv S c H1 (upd H' d u) :=
  ⟨st, m.z.upd dS, fun b o b1 b2 hb => by
    by_cases e : b = d
    · rw [e, upd_same]; rw [e, hd] at hb; exact hb
    · rw [upd_ne e]; exact m.fr b o b1 b2 (by rw [upd_ne e]; exact hb)⟩
section
variable {P : Program} {w : World} {K : PySem.W.Frag} {mg : Str → Option Value} {base : Heap} {C_Shape C_FORMS : Addr}
def spData : Sp := fun vs H Q _ => ∃ (S c qf pa : Addr) (v : V) (n : Nat) (P : Addr → Prop) (s : Sh) (fl : List Str) (pool : List Int), vs = [.ref S, .ref qf, v, .int 5, .ref pa] ∧ StAt H S c ∧ H qf = some (.lst (fl.map V.str)) ∧ qf ≠ S ∧ qf ≠ c ∧ fl.Nodup ∧ fl.length ≤ 2 ∧ Rep H (n + 1) P (lsD s) v ∧ ¬ P S ∧ ¬ P c ∧ (∀ b, P b → H b ≠ none) ∧ okSh s ∧
  H pa = some (.lst (pool.map V.int)) ∧ pa ≠ S ∧ pa ≠ c ∧ ¬ P pa ∧ pool.length = 12 ∧ pool.Nodup ∧ ∀ (H' : Hp) (q : Addr) (d : D), Mv S c H H' → Rep H' 9 (fun b => H b = none) d (.ref q) → GD s fl pool d → Q (.ref q) H'
theorem ok__law_data (T : Txt K mg C_Shape C_FORMS) (R : Prg K mg C_Shape C_FORMS) : ∃ f fd, Fn P w K mg base "_law_data" 6 ["_law_state", "_law_flags", "_law_lists", "_law_most", "_law_pool_here"] spData f fd := by
  obtain ⟨_, _, G__law_draw⟩ := ok__law_draw (P := P) (w := w) (base := base) T R
  obtain ⟨_, _, G__law_rows⟩ := ok__law_rows (P := P) (w := w) (base := base) T R 2
  obtain ⟨f, fd, at_, F, kp⟩ := R._law_data
  refine ⟨f, fd, F.ok sc__law_data (fun vs H Q E h => ?_) (fun cdv A outer s H vs Q E hr h => ?_), at_, kp, F.binds (fun _ _ _ _ _ _ us hl => match us, hl with | [_, _, _, _, _], _ => rfl)⟩
  · obtain ⟨S, c, qf, pa, v, n, P, s, fl, pool, rfl, _⟩ := h; rfl
  · obtain ⟨S, c, qf, pa, v, n, PP, z, fl, pool, rfl, st, hqf, qS, qc, fnd, f2, hv, nS, nc, nP, hz, hpa, paS, pac, npa, pl12, pnd, k⟩ := h
    refine ⟨_, (pss_cons (ps_set (i := 5) sc__law_data.nd rfl (Or.inl rfl) pe_dnewK)
  (pss_cons (ps_for PassesOwn.never rfl (show PI _ _ _ (iList K _) from pi_list (pv 1)) (pg_name (i := 6) sc__law_data.nd rfl (Or.inl rfl))
    (pss_one (ps_dput (hu_of hr) (pv 5) (pv 6) (pe_cmpR op_eq (pcl G__law_draw hr (pa_cons (pv 0) (pa_cons pe_int pa_nil))) pe_int (nomark _)) rfl)))
  (pss_cons (ps_set (i := 7) sc__law_data.nd rfl (Or.inl rfl) pe_dnewK)
  (pss_cons (ps_lock (ps_for PassesOwn.never rfl (pi_keys (pv 2)) (pg_name (i := 8) sc__law_data.nd rfl (Or.inl rfl))
    (pss_one (ps_dput (hu_of hr) (pv 7) (pv 8) (pcl G__law_rows hr (pa_cons (pv 0) (pa_cons (pv 2) (pa_cons (pv 8) (pa_cons (pv 3) (pa_cons (pv 4) pa_nil)))))) rfl))))
  (pss_one (ps_ret (pe_disp (pps_cons pe_str (pv 5) (pps_cons pe_str (pv 7) pps_nil)) (by rfl) (by rfl) (fun z => by cases z) (by decide)))))))), ?_⟩
    intro tb htb
    refine gname_go ?_
    have tbS := st.someS htb
    have m1 := Mv.new (o := .dK []) st htb
    refine q_seq ⟨_, rfl, qf, rfl, ⟨fl.map V.str, Evl.sq_of (m1.fr _ _ qS qc hqf)⟩, for_list (K := K) (a := qf) (xs := fl.map V.str) (fun i σ' H' => ∃ (es : List (Key × V)) (fgs : List (Str × D)) (o : Option V), σ' = [some (.ref S), some (.ref qf), some v, some (.int 5), some (.ref pa), some (.ref tb), o, none, none] ∧ Mv S c H H' ∧ H' tb = some (.dK es) ∧ fgs.map (·.1) = fl.take i ∧ (∀ p ∈ fgs, ∃ b, p.2 = .bl b) ∧ Paired (fun (x : Str × D) (e : Key × V) => e.1 = Sum.inr x.1 ∧ ∃ b, x.2 = .bl b ∧ e.2 = .bl b) fgs es)
      ⟨[], [], _, rfl, m1, upd_same, rfl, (fun p hp => nomatch hp), .nil⟩ (fun i σ' H' _ ⟨_, _, _, _, m, _⟩ => Evl.sq_of (m.fr _ _ qS qc hqf)) (fun i x σ' H' hx pv => ?_) fun σ' H' pv => ?_⟩
    · obtain ⟨es, fgs, o, rfl, mH, htbH, fk, fb, pr⟩ := pv
      rw [List.getElem?_map] at hx
      cases hy : fl[i]? with
      | none => rw [hy] at hx; cases hx
      | some y =>
      rw [hy] at hx
      cases hx
      refine gname_go ?_
      refine dr_go (m := 2) (Evl.ea_cons (Evl.ev_var rfl) (Evl.ea_cons Evl.ev_c Evl.ea_nil)) mH.z (by decide) (by decide) fun H4 r m4 _ _ => ⟨rfl, ?_⟩
      have htb4 := m4.fr _ _ tbS.1 tbS.2 htbH
      have les : es.length ≤ 2 := by
        have h1 := pair_len pr
        have h2 := congrArg List.length fk
        rw [List.length_map, List.length_take] at h2
        omega
      have nv : valV es (Sum.inr y : Key) = none := vV_no (by
        have : es.map (·.1) = (fgs.map (·.1)).map Sum.inr := pair_keys (F := fun x e => ∃ b, x.2 = .bl b ∧ e.2 = .bl b) pr
        rw [this, fk]
        exact inr_not (not_take fnd hy))
      refine ⟨_, rfl, _, rfl, tb, _, rfl, .inl ⟨es, Sum.inr y, htb4, rfl, Evl.sz_lt (by omega), rfl⟩, es ++ [(Sum.inr y, _)], fgs ++ [(y, .bl (decide (V.int r = V.int 1)))], _, rfl, (mH.trans m4).mut htb, by rw [upd_same, putK_new _ nv], by rw [List.map_append, fk, take_snoc hy]; rfl, fun p hp => ?_, pair_snoc pr ⟨rfl, _, rfl, rfl⟩⟩
      rcases List.mem_append.mp hp with hp | hp
      · exact fb p hp
      · rw [List.mem_singleton.mp hp]; exact ⟨_, rfl⟩
    obtain ⟨es, fgs, o6, rfl, mH, htbH, fk, fb, pr⟩ := pv
    rw [List.length_map, List.take_of_length_le (Nat.le_refl _)] at fk
    -- lists
    intro sto hsto
    refine gname_go ?_
    have stoH := mH.back hsto
    have stoS := st.someS stoH
    have sttb : sto ≠ tb := fun e => by rw [e, htbH] at hsto; cases hsto
    have m2 := mH.mut (o := .dK []) stoH
    have htb2 : (upd H' sto (.dK [])) tb = some (.dK es) := by rw [upd_ne sttb.symm]; exact htbH
    have hsto2 : (upd H' sto (.dK [])) sto = some (.dK []) := upd_same
    generalize (upd H' sto (.dK [])) = H2 at m2 htb2 hsto2 ⊢
    obtain ⟨d, des, rfl, Pd, hd, _, dpr⟩ := id (rep_mv m2 nS nc hv)
    have dS : d ≠ S ∧ d ≠ c := ⟨fun e => nS (e ▸ Pd), fun e => nc (e ▸ Pd)⟩
    have dH : H d ≠ none := nP d Pd
    have dsto : d ≠ sto := fun e => dH (by rw [e]; exact stoH)
    have dtb : d ≠ tb := fun e => dH (by rw [e]; exact htb)
    have hpa2 := m2.fr _ _ paS pac hpa
    have padd : pa ≠ d := fun e => npa (e ▸ Pd)
    have nPsto : ¬ PP sto := fun h => nP sto h stoH
    have ndz := sh_names hz
    have lz : z.length ≤ 2 := hz.1
    have ldes : des.length = z.length := by have := pair_len dpr; unfold lsL at this; rw [List.length_map] at this; exact this.symm
    refine for_lock (J := fun od => Itk d od des) (xs := fun _ => none) hd (fun od R r => ⟨_, rfl, d, od, rfl, .inl ⟨des, upd_same, r⟩⟩) (fun od => walk_keys) (fun od j σ' Hx => ∃ (es2 : List (Key × V)) (ls : List (Str × D)) (o : Option V), σ' = [some (.ref S), some (.ref qf), some (.ref d), some (.int 5), some (.ref pa), some (.ref tb), o6, some (.ref sto), o] ∧ (∀ b o, b ≠ S → b ≠ c → b ≠ sto → (upd H2 d (.frz od (.dK des))) b = some o → Hx b = some o) ∧ StAt Hx S c ∧ Hx sto = some (.dK es2) ∧ ls.map (·.1) = (z.map (·.1)).take j ∧ (∀ (i : Nat) p, i < j → z[i]? = some p → ∃ d', ls.lookup p.1 = some d' ∧ gRows z pool 2 (p.1, none, p.2.1) d') ∧ Paired (fun (x : Str × D) (e : Key × V) => e.1 = Sum.inr x.1 ∧ Rep Hx 7 (fun b => H b = none ∧ b ≠ sto) x.2 e.2) ls es2)
      (fun od => ⟨[], [], _, rfl, fun b o _ _ _ h => h, m2.z.upd dS, by rw [upd_ne dsto.symm]; exact hsto2, rfl, (fun i p h => absurd h (Nat.not_lt_zero i)), .nil⟩) (fun od j σ' Hx _ ⟨_, _, _, _, fr, _⟩ => fr _ _ dS.1 dS.2 dsto upd_same) (fun od j x σ' H0 Hx hlt pv y => ?_) fun od σ' Hx pv => ?_
    · obtain ⟨es2, ls, o, rfl, fr, zst, hstox, lk0, lg, prx⟩ := pv
      obtain ⟨rfl, kk, vj, hkv, rfl⟩ := y
      obtain ⟨⟨nm, dj⟩, hdj, hk, hrj⟩ := pair_back dpr hkv
      have hk : kk = Sum.inr nm := hk
      subst hk
      unfold lsL at hdj
      rw [List.getElem?_map] at hdj
      cases hp' : z[j]? with
      | none => rw [hp'] at hdj; cases hdj
      | some p' =>
      rw [hp'] at hdj
      cases hdj
      refine gname_go ?_
      have hpm := List.mem_of_getElem? hp'
      have rF : RepF Hx n PP z (.ref d) := by
        refine ⟨d, des, rfl, Pd, .inr ⟨od, fr _ _ dS.1 dS.2 dsto upd_same⟩, pair_imp dpr fun a b h => ⟨h.1, rep_to (fun b o hb hp => ?_) h.2⟩⟩
        have n3 : b ≠ d := fun e => by
          rcases hp with hp | ⟨xs, rfl⟩
          · exact hp.2 e
          · rw [e, hd] at hb; cases hb
        have n4 : b ≠ sto := fun e => by
          rcases hp with hp | ⟨xs, rfl⟩
          · exact nPsto (e ▸ hp.1)
          · rw [e, hsto2] at hb; cases hb
        have n5 : b ≠ S ∧ b ≠ c := by
          obtain ⟨_, k0, cs0, h1, h2, _⟩ := m2.z
          refine ⟨fun e => ?_, fun e => ?_⟩
          · rcases hp with hp | ⟨xs, rfl⟩
            · exact nS (e ▸ hp.1)
            · rw [e, h1] at hb; cases hb
          · rcases hp with hp | ⟨xs, rfl⟩
            · exact nc (e ▸ hp.1)
            · rw [e, h2] at hb; cases hb
        exact fr b o n5.1 n5.2 n4 (by rw [upd_ne n3]; exact hb)
      have hpax : Hx pa = some (.lst (pool.map V.int)) := fr _ _ paS pac (fun e => by rw [e, hsto2] at hpa2; cases hpa2) (by rw [upd_ne padd]; exact hpa2)
      have nPx : ∀ b, PP b → Hx b ≠ none := fun b hb z0 => by
        have hbH := nP b hb
        cases hb2 : H2 b with
        | none => exact hbH (m2.back hb2)
        | some ob =>
          have n1 : b ≠ S := fun e => nS (e ▸ hb)
          have n2 : b ≠ c := fun e => nc (e ▸ hb)
          have n4 : b ≠ sto := fun e => nPsto (e ▸ hb)
          by_cases e : b = d
          · rw [e, fr _ _ dS.1 dS.2 dsto upd_same] at z0; cases z0
          · rw [fr b ob n1 n2 n4 (by rw [upd_ne e]; exact hb2)] at z0; cases z0
      refine ⟨_, rfl, _, rfl, _, rfl, _, rfl, _, rfl, z, pool, S, c, pa, .ref d, n, PP, (p'.1, none, p'.2.1), 5, rfl, zst, rF, nS, nc, nPx, hz, outer_in hpm, by decide, by decide, hpax, paS, pac, npa, pl12, pnd, by decide, fun _ => by decide, fun H4 q rd m4 rr gr => ?_⟩
      have hsto4 := m4.fr _ _ stoS.1 stoS.2 hstox
      have backx : ∀ b, Hx b = none → H b = none := fun b hb => by
        have n4 : b ≠ sto := fun e => by rw [e, hstox] at hb; cases hb
        obtain ⟨n1, n2⟩ := zst.someS hb
        cases hb2 : H2 b with
        | none => exact m2.back hb2
        | some ob =>
          by_cases e : b = d
          · rw [e, fr _ _ dS.1 dS.2 dsto upd_same] at hb; cases hb
          · rw [fr b ob n1 n2 n4 (by rw [upd_ne e]; exact hb2)] at hb; cases hb
      have jl := (List.getElem?_eq_some_iff.mp hp').1
      have les2 : es2.length ≤ 2 := by
        have h1 := pair_len prx
        have h2 := congrArg List.length lk0
        rw [List.length_map, List.length_take, List.length_map] at h2
        omega
      have hnmj : (z.map (·.1))[j]? = some p'.1 := by rw [List.getElem?_map, hp']; rfl
      have nin : p'.1 ∉ ls.map (·.1) := by rw [lk0]; exact not_take ndz hnmj
      have nv : valV es2 (Sum.inr p'.1 : Key) = none := vV_no (by rw [pair_keys prx]; exact inr_not nin)
      have rS : ∀ b, H b = none ∧ b ≠ sto → b ≠ S ∧ b ≠ c := fun b hb => st.someS hb.1
      have tr : ∀ {y : D} {v : V}, Rep H4 7 (fun b => H b = none ∧ b ≠ sto) y v → Rep (upd H4 sto (.dK (putK es2 (Sum.inr p'.1) (.ref q)))) 7 (fun b => H b = none ∧ b ≠ sto) y v := fun h => rep_lock hsto4 (fun b z => z.2) h
      refine ⟨_, rfl, _, rfl, sto, _, rfl, .inl ⟨es2, Sum.inr p'.1, hsto4, rfl, Evl.sz_lt (by omega), rfl⟩, es2 ++ [(Sum.inr p'.1, .ref q)], ls ++ [(p'.1, rd)], _, rfl, fun b o b1 b2 b3 h => by rw [upd_ne b3]; exact m4.fr b o b1 b2 (fr b o b1 b2 b3 h), m4.z.upd stoS, by rw [upd_same, putK_new _ nv], by rw [List.map_append, lk0, take_snoc hnmj]; rfl, fun i p hi hp => ?_, pair_snoc (pair_imp prx fun a b h => ⟨h.1, tr (rep_mv m4 (fun z => (rS _ z).1 rfl) (fun z => (rS _ z).2 rfl) h.2)⟩) ⟨rfl, tr (rep_S (fun b hb => ⟨backx b hb, fun e => by rw [e, hstox] at hb; cases hb⟩) rr)⟩⟩
      by_cases c0 : i = j
      · subst c0
        rw [hp'] at hp; cases hp
        refine ⟨rd, ?_, gr⟩
        rw [lk_snoc nin]
      · obtain ⟨d', h1, h2⟩ := lg i p (by omega) hp
        exact ⟨d', lk_app h1, h2⟩
    · obtain ⟨es2, ls, o, rfl, fr, zst, hstox, lk0, lg, prx⟩ := pv
      rw [ldes, show z.length = (z.map (·.1)).length by rw [List.length_map], List.take_of_length_le (Nat.le_refl _)] at lk0
      rw [ldes] at lg
      have dx : Hx d = some (.frz od (.dK des)) := fr _ _ dS.1 dS.2 dsto upd_same
      have mF : Mv S c H (upd Hx d (.dK des)) := ⟨st, zst.upd dS, fun b o b1 b2 hb => by
        have n4 : b ≠ sto := fun e => by rw [e, stoH] at hb; cases hb
        have h2 := m2.fr b o b1 b2 hb
        by_cases e : b = d
        · rw [e, upd_same]; rw [e, hd] at h2; exact h2
        · rw [upd_ne e]; exact fr b o b1 b2 n4 (by rw [upd_ne e]; exact h2)⟩
      have hstoF : (upd Hx d (.dK des)) sto = some (.dK es2) := by rw [upd_ne dsto.symm]; exact hstox
      have htbF : (upd Hx d (.dK des)) tb = some (.dK es) := by rw [upd_ne dtb.symm]; exact fr _ _ tbS.1 tbS.2 sttb.symm (by rw [upd_ne dtb.symm]; exact htb2)
      have prF := pair_imp prx fun a b h => (⟨h.1, rep_upd (u := .dK des) dx (fun _ z => nomatch z) (fun b hb e => dH (e ▸ hb.1)) h.2⟩ : _ ∧ _)
      dsimp only
      generalize (upd Hx d (.dK des)) = HF at mF hstoF htbF prF ⊢
      intro q hq
      refine ⟨_, rfl, _, rfl, upd_same, [(Sum.inr "flags", .ref tb), (Sum.inr "lists", .ref sto)], rfl, by show 2 ≤ 15; decide, ?_⟩
      rw [merge_2 nFlLs, upd_upd]
      have eq := Ex.new (o := .dK [((Sum.inr "flags" : Key), V.ref tb), (Sum.inr "lists", .ref sto)]) hq
      have qtb : q ≠ tb := fun e => by rw [e, htbF] at hq; cases hq
      have qsto : q ≠ sto := fun e => by rw [e, hstoF] at hq; cases hq
      have qH := mF.back hq
      refine k _ q (dataG fgs ls) (mF.tx eq) ?_ ⟨fgs, ls, rfl, fk, fb, lk0, fun p hp => ?_⟩
      · refine ⟨q, [(Sum.inr "flags", .ref tb), (Sum.inr "lists", .ref sto)], rfl, qH, upd_same, by show 2 ≤ 100000; decide, .cons ⟨rfl, tb, es, rfl, ⟨htb, qtb.symm⟩, eq _ _ htbF, ?_, pair_imp pr fun a b h => ⟨h.1, by obtain ⟨bb, h1, h2⟩ := h.2; rw [h1, h2]; exact rfl⟩⟩ (.cons ⟨rfl, sto, es2, rfl, ⟨stoH, qsto.symm⟩, eq _ _ hstoF, ?_, pair_imp prF fun a b h => ⟨h.1, rep_ex eq (rep_Sd (fun b hb hd0 => ⟨⟨hb.1, fun e => hd0 (by rw [e]; exact hq)⟩, hb.2⟩) h.2)⟩⟩ .nil)⟩
        · have := congrArg List.length fk; rw [List.length_map] at this; omega
        · have := congrArg List.length lk0; rw [List.length_map, List.length_map] at this; omega
      · obtain ⟨i, hi⟩ := List.getElem?_of_mem hp
        exact lg i p (List.getElem?_eq_some_iff.mp hi).1 hi
end
end Pk

namespace Pk
open PySem PySem.Spec PyProof.Rows L2 Ssb
open Evl (Ex Ev EvT EvL EvA EvU)
/-! ### a new row -/
theorem pigeon {α : Type} [DecidableEq α] : ∀ {l m : List α}, l.Nodup → (∀ x ∈ l, x ∈ m) → l.length ≤ m.length
  | [], _, _, _ => Nat.zero_le _
  | x :: l, m, nd, h => by
    rw [List.nodup_cons] at nd
    have h1 := pigeon (m := m.erase x) nd.2 fun y hy => (List.mem_erase_of_ne (fun e => nd.1 (by rw [← e]; exact hy))).mpr (h y (List.mem_cons_of_mem _ hy))
    have h2 := List.length_erase_of_mem (h x List.mem_cons_self)
    have h3 : 0 < m.length := List.length_pos_of_mem (h x List.mem_cons_self)
    rw [List.length_cons]
    omega
theorem flat_ints (ws : List Int) : (ws.map V.int).all flatV = true := by
  rw [List.all_eq_true]; intro y hy; obtain ⟨z, _, rfl⟩ := List.mem_map.mp hy; rfl
theorem given_filter {xs : List V} {g : V → Bool} : Evl.given xs.length (fun i => g ((xs[i]?).getD .non)) (fun i => (xs[i]?).getD .non) = xs.filter g := by
  unfold Evl.given
  have h : (List.range xs.length).map (fun i => (xs[i]?).getD .non) = xs := by
    rw [map_range (g := _root_.id) rfl (fun i a ha => by rw [ha]; rfl), List.map_id]
  conv => rhs; rw [← h, List.filter_map]
  rfl
theorem el_lcM {K : PySem.W.Frag} {σ : L2.St} {H : Hp} {te tl : TE} {vs : List Nat} {j : Nat} {a : Addr} {xs zs : List V} (h : Ev tl σ H (.ref a)) (hx : SqL K H a xs) (hz : xs.length ≤ 100000) (hl : zs.length = xs.length) (hw : ∀ x, wipe ((wipe σ vs).set j (some x)) vs = wipe σ vs)
    (he : ∀ (i : Nat) (x z : V), xs[i]? = some x → zs[i]? = some z → ∀ H2, Ex H H2 → Ev te ((wipe σ vs).set j (some x)) H2 z) : EvL (tLc (iList K tl) (gName j) tYes te vs) σ H zs := by
  have := el_lcA (K := K) (te := te) (vs := vs) (j := j) (f := fun i => (zs[i]?).getD .non) h hx hz hw fun i x hi H2 e2 => ?_
  · rw [map_range (g := _root_.id) hl (fun i a ha => by rw [ha]; rfl), List.map_id] at this
    exact this
  · have hj : i < zs.length := by rw [hl]; exact (List.getElem?_eq_some_iff.mp hi).1
    rw [List.getElem?_eq_getElem hj]
    exact he i x _ hi (List.getElem?_eq_getElem hj) H2 e2
section
variable {K : PySem.W.Frag} {σ : L2.St} {H : Hp} {te tl ta : TE} {t : TT} {vs : List Nat} {j : Nat}
theorem el_lcF {a : Addr} {xs : List V} {g : V → Bool} (h : Ev tl σ H (.ref a)) (hx : SqL K H a xs) (hz : xs.length ≤ 40000) (hw : ∀ x, wipe ((wipe σ vs).set j (some x)) vs = wipe σ vs)
    (ht : ∀ x H2, Ex H H2 → x ∈ xs → EvT t ((wipe σ vs).set j (some x)) H2 (g x)) (he : ∀ x H2, Ex H H2 → x ∈ xs → Ev te ((wipe σ vs).set j (some x)) H2 x) : EvL (tLc (iList K tl) (gName j) t te vs) σ H (xs.filter g) := by
  have := Evl.el_lcL (K := K) (te := te) (t := t) (vs := vs) (j := j) (fun i => g ((xs[i]?).getD .non)) (fun i => (xs[i]?).getD .non) h hx hz hw (fun i x H1 e hi => by rw [hi]; exact ht x H1 e (List.mem_of_getElem? hi)) (fun i x H1 e hi _ => by rw [hi]; exact he x H1 e (List.mem_of_getElem? hi))
  rw [given_filter] at this
  exact this
end
section
variable {P : Program} {w : World} {K : PySem.W.Frag} {mg : Str → Option Value} {base : Heap} {C_Shape C_FORMS : Addr}
def spNew : Sp := fun vs H Q _ => ∃ (s : Sh) (pool ids : List Int) (xs : List V) (S c pa ra : Addr) (v : V) (n : Nat) (P : Addr → Prop) (r : Ro), vs = [.ref S, v, .str r.1, .ref ra, .ref pa] ∧ StAt H S c ∧ RepF H n P s v ∧ ¬ P S ∧ ¬ P c ∧ (∀ b, P b → H b ≠ none) ∧ okSh s ∧ r ∈ rowsS s ∧ H pa = some (.lst (pool.map V.int)) ∧ pa ≠ S ∧ pa ≠ c ∧ ¬ P pa ∧ pool.length = 12 ∧ pool.Nodup ∧
  H ra = some (.lst xs) ∧ Paired (fun (id : Int) x => Kid H x "id" (.int id)) ids xs ∧ ids.length ≤ 9 ∧
  ∀ (H' : Hp) (q : Addr) (row : D) (id : Int), Mv S c H H' → Rep H' 7 (fun b => H b = none) row (.ref q) → gRow s pool 1 r row id → id ∈ pool → id ∉ ids → Q (.ref q) H'
theorem ok__law_new_row (T : Txt K mg C_Shape C_FORMS) (R : Prg K mg C_Shape C_FORMS) : ∃ f fd, Fn P w K mg base "_law_new_row" 6 ["_law_state", "_law_lists", "_law_name", "_law_rows_here", "_law_pool_here"] spNew f fd := by
  obtain ⟨_, _, G__law_rows⟩ := ok__law_rows (P := P) (w := w) (base := base) T R 1
  obtain ⟨_, _, G__law_draw⟩ := ok__law_draw (P := P) (w := w) (base := base) T R
  obtain ⟨_, _, G__law_fields⟩ := ok__law_fields (P := P) (w := w) (base := base) T R
  obtain ⟨_, _, G__law_inner⟩ := ok__law_inner (P := P) (w := w) (base := base) T R
  obtain ⟨f, fd, at_, F, kp⟩ := R._law_new_row
  refine ⟨f, fd, F.ok sc__law_new_row (fun vs H Q E h => ?_) (fun cdv A outer s H vs Q E hr h => ?_), at_, kp, F.binds (fun _ _ _ _ _ _ us hl => match us, hl with | [_, _, _, _, _], _ => rfl)⟩
  · obtain ⟨s, pool, ids, xs, S, c, pa, ra, v, n, P, r, rfl, _⟩ := h; rfl
  · obtain ⟨z, pool, ids, xs, S, c, pa, ra, v, n, PP, r, rfl, st, hv, nS, nc, nP, hz, hr1, hpa, paS, pac, npa, pl12, pnd, hra, prs, i9, k⟩ := h
    have lxs := pair_len prs
    refine ⟨_, (pss_cons (ps_set (i := 5) sc__law_new_row.nd rfl (Or.inr rfl) (pe_lc (own := [("_law_row", 12)]) rfl sc__law_new_row.nd (show PI _ _ _ (iList K _) from pi_list (pv 3)) (blkOk_by (own := [("_law_row", 12)]) (N := ["_law_state", "_law_lists", "_law_name", "_law_rows_here", "_law_pool_here", "_law_used", "_law_free", "_law_chosen", "_law_fields_here", "_law_field", "_law_below", "_law_inner_here", "_law_row", "_law_number"]) (sc := defScope s__law_new_row) (by decide +kernel)) (fun _ _ _ _ _ => (pg_name (i := 12) sc__law_new_row.nd rfl (Or.inl rfl))) (fun _ _ _ _ _ => pts_nil) (fun _ _ _ _ _ => (pe_dget (hu_of hr) (pv 12) pe_str (fun _ _ => rfl)))))
  (pss_cons (ps_setLc (i := 6) (own := [("_law_number", 13)]) rfl sc__law_new_row.nd rfl rfl (sw_true rfl rfl rfl (by decide +kernel)) (show PI _ _ _ (iList K _) from pi_list (pv 4)) (blkOk_by (own := [("_law_number", 13)]) (N := ["_law_state", "_law_lists", "_law_name", "_law_rows_here", "_law_pool_here", "_law_used", "_law_free", "_law_chosen", "_law_fields_here", "_law_field", "_law_below", "_law_inner_here", "_law_row", "_law_number"]) (sc := defScope s__law_new_row) (by decide +kernel)) (fun _ _ _ _ _ => (pg_name (i := 13) sc__law_new_row.nd rfl (Or.inl rfl))) (fun _ _ _ _ _ => (pts_one (pt_cmpR (r := rIn K true) op_notIn_seq (pv 13) (pv 5) (by rfl)))) (fun _ _ _ _ _ => (pv 13)))
  (pss_cons (ps_set (i := 7) sc__law_new_row.nd rfl (Or.inl rfl) pe_dnewK)
  (pss_cons (ps_set (i := 8) sc__law_new_row.nd rfl (Or.inl rfl) (pcl G__law_fields hr (pa_cons (pv 1) (pa_cons (pv 2) pa_nil))))
  (pss_cons (ps_for PassesOwn.never rfl (show PI _ _ _ (iList K _) from pi_list (pe_callB (r := rSortDK) (call_sortedD rfl) (by rfl) T.sorted (by decide +kernel) (pa_cons (pv 8) pa_nil))) (pg_name (i := 9) sc__law_new_row.nd rfl (Or.inl rfl))
    (pss_one (ps_dput (hu_of hr) (pv 7) (pv 9) (pe_ix (r := rIxT K) ix_tup (pe_dget (hu_of hr) (pv 8) (pv 9) (fun _ _ => rfl)) (pcl G__law_draw hr (pa_cons (pv 0) (pa_cons (pe_callB (r := rLenA K) call_len (by rfl) T.len (by decide +kernel) (pa_cons (pe_dget (hu_of hr) (pv 8) (pv 9) (fun _ _ => rfl)) pa_nil)) pa_nil))) (fun _ _ => rfl)) rfl)))
  (pss_cons (ps_set (i := 10) sc__law_new_row.nd rfl (Or.inl rfl) pe_dnewK)
  (pss_cons (ps_for PassesOwn.never rfl (show PI _ _ _ (iList K _) from pi_list (pcl G__law_inner hr (pa_cons (pv 1) (pa_cons (pv 2) pa_nil)))) (pg_name (i := 11) sc__law_new_row.nd rfl (Or.inl rfl))
    (pss_one (ps_dput (hu_of hr) (pv 10) (pv 11) (pcl G__law_rows hr (pa_cons (pv 0) (pa_cons (pv 1) (pa_cons (pv 11) (pa_cons pe_int (pa_cons (pv 4) pa_nil)))))) rfl)))
  (pss_one (ps_ret (pe_disp (pps_cons pe_str (pe_ix (r := rIxL K) ix_list (pv 6) (pcl G__law_draw hr (pa_cons (pv 0) (pa_cons (pe_callB (r := rLenA K) call_len (by rfl) T.len (by decide +kernel) (pa_cons (pv 6) pa_nil)) pa_nil))) (fun _ _ => rfl)) (pps_cons pe_str (pv 7) (pps_cons pe_str (pv 10) pps_nil))) (by rfl) (by rfl) (fun z => by cases z) (by decide))))))))))), ?_⟩
    -- used
    refine Evl.q_asgL (xs := ids.map V.int) (el_lcM (Evl.ev_var rfl) (Evl.sq_of hra) (by omega) (by rw [List.length_map]; exact lxs) (fun _ => rfl) fun i x y hx hy H2 e2 => ?_) fun ua H1 hu e1 hu1 => ?_
    · rw [List.getElem?_map] at hy
      cases hi : ids[i]? with
      | none => rw [hi] at hy; cases hy
      | some id =>
        rw [hi] at hy
        cases hy
        obtain ⟨id', h1, h2⟩ := pair_back prs hx
        rw [hi] at h1
        cases h1
        exact ev_kid (Evl.ev_var rfl) Evl.ev_c (h2.ex e2)
    have uS := st.someS hu
    -- free
    have ff : (pool.map V.int).filter (fun x => !inV x (ids.map V.int)) = (pool.filter fun x => decide (x ∉ ids)).map V.int := by
      rw [List.filter_map]
      refine congrArg _ (List.filter_congr fun x _ => ?_)
      show (!inV (.int x) (ids.map V.int)) = _
      rw [inV_int]
      by_cases h : x ∈ ids <;> simp [h]
    refine Evl.q_asgL (xs := (pool.filter fun x => decide (x ∉ ids)).map V.int) ?_ fun fa H2 hf e2 hf2 => ?_
    · rw [← ff]
      refine el_lcF (Evl.ev_var rfl) (Evl.sq_of (e1 _ _ hpa)) (by rw [List.length_map]; omega) (fun _ => rfl) (fun x H3 e3 hx => ?_) fun x H3 e3 hx => Evl.ev_var rfl
      obtain ⟨i, _, rfl⟩ := List.mem_map.mp hx
      exact Evl.et_is (Evl.et_test (Evl.ev_op (Evl.ev_var rfl) (Evl.ev_var rfl) (Evl.rv_niL (Evl.sq_of (e3 _ _ hu1)) rfl (flat_ints _)))) rfl
    have e12 := e1.trans e2
    have hfH : H fa = none := Evl.fresh_back e1 hf
    have fS := st.someS hfH
    generalize hfr : (pool.filter fun x => decide (x ∉ ids)) = fr at hf2
    have frp : ∀ x ∈ fr, x ∈ pool ∧ x ∉ ids := fun x hx => by
      rw [← hfr, List.mem_filter] at hx
      exact ⟨hx.1, of_decide_eq_true hx.2⟩
    have fr1 : 1 ≤ fr.length := by
      cases hh : fr with
      | cons a l => rw [List.length_cons]; omega
      | nil =>
        exfalso
        have := pigeon pnd fun x hx => (show x ∈ ids by
          by_cases h : x ∈ ids
          · exact h
          · have : x ∈ fr := by rw [← hfr, List.mem_filter]; exact ⟨hx, decide_eq_true h⟩
            rw [hh] at this; cases this)
        omega
    have fr2 : fr.length ≤ 12 := by rw [← hfr, ← pl12]; exact List.length_filter_le _ _
    have m5 := Mv.ex st e12
    clear hf hu1 hu e1 e2 hra
    have hv5 := hv.mv m5 nS nc
    have hpa5 := m5.fr _ _ paS pac hpa
    -- chosen
    intro ch hch
    refine gname_go ?_
    have chH := m5.back hch
    have chS := st.someS chH
    have nPch : ¬ PP ch := fun h => nP ch h chH
    have m6 := Mv.new (o := .dK []) m5.z hch
    refine ⟨_, rfl, _, rfl, v, n, PP, z, r, rfl, hv5.mv m6 nS nc, hz, hr1, ⟨pa, _, m6.fr _ _ paS pac hpa5, npa⟩, fun H7 u nf e7 ru => ?_⟩
    refine gname_go ?_
    obtain ⟨fu, rfl⟩ : ∃ fu, u = .ref fu := by
      cases nf with
      | zero => exact ru.elim
      | succ nf => obtain ⟨a, _, e, _⟩ := ru; exact ⟨a, e⟩
    have okf : okFl r.2.2 := ((okSh_rows hz).2 r hr1).2
    have m57 := m6.tx e7
    refine q_seq (choose_go (a := 8) (b := 9) (cc := 7) rfl rfl rfl rfl (by decide) (by decide) (by decide) m57.z ru okf nS nc nPch (e7 _ _ upd_same) chS fun H8 fs es o mx8 hch8 prf fok => ?_)
    have m58 : Mv S c H2 H8 := m57.x hch mx8
    -- below
    intro be hbe
    refine gname_go ?_
    have hbe5 := m58.back hbe
    have beH := m5.back hbe5
    have beS := st.someS beH
    have bech : be ≠ ch := fun e => by rw [e, hch8] at hbe; cases hbe
    have nPbe : ¬ PP be := fun h => nP be h beH
    have m59 := m58.tx (Ex.new (o := .dK []) hbe)
    have nP9 : ∀ b, PP b → (upd H8 be (.dK [])) b ≠ none := fun b hb z => nP b hb (m5.back (m59.back z))
    refine q_seq (below_go (l := 1) (nm := 2) (b := 11) (be := 10) (pp := 4) (s := z) (pool := pool) (m := 1) rfl rfl rfl rfl rfl rfl (by decide) (by decide) (by decide) (by decide) m59.z (hv5.mv m59 nS nc) nS nc nPbe nP9 hz hr1 (fun h => by decide) (by decide) (by decide) (m59.fr _ _ paS pac hpa5) ⟨paS, pac⟩ npa pl12 pnd upd_same beS fun HA ls els o2 mxA hbeA prl kls gls => ?_)
    have m5A : Mv S c H2 HA := m59.x hbe5 mxA
    have hchA : HA ch = some (.dK es) := mxA.fr _ _ chS.1 chS.2 bech.symm (by rw [upd_ne bech.symm]; exact hch8)
    have hfA := m5A.fr _ _ fS.1 fS.2 hf2
    -- the row
    intro p hp
    have eP0 := Ex.new (o := .dK []) hp
    have mP0 := m5A.tx eP0
    refine ⟨_, rfl, dr_go (m := (fr.length : Int)) (Evl.ea_cons (Evl.ev_var rfl) (Evl.ea_cons (Evl.ev_is (ev_lenL (Evl.ev_var rfl) (.inl (Evl.sq_of (eP0 _ _ hfA)))) (by rw [List.length_map])) Evl.ea_nil)) mP0.z (by omega) (by omega) fun HB j mB j0 j1 => ?_⟩
    obtain ⟨jn, rfl⟩ := Int.eq_ofNat_of_zero_le j0
    have hj := List.getElem?_eq_getElem (l := fr) (i := jn) (by omega)
    have hp5 := m5A.back hp
    have pH := m5.back hp5
    have pS := st.someS pH
    have pch : p ≠ ch := fun e => by rw [e, hchA] at hp; cases hp
    have pbe : p ≠ be := fun e => by rw [e, hbeA] at hp; cases hp
    refine ⟨fa, _, (jn : Int), .int fr[jn], rfl, rfl, Evl.sq_of (mB.fr _ _ fS.1 fS.2 (eP0 _ _ hfA)), atI_nat (by rw [List.getElem?_map, hj]; rfl), ?_⟩
    refine ⟨_, rfl, _, rfl, mB.fr _ _ pS.1 pS.2 upd_same, [(Sum.inr "id", .int fr[jn]), (Sum.inr "fields", .ref ch), (Sum.inr "lists", .ref be)], rfl, by show 3 ≤ 15; decide, ?_⟩
    rw [merge3 nIF nIL nFL]
    have mAll : Mv S c H (upd HB p (.dK [(Sum.inr "id", .int fr[jn]), (Sum.inr "fields", .ref ch), (Sum.inr "lists", .ref be)])) := ((m5.trans m5A).trans ((Mv.ex m5A.z eP0).trans mB)).mut pH
    have mx := mB.fr
    refine k _ p (rowD fr[jn] fs ls) fr[jn] mAll ?_ ⟨fs, ls, rfl, fok, kls, gls⟩ (frp _ (List.getElem_mem _)).1 (frp _ (List.getElem_mem _)).2
    refine ⟨p, [(Sum.inr "id", .int fr[jn]), (Sum.inr "fields", .ref ch), (Sum.inr "lists", .ref be)], rfl, pH, upd_same, by show 3 ≤ 100000; decide, .cons ⟨rfl, rfl⟩ (.cons ⟨rfl, ch, es, rfl, ⟨chH, pch.symm⟩, by rw [upd_ne pch.symm]; exact mB.fr _ _ chS.1 chS.2 (eP0 _ _ hchA), ?_, strs_rep prf⟩ (.cons ⟨rfl, be, els, rfl, ⟨beH, pbe.symm⟩, by rw [upd_ne pbe.symm]; exact mB.fr _ _ beS.1 beS.2 (eP0 _ _ hbeA), ?_, ?_⟩ .nil))⟩
    · have := pair_len prf
      have h2 := fok.ok.1
      have := okf.1
      omega
    · have : ls.length = (kids z (some r.1)).length := by rw [← kls, List.length_map]
      have := kids_le hz hr1
      omega
    · refine pair_imp prl fun a b h => ⟨h.1, ?_⟩
      have h1 := rep_dom h.2
      have h2 := rep_ex eP0 h1
      have bk : ∀ b, (upd H8 be (.dK [])) b = none → H b = none ∧ b ≠ be := fun b hb => ⟨m5.back (m59.back hb), fun e => by rw [e, upd_same] at hb; cases hb⟩
      have h3 := rep_mv mB (fun hb => (st.someS (bk _ hb.1).1).1 rfl) (fun hb => (st.someS (bk _ hb.1).1).2 rfl) h2
      refine rep_S (fun b hb => ?_) (rep_upd (u := .dK [(Sum.inr "id", .int fr[jn]), (Sum.inr "fields", .ref ch), (Sum.inr "lists", .ref be)]) (mB.fr _ _ pS.1 pS.2 upd_same) (fun _ z => nomatch z) (fun b hb e => hb.2 (by rw [e]; exact hp)) (rep_le (m := 5) (by decide) h3))
      exact ⟨⟨(bk b hb.1).1, fun e => hb.2 (by rw [e]; exact hp)⟩, (bk b hb.1).2⟩
end
end Pk

namespace Pk
open PySem PySem.Spec PyProof.Rows L2 Ssb
open Evl (Ex Ev EvT EvL EvA EvU)
/-! ### the lists that a deed may change -/
theorem lkD2 {d1 d2 : D} : List.lookup ("lists" : Str) [(("flags" : Str), d1), (("lists" : Str), d2)] = some d2 := by rw [lk_cons, if_neg nFlLs.symm, lk_cons, if_pos rfl]
theorem lkD1 {d1 d2 : D} : List.lookup ("flags" : Str) [(("flags" : Str), d1), (("lists" : Str), d2)] = some d1 := by rw [lk_cons, if_pos rfl]
/-- w names the list r of the data d -/
def WhOk (s : Sh) (d : D) (w : List D) (r : Ro) : Prop := ∃ p ∈ s, (w = [.str p.1] ∧ r = (p.1, none, p.2.1)) ∨ ∃ q ∈ p.2.2, ∃ fgs ls rows id fs l2, r = (q.1, some p.1, q.2) ∧ w = [.str p.1, .int id, .str q.1] ∧ d = dataG fgs ls ∧ ls.lookup p.1 = some (.lst rows) ∧ rowD id fs l2 ∈ rows
def whG (s : Sh) (d : D) (H : Hp) (w : List D) (t : V) : Prop := Rep H 2 (fun _ => False) (.tup w) t ∧ ∃ r, WhOk s d w r
theorem whG.ex {s : Sh} {d : D} {H H' : Hp} (e : Ex H H') {ws : List (List D)} {ts : List V} (h : Paired (whG s d H) ws ts) : Paired (whG s d H') ws ts := pair_imp h fun _ _ h => ⟨rep_ex e h.1, h.2⟩
theorem whG.app {s : Sh} {d : D} {H : Hp} {q : Addr} {xs : List V} {o : HO} (hq : H q = some (.lst xs)) {ws : List (List D)} {ts : List V} (h : Paired (whG s d H) ws ts) : Paired (whG s d (upd H q o)) ws ts := pair_imp h fun _ _ h => ⟨rep_upd hq (fun _ z => nomatch z) (fun _ z => z.elim) h.1, h.2⟩
section
variable {P : Program} {w : World} {K : PySem.W.Frag} {mg : Str → Option Value} {base : Heap} {C_Shape C_FORMS : Addr}
def spWheres : Sp := fun vs H Q _ => ∃ (lv v : V) (n : Nat) (S : Addr → Prop) (s : Sh) (fl : List Str) (pool : List Int) (d : D), vs = [lv, v] ∧ Rep H n S d v ∧ okSh s ∧ GD s fl pool d ∧
  ∀ (H' : Hp) (q : Addr) (ws : List (List D)) (ts : List V), Ex H H' → H q = none → H' q = some (.lst ts) → Paired (whG s d H') ws ts → ts.length ≤ 20 → Q (.ref q) H'
theorem ok__law_wheres (T : Txt K mg C_Shape C_FORMS) (R : Prg K mg C_Shape C_FORMS) : ∃ f fd, Fn P w K mg base "_law_wheres" 1 ["_law_lists", "_law_data_here"] spWheres f fd := by
  obtain ⟨f, fd, at_, F, kp⟩ := R._law_wheres
  refine ⟨f, fd, F.ok sc__law_wheres (fun vs H Q E h => ?_) (fun cdv A outer s H vs Q E hr h => ?_), at_, kp, F.binds (fun _ _ _ _ _ _ us hl => match us, hl with | [_, _], _ => rfl)⟩
  · obtain ⟨lv, v, n, S, s, fl, pool, d, rfl, _⟩ := h; rfl
  · obtain ⟨lv, v, n, S, z, fl, pool, d, rfl, hv, hz, hg, k⟩ := h
    obtain ⟨fgs, ls, rfl, hfk, hfb, hlk, hlr⟩ := id hg
    refine ⟨_, (pss_cons (ps_set (i := 2) sc__law_wheres.nd rfl (Or.inl rfl) (pe_lst pa_nil))
  (pss_cons (ps_for PassesOwn.never rfl (show PI _ _ _ (iList K _) from pi_list (pe_callB (r := rSortDK) (call_sortedD rfl) (by rfl) T.sorted (by decide +kernel) (pa_cons (pe_dget (hu_of hr) (pv 1) pe_str (fun _ _ => rfl)) pa_nil))) (pg_name (i := 3) sc__law_wheres.nd rfl (Or.inl rfl))
    (pss_cons (ps_expr (show PE _ _ (tBM K _ _ _ _) from pe_bm PySem.F.plainAttrs_list PySem.F.slot_list_append PySem.F.type_list_append mt_append (pv 2) (pa_cons (pe_tup (pa_cons (pv 3) pa_nil)) pa_nil)))
  (pss_one (ps_for PassesOwn.never rfl (show PI _ _ _ (iList K _) from pi_list (pe_dget (hu_of hr) (pe_dget (hu_of hr) (pv 1) pe_str (fun _ _ => rfl)) (pv 3) (fun _ _ => rfl))) (pg_name (i := 4) sc__law_wheres.nd rfl (Or.inl rfl))
    (pss_one (ps_for PassesOwn.never rfl (show PI _ _ _ (iList K _) from pi_list (pe_callB (r := rSortDK) (call_sortedD rfl) (by rfl) T.sorted (by decide +kernel) (pa_cons (pe_dget (hu_of hr) (pv 4) pe_str (fun _ _ => rfl)) pa_nil))) (pg_name (i := 5) sc__law_wheres.nd rfl (Or.inl rfl))
    (pss_one (ps_expr (show PE _ _ (tBM K _ _ _ _) from pe_bm PySem.F.plainAttrs_list PySem.F.slot_list_append PySem.F.type_list_append mt_append (pv 2) (pa_cons (pe_tup (pa_cons (pv 3) (pa_cons (pe_dget (hu_of hr) (pv 4) pe_str (fun _ _ => rfl)) (pa_cons (pv 5) pa_nil)))) pa_nil))))))))))
  (pss_one (ps_ret (pv 2))))), ?_⟩
    obtain ⟨lw, m1, rfl, kd1, rl⟩ := rep_kidS hv lkD2
    cases m1 with
    | zero => exact rl.elim
    | succ m1 =>
    obtain ⟨la, les, rfl, _, hla, _, prl⟩ := rl
    have zl : z.length ≤ 2 := hz.1
    have ll : ls.length = z.length := by have := congrArg List.length hlk; rw [List.length_map, List.length_map] at this; exact this
    have lst : ∀ {H1 : Hp} {σ : L2.St}, Ex H H1 → σ[1]? = some (some v) → Ev (tDGet (tVar 1) (tC (.str "lists"))) σ H1 (.ref la) := fun e h => ev_kid (Evl.ev_var h) Evl.ev_c (kd1.ex e)
    refine Evl.q_asgL (xs := []) (Evl.el_lst Evl.ea_nil (Nat.zero_le _)) fun q H1 hq e1 hq1 => ?_
    refine q_seq (lst e1 rfl H1 (Ex.refl _) _ fun H2 e2 => ⟨la, les, ls.map (·.1), rfl, .inl ((e1.trans e2) _ _ hla), pair_keys prl, by rw [List.length_map]; omega, fun ys p pm _ hp => ⟨p, rfl, ⟨ys.map V.str, Evl.sq_of upd_same⟩, ?_⟩⟩)
    have ep := Ex.new (o := .lst (ys.map V.str)) hp
    have e03 := (e1.trans e2).trans ep
    have qp : p ≠ q := fun e => by rw [e, e2 _ _ hq1] at hp; cases hp
    have lys : ys.length ≤ 2 := by rw [pm.length_eq, List.length_map]; omega
    refine for_list (K := K) (a := p) (xs := ys.map V.str) (fun i σ' Hx => ∃ (ws : List (List D)) (ts : List V) (o3 o4 o5 : Option V), σ' = [some lv, some v, some (.ref q), o3, o4, o5] ∧ Ex H Hx ∧ Hx p = some (.lst (ys.map V.str)) ∧ Hx q = some (.lst ts) ∧ Paired (whG z (dataG fgs ls) Hx) ws ts ∧ ts.length ≤ 10 * i)
      ⟨[], [], _, _, _, rfl, e03, upd_same, (e2.trans ep) _ _ hq1, .nil, Nat.le_refl _⟩ (fun i σ' H' _ ⟨_, _, _, _, _, _, _, h, _⟩ => Evl.sq_of h) (fun i x σ' Hx hx pv => ?_) fun σ' Hx pv => ?_
    · obtain ⟨ws, ts, o3, o4, o5, rfl, ex, hpx, hqx, prt, lts⟩ := pv
      rw [List.getElem?_map] at hx
      cases hy : ys[i]? with
      | none => rw [hy] at hx; cases hx
      | some y =>
      rw [hy] at hx
      cases hx
      have i2 : i < 2 := by have := (List.getElem?_eq_some_iff.mp hy).1; omega
      have ym : y ∈ z.map (·.1) := by rw [← hlk]; exact pm.mem_iff.mp (List.mem_of_getElem? hy)
      obtain ⟨p', hp', rfl⟩ := List.mem_map.mp ym
      obtain ⟨d', hd', gr⟩ := hlr p' hp'
      obtain ⟨rows, ids, rfl, ind, r9, idp, prr⟩ := gr
      obtain ⟨u, hu, ru⟩ := rep_entry prl hd'
      cases m1 with
      | zero => exact ru.elim
      | succ m1 =>
      obtain ⟨ra, xs, rfl, _, hra, _, prx⟩ := ru
      have lxs := pair_len prx
      have kls : kids z (some p'.1) = p'.2.2.map (·.1) := by
        refine perm_le1 (kids_one hz hp') ?_
        rw [← (kids_one hz hp').length_eq]
        exact kids_le hz (outer_in hp')
      refine gname_go ?_
      refine ⟨_, rfl, .inl ⟨rfl, _, Evl.sq_of hqx⟩, _, rfl, (by show 1 ≤ sizeLine; decide), fun tp htp => ?_⟩
      have et := Ex.new (o := .tup [V.str p'.1]) htp
      have qtp : tp ≠ q := fun e => by rw [e, hqx] at htp; cases htp
      have ptp : tp ≠ p := fun e => by rw [e, hpx] at htp; cases htp
      refine ⟨q, ts, .ref tp, rfl, rfl, et _ _ hqx, Evl.sz_lt (by omega), ?_⟩
      have e4 : Ex H (upd (upd Hx tp (.tup [V.str p'.1])) q (.lst (ts ++ [.ref tp]))) := Ex.mut (ex.trans et) hq
      have hp4 : (upd (upd Hx tp (.tup [V.str p'.1])) q (.lst (ts ++ [.ref tp]))) p = some (.lst (ys.map V.str)) := by rw [upd_ne qp]; exact et _ _ hpx
      have hq4 : (upd (upd Hx tp (.tup [V.str p'.1])) q (.lst (ts ++ [.ref tp]))) q = some (.lst (ts ++ [.ref tp])) := upd_same
      have pr4 : Paired (whG z (dataG fgs ls) (upd (upd Hx tp (.tup [V.str p'.1])) q (.lst (ts ++ [.ref tp])))) (ws ++ [[.str p'.1]]) (ts ++ [.ref tp]) := by
        refine pair_snoc (whG.app (et _ _ hqx) (whG.ex et prt)) ⟨⟨tp, [.str p'.1], rfl, by rw [upd_ne qtp]; exact upd_same, by show 1 ≤ 100000; decide, .cons rfl .nil⟩, (p'.1, none, p'.2.1), p', hp', .inl ⟨rfl, rfl⟩⟩
      have l4 : (ts ++ [V.ref tp]).length ≤ 10 * i + 1 := by rw [List.length_append]; show ts.length + 1 ≤ _; omega
      clear prt lts hqx hpx
      generalize (upd (upd Hx tp (.tup [V.str p'.1])) q (.lst (ts ++ [.ref tp]))) = H4 at e4 hp4 hq4 pr4 ⊢
      generalize (ts ++ [V.ref tp]) = ts4 at hq4 pr4 l4
      generalize (ws ++ [[D.str p'.1]]) = ws4 at pr4
      refine ev_get (lst e4 rfl) (Evl.ev_var rfl) (.inl (e4 _ _ hla)) hu H4 (Ex.refl _) _ fun H5 e5 => ⟨ra, rfl, ⟨xs, Evl.sq_of ((e4.trans e5) _ _ hra)⟩, ?_⟩
      refine for_list (K := K) (a := ra) (xs := xs) (fun j σ' Hx => ∃ (ws : List (List D)) (ts : List V) (o4 o5 : Option V), σ' = [some lv, some v, some (.ref q), some (.str p'.1), o4, o5] ∧ Ex H Hx ∧ Hx p = some (.lst (ys.map V.str)) ∧ Hx q = some (.lst ts) ∧ Paired (whG z (dataG fgs ls) Hx) ws ts ∧ ts.length ≤ 10 * i + 1 + j)
        ⟨ws4, ts4, _, _, rfl, e4.trans e5, e5 _ _ hp4, e5 _ _ hq4, whG.ex e5 pr4, l4⟩ (fun j σ' H' _ ⟨_, _, _, _, _, e, _⟩ => Evl.sq_of (e _ _ hra)) (fun j x σ' Hx hx pv => ?_) fun σ' Hx pv => ?_
      · obtain ⟨ws, ts, o4, o5, rfl, ex, hpx, hqx, prt, lts⟩ := pv
        have j9 : j < 9 := by have := (List.getElem?_eq_some_iff.mp hx).1; omega
        obtain ⟨row, hrow, rx⟩ := pair_back prx hx
        obtain ⟨id, hid, fs, l2, rfl, fok, l2k, l2r⟩ := pair_at prr hrow
        obtain ⟨iv, _, _, kid1, ri⟩ := rep_kidS rx lkR1
        rw [int_of ri] at kid1
        obtain ⟨u2, m2, _, kid3, r2⟩ := rep_kidS rx lkR3
        cases m2 with
        | zero => exact r2.elim
        | succ m2 =>
        obtain ⟨l2a, es2, rfl, _, hl2, _, pr2⟩ := r2
        have l2l : (l2.map (·.1)).length ≤ 1 := by rw [l2k]; exact kids_le hz (outer_in hp')
        refine gname_go ?_
        refine ev_kid (Evl.ev_var rfl) Evl.ev_c (kid3.ex ex) Hx (Ex.refl _) _ fun H6 e6 => ⟨l2a, es2, l2.map (·.1), rfl, .inl ((ex.trans e6) _ _ hl2), pair_keys pr2, by omega, fun ys2 p2 pm2 _ hp2 => ⟨p2, rfl, ⟨ys2.map V.str, Evl.sq_of upd_same⟩, ?_⟩⟩
        have ep2 := Ex.new (o := .lst (ys2.map V.str)) hp2
        have qp2 : p2 ≠ q := fun e => by rw [e, e6 _ _ hqx] at hp2; cases hp2
        have ly2 : ys2.length ≤ 1 := by rw [pm2.length_eq]; exact l2l
        have e67 := e6.trans ep2
        refine for_list (K := K) (a := p2) (xs := ys2.map V.str) (fun t σ' Hx => ∃ (ws : List (List D)) (ts : List V) (o5 : Option V), σ' = [some lv, some v, some (.ref q), some (.str p'.1), some x, o5] ∧ Ex H Hx ∧ Hx p = some (.lst (ys.map V.str)) ∧ Hx q = some (.lst ts) ∧ Hx p2 = some (.lst (ys2.map V.str)) ∧ Paired (whG z (dataG fgs ls) Hx) ws ts ∧ ts.length ≤ 10 * i + 1 + j + t)
          ⟨ws, ts, _, rfl, ex.trans e67, e67 _ _ hpx, e67 _ _ hqx, upd_same, whG.ex e67 prt, lts⟩ (fun t σ' H' _ ⟨_, _, _, _, _, _, _, h, _⟩ => Evl.sq_of h) (fun t x2 σ' Hx hx2 pv => ?_) fun σ' Hx pv => ?_
        · obtain ⟨ws, ts, o5, rfl, ex, hpx, hqx, hp2x, prt, lts⟩ := pv
          rw [List.getElem?_map] at hx2
          cases hy2 : ys2[t]? with
          | none => rw [hy2] at hx2; cases hx2
          | some y2 =>
          rw [hy2] at hx2
          cases hx2
          have t1 : t < 1 := by have := (List.getElem?_eq_some_iff.mp hy2).1; omega
          have ym2 : y2 ∈ p'.2.2.map (·.1) := by rw [← kls]; rw [← l2k]; exact pm2.mem_iff.mp (List.mem_of_getElem? hy2)
          obtain ⟨q', hq', rfl⟩ := List.mem_map.mp ym2
          refine gname_go ?_
          refine ⟨_, rfl, .inl ⟨rfl, _, Evl.sq_of hqx⟩, _, rfl, ev_kid (Evl.ev_var rfl) Evl.ev_c (kid1.ex ex) Hx (Ex.refl _) _ fun H8 e8 => ⟨_, rfl, (by show 3 ≤ sizeLine; decide), fun tp htp => ?_⟩⟩
          have et := e8.trans (Ex.new (o := .tup [V.str p'.1, V.int id, V.str q'.1]) htp)
          have qtp : tp ≠ q := fun e => by rw [e, e8 _ _ hqx] at htp; cases htp
          refine ⟨q, ts, .ref tp, rfl, rfl, et _ _ hqx, Evl.sz_lt (by omega), ?_⟩
          have rt : Rep (upd (upd H8 tp (.tup [V.str p'.1, V.int id, V.str q'.1])) q (.lst (ts ++ [.ref tp]))) 2 (fun _ => False) (.tup [.str p'.1, .int id, .str q'.1]) (.ref tp) := ⟨tp, [.str p'.1, .int id, .str q'.1], rfl, by rw [upd_ne qtp]; exact upd_same, by show 3 ≤ 100000; decide, .cons rfl (.cons rfl (.cons rfl .nil))⟩
          refine ⟨ws ++ [[.str p'.1, .int id, .str q'.1]], ts ++ [.ref tp], _, rfl, Ex.mut (ex.trans et) hq, by rw [upd_ne qp]; exact et _ _ hpx, upd_same, by rw [upd_ne qp2]; exact et _ _ hp2x, pair_snoc (whG.app (et _ _ hqx) (whG.ex et prt)) ⟨rt, (q'.1, some p'.1, q'.2), p', hp', .inr ⟨q', hq', fgs, ls, rows, id, fs, l2, rfl, rfl, rfl, hd', List.mem_of_getElem? hrow⟩⟩, by rw [List.length_append]; show ts.length + 1 ≤ _; omega⟩
        · obtain ⟨ws, ts, o5, rfl, ex, hpx, hqx, hp2x, prt, lts⟩ := pv
          rw [List.length_map] at lts
          exact ⟨ws, ts, _, _, rfl, ex, hpx, hqx, prt, by omega⟩
      · obtain ⟨ws, ts, o4, o5, rfl, ex, hpx, hqx, prt, lts⟩ := pv
        exact ⟨ws, ts, _, _, _, rfl, ex, hpx, hqx, prt, by omega⟩
    · obtain ⟨ws, ts, o3, o4, o5, rfl, ex, hpx, hqx, prt, lts⟩ := pv
      rw [List.length_map] at lts
      exact Evl.s_ret (Evl.ev_var rfl) fun H9 e9 => k H9 q ws ts (ex.trans e9) hq (e9 _ _ hqx) (whG.ex e9 prt) (by omega)
end
end Pk

namespace Pk
open PySem PySem.Spec PyProof.Rows L2 Ssb
open Evl (Ex Ev EvT EvL EvA EvU)
/-! ### what drawn data are -/
theorem pair_impM {α β : Type} {F G : α → β → Prop} : ∀ {l : List α} {m : List β}, Paired F l m → (∀ a b, a ∈ l → b ∈ m → F a b → G a b) → Paired G l m
  | _, _, .nil, _ => .nil
  | _, _, .cons h t, k => .cons (k _ _ List.mem_cons_self List.mem_cons_self h) (pair_impM t fun a b ha hb h => k a b (List.mem_cons_of_mem _ ha) (List.mem_cons_of_mem _ hb) h)
theorem kids_nd {z : Sh} (hz : okSh z) (par : Option Str) : (kids z par).Nodup := by unfold kids; exact List.Sublist.nodup ((List.filter_sublist).map _) hz.2.1
theorem kid_of {z : Sh} {pool : List Int} {m : Nat} {r : Ro} {ls : List (Str × D)} (hz : okSh z) (lk : ls.map (·.1) = kids z (some r.1)) (g : ∀ r' ∈ rowsS z, r'.2.1 = some r.1 → ∃ d', ls.lookup r'.1 = some d' ∧ gRows z pool m r' d') {p : Str × D} (hp : p ∈ ls) : ∃ r' ∈ rowsS z, r'.1 = p.1 ∧ gRows z pool m r' p.2 := by
  have hk : p.1 ∈ kids z (some r.1) := by rw [← lk]; exact List.mem_map.mpr ⟨p, hp, rfl⟩
  obtain ⟨r', hr', e1, e2⟩ := kids_mem hk
  obtain ⟨d', h1, h2⟩ := g r' hr' e1
  have := lk_of_mem (by rw [lk]; exact kids_nd hz _) (show (p.1, p.2) ∈ ls from hp)
  rw [e2, this] at h1
  cases h1
  exact ⟨r', hr', e2, h2⟩
theorem row_nd {d1 d2 d3 : D} : ([(("id" : Str), d1), ("fields", d2), ("lists", d3)].map (·.1)).Nodup := by
  show [("id" : Str), "fields", "lists"].Nodup
  decide +kernel
theorem dat_nd {d1 d2 : D} : ([(("flags" : Str), d1), ("lists", d2)].map (·.1)).Nodup := by
  show [("flags" : Str), "lists"].Nodup
  decide +kernel
theorem fs_lv {f : Fl} {fs : List (Str × D)} (h : FsOk f fs) (k : Nat) : pl (k + 2) (.dic fs) ∧ dpt (k + 2) (.dic fs) := by
  refine ⟨⟨h.nd, fun p hp => ?_⟩, fun p hp => ?_⟩
  · obtain ⟨x, e⟩ := h.str p hp; rw [e]; trivial
  · obtain ⟨x, e⟩ := h.str p hp; rw [e]; trivial
theorem gRow_lv {z : Sh} {pool : List Int} (hz : okSh z) (e : Nat) (m : Nat) : ∀ {r : Ro} {row : D} {id : Int}, r ∈ rowsS z → gRow z pool m r row id → pl (3 * m + 3 + e) row ∧ dpt (3 * m + 3 + e) row := by
  induction m using Nat.strongRecOn with
  | _ m ih =>
  intro r row id hr h
  obtain ⟨fs, ls, rfl, fok, lk, g⟩ := h
  have key : ∀ p ∈ ls, pl (3 * m + 1 + e) p.2 ∧ dpt (3 * m + 1 + e) p.2 := by
    intro p hp
    obtain ⟨r', hr', _, gr⟩ := kid_of hz lk g hp
    cases m with
    | zero => exact gr.elim
    | succ m =>
      obtain ⟨rows, ids, e1, _, _, _, prr⟩ := gr
      rw [e1]
      have h : ∀ x ∈ rows, pl (3 * m + 3 + e) x ∧ dpt (3 * m + 3 + e) x := fun x hx => by
        obtain ⟨i, hi⟩ := List.getElem?_of_mem hx
        obtain ⟨id, _, h⟩ := pair_at prr hi
        exact ih m (Nat.lt_succ_self m) hr' h
      rw [show 3 * (m + 1) + 1 + e = (3 * m + 3 + e) + 1 by omega]
      exact ⟨fun x hx => (h x hx).1, fun x hx => (h x hx).2⟩
  have fl := fs_lv fok (3 * m + e)
  have lsn : (ls.map (·.1)).Nodup := by rw [lk]; exact kids_nd hz _
  rw [show 3 * m + 3 + e = (3 * m + e + 2) + 1 by omega]
  rw [show 3 * m + 1 + e = 3 * m + e + 1 by omega] at key
  refine ⟨⟨row_nd, fun p hp => ?_⟩, fun p hp => ?_⟩
  · rcases List.mem_cons.mp hp with rfl | hp
    · trivial
    rcases List.mem_cons.mp hp with rfl | hp
    · exact fl.1
    rw [List.mem_singleton.mp hp]
    exact ⟨lsn, fun p hp => (key p hp).1⟩
  · rcases List.mem_cons.mp hp with rfl | hp
    · trivial
    rcases List.mem_cons.mp hp with rfl | hp
    · exact fl.2
    rw [List.mem_singleton.mp hp]
    exact fun p hp => (key p hp).2
theorem sum_le {α : Type} {f : α → Int} {c : Int} : ∀ {l : List α}, (∀ x ∈ l, f x ≤ c) → (l.map f).sum ≤ (l.length : Int) * c
  | [], _ => by simp
  | x :: l, h => by
    have h1 := h x List.mem_cons_self
    have h2 := sum_le (l := l) fun y hy => h y (List.mem_cons_of_mem _ hy)
    rw [List.map_cons, List.sum_cons, List.length_cons, Int.natCast_succ, Int.add_mul, Int.one_mul]
    omega
def ct : Nat → Int
  | 0 => 0
  | m + 1 => 9 + 9 * ct m
theorem ct0 : ∀ m, 0 ≤ ct m
  | 0 => Int.le_refl _
  | m + 1 => by have := ct0 m; show 0 ≤ 9 + 9 * ct m; omega
theorem rows_ct {k : Nat} {c : Int} {rs : List D} (c0 : 0 ≤ c) (l9 : rs.length ≤ 9) (h : ∀ r ∈ rs, rowsN k r ≤ c) : rowsL k (.lst rs) ≤ 9 + 9 * c := by
  show (rs.length : Int) + (rs.map (rowsN k)).sum ≤ _
  have h1 := sum_le h
  have h2 : (rs.length : Int) * c ≤ 9 * c := Int.mul_le_mul_of_nonneg_right (by omega) c0
  omega
theorem gRow_ct {z : Sh} {pool : List Int} (hz : okSh z) (m : Nat) : ∀ {k : Nat} {r : Ro} {row : D} {id : Int}, m < k → r ∈ rowsS z → gRow z pool m r row id → wfR k row ∧ rowsN k row ≤ ct m := by
  induction m using Nat.strongRecOn with
  | _ m ih =>
  intro k r row id hk hr h
  obtain ⟨fs, ls, rfl, fok, lk, g⟩ := h
  obtain ⟨k, rfl⟩ : ∃ k', k = k' + 1 := ⟨k - 1, by omega⟩
  have key : ∀ p ∈ ls, (∃ rs, p.2 = .lst rs ∧ ∀ r ∈ rs, wfR k r) ∧ rowsL k p.2 ≤ ct m := by
    intro p hp
    obtain ⟨r', hr', _, gr⟩ := kid_of hz lk g hp
    cases m with
    | zero => exact gr.elim
    | succ m =>
      obtain ⟨rows, ids, e1, _, l9, _, prr⟩ := gr
      rw [e1]
      have h : ∀ x ∈ rows, wfR k x ∧ rowsN k x ≤ ct m := fun x hx => by
        obtain ⟨i, hi⟩ := List.getElem?_of_mem hx
        obtain ⟨id, _, h⟩ := pair_at prr hi
        exact ih m (Nat.lt_succ_self m) (by omega) hr' h
      exact ⟨⟨rows, rfl, fun x hx => (h x hx).1⟩, rows_ct (ct0 m) l9 fun x hx => (h x hx).2⟩
  refine ⟨⟨_, ls, rfl, lkR3, fun p hp => (key p hp).1⟩, ?_⟩
  unfold rowD
  rw [rowsN_eq lkR3]
  have h1 := sum_le fun p hp => (key p hp).2
  have h2 : ls.length ≤ 1 := by rw [← List.length_map (f := (·.1)), lk]; exact kids_le hz hr
  have h3 : (ls.length : Int) * ct m ≤ 1 * ct m := Int.mul_le_mul_of_nonneg_right (by omega) (ct0 m)
  omega
theorem gRow_ok {z : Sh} {pool : List Int} (hp : ∀ x ∈ pool, 0 ≤ x ∧ x ≤ 1000000) (m : Nat) : ∀ {r : Ro} {row : D} {id : Int}, id ∈ pool → gRow z pool m r row id → okRow z m r row id := by
  induction m using Nat.strongRecOn with
  | _ m ih =>
  intro r row id hid h
  obtain ⟨fs, ls, rfl, fok, lk, g⟩ := h
  refine ⟨_, fs, ls, rfl, rfl, lkR1, (hp id hid).1, (hp id hid).2, lkR2, fok.ok, lkR3, by rw [← lk, List.length_map], fun r' hr' e => ?_⟩
  obtain ⟨d', h1, h2⟩ := g r' hr' e
  refine ⟨d', h1, ?_⟩
  cases m with
  | zero => exact h2.elim
  | succ m =>
    obtain ⟨rows, ids, rfl, nd, l9, idp, prr⟩ := h2
    exact ⟨rows, ids, rfl, nd, by omega, pair_impM prr fun a b ha hb h => ih m (Nat.lt_succ_self m) (idp b hb) h⟩
theorem kids_none : ∀ (z : Sh), kids z none = z.map (·.1)
  | [] => rfl
  | p :: z => by
    have h := kids_none z
    have e : rowsS (p :: z) = rowsOf p ++ rowsS z := rfl
    unfold kids at h ⊢
    rw [e, List.filter_append, List.map_append, h]
    have h2 : (p.2.2.map fun q => ((q.1, some p.1, q.2) : Ro)).filter (fun r => decide (r.2.1 = none)) = [] := by
      refine List.filter_eq_nil_iff.mpr fun r hr => ?_
      obtain ⟨q, _, rfl⟩ := List.mem_map.mp hr
      simp
    show (List.filter _ ((p.1, none, p.2.1) :: _)).map _ ++ _ = _
    rw [List.filter_cons_of_pos (by simp), h2]
    rfl
theorem GD_ok {z : Sh} {fl : List Str} {pool : List Int} {d : D} (hz : okSh z) (hp : ∀ x ∈ pool, 0 ≤ x ∧ x ≤ 1000000) (fnd : fl.Nodup) (h : GD z fl pool d) : okD fl z d ∧ pl 10 d ∧ wfR 3 d ∧ rowsN 3 d ≤ 180 := by
  obtain ⟨fgs, ls, rfl, fk, fb, lk, g⟩ := h
  have lnd : (ls.map (·.1)).Nodup := by rw [lk]; exact sh_names hz
  have fnd' : (fgs.map (·.1)).Nodup := by rw [fk]; exact fnd
  have key : ∀ p ∈ ls, ∃ p' ∈ z, p'.1 = p.1 ∧ gRows z pool 2 (p'.1, none, p'.2.1) p.2 := fun p hp => by
    have hk : p.1 ∈ z.map (·.1) := by rw [← lk]; exact List.mem_map.mpr ⟨p, hp, rfl⟩
    obtain ⟨p', hp', e⟩ := List.mem_map.mp hk
    obtain ⟨d', h1, h2⟩ := g p' hp'
    rw [e, lk_of_mem lnd (show (p.1, p.2) ∈ ls from hp)] at h1
    cases h1
    exact ⟨p', hp', e, h2⟩
  have key2 : ∀ p ∈ ls, ∃ rs, p.2 = .lst rs ∧ rs.length ≤ 9 ∧ ∀ r ∈ rs, wfR 2 r ∧ rowsN 2 r ≤ ct 1 ∧ pl 7 r := fun p hp => by
    obtain ⟨p', hp', _, rows, ids, e1, _, l9, _, prr⟩ := key p hp
    refine ⟨rows, e1, l9, fun x hx => ?_⟩
    obtain ⟨i, hi⟩ := List.getElem?_of_mem hx
    obtain ⟨id, _, h⟩ := pair_at prr hi
    have h1 := gRow_ct hz 1 (k := 2) (by decide) (outer_in hp') h
    exact ⟨h1.1, h1.2, (gRow_lv hz 1 1 (outer_in hp') h).1⟩
  have wf : wfR 3 (dataG fgs ls) := ⟨_, ls, rfl, lkD2, fun p hp => let ⟨rs, e, _, h⟩ := key2 p hp; ⟨rs, e, fun r hr => (h r hr).1⟩⟩
  have cn : rowsN 3 (dataG fgs ls) ≤ 180 := by
    unfold dataG
    rw [rowsN_eq lkD2]
    have h1 := sum_le (f := fun p : Str × D => rowsL 2 p.2) (c := 90) (l := ls) fun p hp => by
      obtain ⟨rs, e, l9, h⟩ := key2 p hp
      rw [e]
      exact rows_ct (ct0 1) l9 fun r hr => (h r hr).2.1
    have h2 : ls.length ≤ 2 := by rw [← List.length_map (f := (·.1)), lk, List.length_map]; exact hz.1
    omega
  refine ⟨⟨_, fgs, ls, rfl, rfl, lkD1, by rw [← fk, List.length_map], fun x hx => ?_, lkD2, ⟨by rw [kids_none, ← lk, List.length_map], fun r' hr' e => ?_⟩, wf, by omega⟩, ⟨dat_nd, fun p hp => ?_⟩, wf, cn⟩
  · rw [← fk] at hx
    obtain ⟨p, hp, rfl⟩ := List.mem_map.mp hx
    obtain ⟨b, e⟩ := fb p hp
    exact ⟨b, by rw [← e]; exact lk_of_mem fnd' hp⟩
  · rcases row_cases hr' with ⟨p, hp', rfl⟩ | ⟨p, _, q, _, rfl⟩
    · obtain ⟨d', h1, rows, ids, rfl, nd, l9, idp, prr⟩ := g p hp'
      exact ⟨_, h1, rows, ids, rfl, nd, by omega, pair_impM prr fun a b ha hb h => gRow_ok hp 1 (idp b hb) h⟩
    · cases e
  · rcases List.mem_cons.mp hp with rfl | hp
    · exact ⟨fnd', fun p hp => by obtain ⟨b, e⟩ := fb p hp; rw [e]; trivial⟩
    rw [List.mem_singleton.mp hp]
    refine ⟨lnd, fun p hp => ?_⟩
    obtain ⟨rs, e, _, h⟩ := key2 p hp
    show pl 8 p.2
    rw [e]
    exact fun r hr => (h r hr).2.2
end Pk

namespace Pk
open PySem PySem.Spec PyProof.Rows L2 Ssb
open Evl (Ex Ev EvT EvL EvA EvU)
/-! ### what drawn deeds do -/
theorem lk_idx {α : Type} : ∀ {l : List (Str × α)} {k : Str} {x : α}, l.lookup k = some x → ∃ j : Nat, l[j]? = some (k, x)
  | (a, y) :: l, k, x, h => by
    rw [lk_cons] at h
    by_cases c : k = a
    · rw [if_pos c] at h; cases h; exact ⟨0, by rw [c]; rfl⟩
    · rw [if_neg c] at h
      obtain ⟨j, hj⟩ := lk_idx h
      exact ⟨j + 1, by simpa using hj⟩
theorem set_keys {α : Type} : ∀ {l : List (Str × α)} {j : Nat} {k : Str} {x y : α}, l[j]? = some (k, x) → (l.set j (k, y)).map (·.1) = l.map (·.1)
  | (a, z) :: l, 0, k, x, y, h => by cases h; rfl
  | (a, z) :: l, j + 1, k, x, y, h => by
    rw [List.set_cons_succ, List.map_cons, List.map_cons, set_keys (l := l) (j := j) (k := k) (x := x) (y := y) (by simpa using h)]
theorem set_lk {α : Type} {l : List (Str × α)} {j : Nat} {k : Str} {x y : α} (nd : (l.map (·.1)).Nodup) (h : l[j]? = some (k, x)) : (l.set j (k, y)).lookup k = some y := by
  refine lk_of_mem (by rw [set_keys h]; exact nd) ?_
  exact List.mem_of_getElem? (i := j) (by rw [List.getElem?_set, if_pos rfl, if_pos (List.getElem?_eq_some_iff.mp h).1])
theorem set_lk2 {α : Type} : ∀ {l : List (Str × α)} {j : Nat} {k q : Str} {x y : α}, l[j]? = some (k, x) → q ≠ k → (l.set j (k, y)).lookup q = l.lookup q
  | (a, z) :: l, 0, k, q, x, y, h, ne => by
    cases h
    rw [List.set_cons_zero, lk_cons, lk_cons, if_neg ne, if_neg ne]
  | (a, z) :: l, j + 1, k, q, x, y, h, ne => by
    rw [List.set_cons_succ, lk_cons, lk_cons, set_lk2 (l := l) (j := j) (k := k) (x := x) (y := y) (by simpa using h) ne]
theorem pair_set {α β : Type} {F : α → β → Prop} : ∀ {l : List α} {m : List β} {k : Nat} {a : α} {b : β}, Paired F l m → m[k]? = some b → F a b → Paired F (l.set k a) m
  | _, _, _, _, _, .nil, h, _ => by simp at h
  | _, _, 0, a, b, .cons _ t, h, g => by cases h; exact .cons g t
  | _, _, k + 1, a, b, .cons h0 t, h, g => .cons h0 (pair_set t (by simpa using h) g)
theorem pair_zip {α β : Type} {F : α → β → Prop} : ∀ {l : List α} {m : List β}, Paired F l m → ∃ zs : List (α × β), zs.map (·.1) = l ∧ zs.map (·.2) = m ∧ ∀ z ∈ zs, F z.1 z.2
  | _, _, .nil => ⟨[], rfl, rfl, fun _ h => nomatch h⟩
  | a :: _, b :: _, .cons h t => by
    obtain ⟨zs, h1, h2, h3⟩ := pair_zip t
    refine ⟨(a, b) :: zs, by rw [List.map_cons, h1], by rw [List.map_cons, h2], fun z hz => ?_⟩
    rcases List.mem_cons.mp hz with rfl | hz
    · exact h
    · exact h3 z hz
theorem zip_pair {α β : Type} {F : α → β → Prop} : ∀ {zs : List (α × β)}, (∀ z ∈ zs, F z.1 z.2) → Paired F (zs.map (·.1)) (zs.map (·.2))
  | [], _ => .nil
  | z :: zs, h => .cons (h z List.mem_cons_self) (zip_pair fun y hy => h y (List.mem_cons_of_mem _ hy))
theorem pair_flip {α β : Type} {F : α → β → Prop} : ∀ {l : List α} {m : List β}, Paired F l m → Paired (fun b a => F a b) m l
  | _, _, .nil => .nil
  | _, _, .cons h t => .cons h (pair_flip t)
theorem op_pair {α β : Type} {F : α → β → Prop} {o : Op} {x : α} {i : β} {l : List α} {m : List β} (h : Paired F l m) (hn : o.new = true → F x i) : Paired F (o.run x l) (o.run i m) := by
  obtain ⟨zs, rfl, rfl, hz⟩ := pair_zip h
  have e1 := run_map (fun z : α × β => z.1) o (x, i) zs
  have e2 := run_map (fun z : α × β => z.2) o (x, i) zs
  rw [← e1, ← e2]
  refine zip_pair fun z hz' => ?_
  cases c : o.new with
  | true =>
    rcases List.mem_cons.mp ((run_new c).mem_iff.mp hz') with rfl | h2
    · exact hn c
    · exact hz z h2
  | false =>
    obtain ⟨l', p, s⟩ := run_old (x := (x, i)) (l := zs) c
    exact hz z (s.subset (p.mem_iff.mp hz'))
theorem op_nd {α : Type} {o : Op} {x : α} {l : List α} (h : l.Nodup) (hn : o.new = true → x ∉ l) : (o.run x l).Nodup := by
  cases c : o.new with
  | true => exact (run_new c).nodup_iff.mpr (List.nodup_cons.mpr ⟨hn c, h⟩)
  | false =>
    obtain ⟨l', p, s⟩ := run_old (x := x) (l := l) c
    exact p.nodup_iff.mpr (s.nodup h)
theorem op_mem {α : Type} {o : Op} {x : α} {l : List α} {Q : α → Prop} (h : ∀ y ∈ l, Q y) (hn : o.new = true → Q x) : ∀ y ∈ o.run x l, Q y := fun y hy => by
  cases c : o.new with
  | true =>
    rcases List.mem_cons.mp ((run_new c).mem_iff.mp hy) with rfl | h2
    · exact hn c
    · exact h y h2
  | false =>
    obtain ⟨l', p, s⟩ := run_old (x := x) (l := l) c
    exact h y (s.subset (p.mem_iff.mp hy))
theorem op_len {α : Type} {o : Op} {x : α} {l : List α} (h : l.length ≤ 9) (hn : o.new = true → l.length < 9) : (o.run x l).length ≤ 9 := by
  cases c : o.new with
  | true => have h1 := run_len (o := o) (x := x) (l := l); have h2 := hn c; omega
  | false =>
    obtain ⟨l', p, s⟩ := run_old (x := x) (l := l) c
    rw [p.length_eq]; exact Nat.le_trans s.length_le h
/-- a list of the data, and what may be put there -/
structure Plc (z : Sh) (fl : List Str) (pool : List Int) (d : D) (w : List D) (r : Ro) (C : D → D) (rows : List D) (ids : List Int) (m : Nat) : Prop where
  wh : Where d w C rows
  kd : KdW z w r.1
  hr : r ∈ rowsS z
  nd : ids.Nodup
  l9 : rows.length ≤ 9
  ip : ∀ i ∈ ids, i ∈ pool
  pr : Paired (gRow z pool m r) rows ids
  lv : lvW w = 3 * m + 3 + 1
  dn : ∀ row id, gRow z pool 1 r row id → gRow z pool m r row id
  up : ∀ row id, gRow z pool m r row id → gRow z pool 1 r row id
  gd : ∀ rows' ids', Paired (gRow z pool m r) rows' ids' → ids'.Nodup → rows'.length ≤ 9 → (∀ i ∈ ids', i ∈ pool) → GD z fl pool (C (.lst rows'))
theorem where_of {z : Sh} {fl : List Str} {pool : List Int} {d : D} {w : List D} {r : Ro} (hz : okSh z) (hp : ∀ x ∈ pool, 0 ≤ x ∧ x ≤ 1000000) (hg : GD z fl pool d) (hw : WhOk z d w r) : ∃ C rows ids m, Plc z fl pool d w r C rows ids m := by
  obtain ⟨p, hpz, h⟩ := hw
  obtain ⟨fgs, ls, rfl, fk, fb, lk, g⟩ := hg
  have lnd : (ls.map (·.1)).Nodup := by rw [lk]; exact sh_names hz
  obtain ⟨d', hd', rows, ids, rfl, nd, l9, idp, prr⟩ := g p hpz
  obtain ⟨j, hj⟩ := lk_idx hd'
  have gset : ∀ rows' ids', Paired (gRow z pool 1 (p.1, none, p.2.1)) rows' ids' → ids'.Nodup → rows'.length ≤ 9 → (∀ i ∈ ids', i ∈ pool) → GD z fl pool (dataG fgs (ls.set j (p.1, .lst rows'))) := fun rows' ids' h1 h2 h3 h4 => by
    refine ⟨fgs, _, rfl, fk, fb, by rw [set_keys hj]; exact lk, fun p' hp' => ?_⟩
    by_cases c : p'.1 = p.1
    · have := nd_sub (sh_names hz) hp' hpz c
      subst this
      exact ⟨_, set_lk lnd hj, rows', ids', rfl, h2, h3, h4, h1⟩
    · rw [set_lk2 hj c]
      exact g p' hp'
  rcases h with ⟨rfl, rfl⟩ | ⟨q, hq, fgs', ls', rows0, id, fs, l2, rfl, rfl, e, hl, hrow⟩
  · refine ⟨_, rows, ids, 1, .inl ⟨p.1, _, 1, ls, j, rfl, rfl, dat_nd, rfl, lnd, hj, rfl⟩, .inl ⟨rfl, ?_⟩, outer_in hpz, nd, l9, idp, prr, rfl, fun _ _ h => h, fun _ _ h => h, gset⟩
    rw [kids_none]
    exact List.mem_map.mpr ⟨p, hpz, rfl⟩
  · have e2 : ls = ls' := by
      unfold dataG at e
      injection e with e
      injection e with _ e
      injection e with e _
      injection e with _ e
      injection e
    subst e2
    rw [hd'] at hl
    cases hl
    obtain ⟨k, hk⟩ := List.getElem?_of_mem hrow
    obtain ⟨id', hid', fs', l2', er, fok, lk2, g2⟩ := pair_at prr hk
    have e3 : id = id' ∧ fs = fs' ∧ l2 = l2' := by
      unfold rowD at er
      injection er with er
      injection er with a1 er
      injection er with a2 er
      injection er with a3 _
      injection a1 with _ a1
      injection a2 with _ a2
      injection a3 with _ a3
      injection a1 with a1
      injection a2 with a2
      injection a3 with a3
      exact ⟨a1, a2, a3⟩
    obtain ⟨rfl, rfl, rfl⟩ := e3
    have l2nd : (l2.map (·.1)).Nodup := by rw [lk2]; exact kids_nd hz _
    obtain ⟨d2, hd2, rows2, ids2, rfl, nd2, l92, idp2, prr2⟩ := g2 _ (inner_in hpz hq) rfl
    obtain ⟨j2, hj2⟩ := lk_idx hd2
    have idk := idp id (List.mem_of_getElem? hid')
    refine ⟨_, rows2, ids2, 0, .inr ⟨p.1, q.1, id, _, 1, ls, j, rows, k, _, 2, l2, j2, rfl, rfl, dat_nd, rfl, lnd, hj, by omega, hk, fun k' r' hr' => ?_, row_nd, rfl, l2nd, hj2, rfl⟩, .inr ⟨p.1, id, rfl, ?_, ?_, (hp id idk).1, (hp id idk).2⟩, inner_in hpz hq, nd2, l92, idp2, prr2, rfl, fun row i hh => ?_, fun row i hh => ?_, fun rows' ids' h1 h2 h3 h4 => ?_⟩
    · obtain ⟨id2, hid2, fs2, l3, rfl, _⟩ := pair_at prr hr'
      refine ⟨_, id2, rfl, lkR1, fun e => ?_, fun e => ?_⟩
      · rw [e] at hid2
        have h1 := (List.getElem?_eq_some_iff.mp hid2)
        have h2 := (List.getElem?_eq_some_iff.mp hid')
        exact (List.getElem_inj nd).mp (h1.2.trans h2.2.symm)
      · rw [e, hid'] at hid2
        exact (Option.some.inj hid2).symm
    · rw [kids_none]
      exact List.mem_map.mpr ⟨p, hpz, rfl⟩
    · exact List.mem_map.mpr ⟨_, List.mem_filter.mpr ⟨inner_in hpz hq, decide_eq_true rfl⟩, rfl⟩
    · obtain ⟨fs2, ls2, e, fok2, lk3, g3⟩ := hh
      refine ⟨fs2, ls2, e, fok2, lk3, fun r' hr' e => ?_⟩
      have : r'.1 ∈ kids z (some q.1) := List.mem_map.mpr ⟨r', List.mem_filter.mpr ⟨hr', decide_eq_true e⟩, rfl⟩
      rw [kids_inner hz hpz hq] at this
      cases this
    · obtain ⟨fs2, ls2, e, fok2, lk3, g3⟩ := hh
      refine ⟨fs2, ls2, e, fok2, lk3, fun r' hr' e => ?_⟩
      have : r'.1 ∈ kids z (some q.1) := List.mem_map.mpr ⟨r', List.mem_filter.mpr ⟨hr', decide_eq_true e⟩, rfl⟩
      rw [kids_inner hz hpz hq] at this
      cases this
    · refine gset (rows.set k (rowD id fs (l2.set j2 (q.1, .lst rows')))) ids (pair_set prr hid' ⟨fs, _, rfl, fok, by rw [set_keys hj2]; exact lk2, fun r' hr' e => ?_⟩) nd (by rw [List.length_set]; exact l9) idp
      by_cases c : r'.1 = q.1
      · have := rows_uniq hz.2.1 hr' (inner_in hpz hq) c
        subst this
        exact ⟨_, set_lk l2nd hj2, rows', ids', rfl, h2, h3, h4, h1⟩
      · rw [set_lk2 hj2 c]
        exact g2 r' hr' e

/-! ### the deed that undoes a deed -/
theorem set_self {α : Type} : ∀ {l : List α} {i : Nat} {x : α}, l[i]? = some x → l.set i x = l
  | [], _, _, h => by simp at h
  | a :: l, 0, x, h => by cases h; rfl
  | a :: l, i + 1, x, h => by rw [List.set_cons_succ, set_self (l := l) (i := i) (by simpa using h)]
theorem set_get {α : Type} {l : List α} {i : Nat} {x y : α} (h : l[i]? = some x) : (l.set i y)[i]? = some y := by
  rw [List.getElem?_set, if_pos rfl, if_pos (List.getElem?_eq_some_iff.mp h).1]
def Op.inv : Op → Op
  | .app => .cut
  | .ins i => .rem i
  | .cut => .app
  | .rem i => .ins i
  | .mov i j => .mov j i
theorem ins_erase {α : Type} : ∀ {l : List α} {i : Nat} {x : α}, i ≤ l.length → (l.take i ++ [x] ++ l.drop i).eraseIdx i = l
  | l, 0, x, _ => by simp
  | [], i + 1, x, h => by simp at h
  | a :: l, i + 1, x, h => by
    rw [List.take_succ_cons, List.drop_succ_cons, List.cons_append, List.cons_append, List.eraseIdx_cons_succ, ins_erase (by simpa using h)]
theorem erase_ins {α : Type} : ∀ {l : List α} {i : Nat} {x : α}, l[i]? = some x → (l.eraseIdx i).take i ++ [x] ++ (l.eraseIdx i).drop i = l
  | [], _, _, h => by simp at h
  | a :: l, 0, x, h => by cases h; simp
  | a :: l, i + 1, x, h => by
    rw [List.eraseIdx_cons_succ, List.take_succ_cons, List.drop_succ_cons, List.cons_append, List.cons_append, erase_ins (by simpa using h)]
theorem ins_get {α : Type} : ∀ {l : List α} {i : Nat} {x : α}, i ≤ l.length → (l.take i ++ [x] ++ l.drop i)[i]? = some x
  | l, 0, x, _ => by simp
  | [], i + 1, x, h => by simp at h
  | a :: l, i + 1, x, h => by
    rw [List.take_succ_cons, List.drop_succ_cons, List.cons_append, List.cons_append, List.getElem?_cons_succ, ins_get (by simpa using h)]
theorem cut_app {α : Type} {l : List α} {x : α} (h : l[l.length - 1]? = some x) : l.dropLast ++ [x] = l := by
  rcases List.eq_nil_or_concat l with rfl | ⟨l', y, rfl⟩
  · simp at h
  · rw [List.concat_eq_append] at *
    rw [List.dropLast_concat]
    simp at h
    rw [h]
theorem er_len {α : Type} {l : List α} {i : Nat} (h : i < l.length) : (l.eraseIdx i).length = l.length - 1 := by
  rw [List.length_eraseIdx, if_pos h]
theorem inv_run {α : Type} {o : Op} {x x' : α} {l : List α} (ho : o.ok l.length) (h1 : o = .cut → l[l.length - 1]? = some x') (h2 : ∀ i, o = .rem i → l[i]? = some x') : o.inv.run x' (o.run x l) = l := by
  cases o with
  | app => exact List.dropLast_concat
  | ins i => exact ins_erase ho
  | cut => exact cut_app (h1 rfl)
  | rem i => exact erase_ins (h2 i rfl)
  | mov i j =>
    have hi := List.getElem?_eq_getElem ho.1
    have lj : j ≤ (l.eraseIdx i).length := by rw [er_len ho.1]; have := ho.2; omega
    show Op.run (.mov j i) x' (match l[i]? with | some y => (l.eraseIdx i).take j ++ [y] ++ (l.eraseIdx i).drop j | none => l) = l
    rw [hi]
    show (match ((l.eraseIdx i).take j ++ [l[i]'ho.1] ++ (l.eraseIdx i).drop j)[j]? with | some y => _ | none => _) = l
    rw [ins_get lj]
    show (((l.eraseIdx i).take j ++ [l[i]'ho.1] ++ (l.eraseIdx i).drop j).eraseIdx j).take i ++ [l[i]'ho.1] ++ (((l.eraseIdx i).take j ++ [l[i]'ho.1] ++ (l.eraseIdx i).drop j).eraseIdx j).drop i = l
    rw [ins_erase lj]
    exact erase_ins hi
theorem run_lenE {α : Type} {o : Op} {x : α} {l : List α} (ho : o.ok l.length) : (o.run x l).length = match o with | .app => l.length + 1 | .ins _ => l.length + 1 | .cut => l.length - 1 | .rem _ => l.length - 1 | .mov _ _ => l.length := by
  cases o with
  | app => exact List.length_append
  | ins i =>
    have ho : i ≤ l.length := ho
    show (l.take i ++ [x] ++ l.drop i).length = _
    simp only [List.length_append, List.length_take, List.length_drop, List.length_singleton]; omega
  | cut => exact List.length_dropLast
  | rem i => exact er_len ho
  | mov i j =>
    have hi := List.getElem?_eq_getElem ho.1
    show (match l[i]? with | some y => (l.eraseIdx i).take j ++ [y] ++ (l.eraseIdx i).drop j | none => l).length = l.length
    rw [hi]
    show ((l.eraseIdx i).take j ++ [_] ++ (l.eraseIdx i).drop j).length = _
    have e := er_len ho.1
    have h1 := ho.1
    have h2 := ho.2
    simp only [List.length_append, List.length_take, List.length_drop, List.length_singleton]; omega
theorem inv_ok {α : Type} {o : Op} {x : α} {l : List α} (ho : o.ok l.length) : o.inv.ok (o.run x l).length := by
  have e := run_lenE (x := x) ho
  cases o with
  | app => rw [e]; exact Nat.succ_pos _
  | ins i => rw [e]; exact Nat.lt_succ_of_le ho
  | cut => trivial
  | rem i =>
    have ho : i < l.length := ho
    rw [e]; show i ≤ l.length - 1; omega
  | mov i j => rw [e]; exact ⟨ho.2, ho.1⟩
/-! ### the number of rows when a list changes -/
theorem rowsN_lk {m : Nat} {a b : List (Str × D)} (h : a.lookup ("lists" : Str) = b.lookup ("lists" : Str)) : rowsN (m + 1) (.dic a) = rowsN (m + 1) (.dic b) := by
  show (match a.lookup ("lists" : Str) with | some (.dic ls) => _ | _ => (0 : Int)) = (match b.lookup ("lists" : Str) with | some (.dic ls) => _ | _ => (0 : Int))
  rw [h]
theorem sum_set {α : Type} (f : α → Int) : ∀ {l : List α} {i : Nat} {x y : α}, l[i]? = some x → ((l.set i y).map f).sum = (l.map f).sum + f y - f x
  | [], _, _, _, h => by simp at h
  | a :: l, 0, x, y, h => by cases h; simp only [List.set_cons_zero, List.map_cons, List.sum_cons]; omega
  | a :: l, i + 1, x, y, h => by
    have := sum_set f (l := l) (i := i) (x := x) (y := y) (by simpa using h)
    simp only [List.set_cons_succ, List.map_cons, List.sum_cons]; omega
theorem sum_nn {α : Type} {f : α → Int} : ∀ {l : List α}, (∀ x ∈ l, 0 ≤ f x) → 0 ≤ (l.map f).sum
  | [], _ => by simp
  | a :: l, h => by
    have h1 := h a List.mem_cons_self
    have h2 := sum_nn (l := l) fun y hy => h y (List.mem_cons_of_mem _ hy)
    rw [List.map_cons, List.sum_cons]; omega
theorem rows_nn : ∀ (m : Nat) (d : D), 0 ≤ rowsN m d
  | 0, _ => Int.le_refl _
  | m + 1, d => by
    cases d with
    | dic l =>
      show 0 ≤ (match l.lookup ("lists" : Str) with | some (.dic ls) => _ | _ => (0 : Int))
      split
      · refine sum_nn fun p _ => ?_
        split
        · rename_i rs _
          exact Int.add_nonneg (Int.natCast_nonneg _) (sum_nn fun r _ => rows_nn m r)
        · exact Int.le_refl _
      · exact Int.le_refl _
    | _ => exact Int.le_refl _
theorem sum_perm {l m : List Int} (h : l.Perm m) : l.sum = m.sum := by
  induction h with
  | nil => rfl
  | cons x _ ih => rw [List.sum_cons, List.sum_cons, ih]
  | swap x y l => simp only [List.sum_cons]; omega
  | trans _ _ h1 h2 => rw [h1, h2]
theorem rowsL_perm {m : Nat} {a b : List D} (h : a.Perm b) : rowsL m (.lst a) = rowsL m (.lst b) := by
  show (a.length : Int) + (a.map (rowsN m)).sum = (b.length : Int) + (b.map (rowsN m)).sum
  rw [h.length_eq, sum_perm (h.map _)]
theorem rowsL_cons {m : Nat} {x : D} {a : List D} : rowsL m (.lst (x :: a)) = 1 + rowsN m x + rowsL m (.lst a) := by
  show ((x :: a).length : Int) + ((x :: a).map (rowsN m)).sum = 1 + rowsN m x + ((a.length : Int) + (a.map (rowsN m)).sum)
  rw [List.length_cons, List.map_cons, List.sum_cons]; omega
theorem rowsL_set {m : Nat} {l : List D} {i : Nat} {x y : D} (h : l[i]? = some x) : rowsL m (.lst (l.set i y)) = rowsL m (.lst l) + rowsN m y - rowsN m x := by
  show ((l.set i y).length : Int) + ((l.set i y).map (rowsN m)).sum = (l.length : Int) + (l.map (rowsN m)).sum + rowsN m y - rowsN m x
  rw [List.length_set, sum_set _ h]; omega
theorem rowsN_put {m : Nat} {L ls : List (Str × D)} {i j : Nat} {nm : Str} {x y : D} (nL : (L.map (·.1)).Nodup) (hi : L[i]? = some (("lists" : Str), D.dic ls)) (hj : ls[j]? = some (nm, x)) : rowsN (m + 1) (.dic (L.set i ("lists", .dic (ls.set j (nm, y))))) = rowsN (m + 1) (.dic L) + rowsL m y - rowsL m x := by
  rw [rowsN_eq (set_lk nL hi), rowsN_eq (lk_of_mem nL (List.mem_of_getElem? hi)), sum_set _ hj]
theorem where_rows {d : D} {w : List D} {C : D → D} {l : List D} (h : Where d w C l) : ∃ k, ∀ l', rowsN 3 (C (.lst l')) = rowsN 3 d + rowsL (k + 1) (.lst l') - rowsL (k + 1) (.lst l) := by
  rcases h with ⟨nm, L, i, ls, j, rfl, rfl, nL, hi, nls, hj, rfl⟩ | ⟨n1, nm, m, L, i, ls, j, rs, k, R, p, ls2, q, rfl, rfl, nL, hi, nls, hj, l400, hk, hids, nR, hp, nls2, hq, rfl⟩
  · exact ⟨1, fun l' => rowsN_put (m := 2) nL hi hj⟩
  · refine ⟨0, fun l' => ?_⟩
    refine (rowsN_put (m := 2) nL hi hj).trans ?_
    rw [rowsL_set hk]
    have e : rowsN 2 (.dic (R.set p ("lists", .dic (ls2.set q (nm, .lst l'))))) = rowsN 2 (.dic R) + rowsL 1 (.lst l') - rowsL 1 (.lst l) := rowsN_put (m := 1) nR hp hq
    show rowsN 3 (.dic L) + (rowsL 2 (.lst rs) + rowsN 2 (.dic (R.set p ("lists", .dic (ls2.set q (nm, .lst l'))))) - rowsN 2 (.dic R)) - rowsL 2 (.lst rs) = rowsN 3 (.dic L) + rowsL 1 (.lst l') - rowsL 1 (.lst l)
    omega
theorem where_self {d : D} {w : List D} {C : D → D} {l : List D} (h : Where d w C l) : C (.lst l) = d := by
  rcases h with ⟨nm, L, i, ls, j, rfl, rfl, nL, hi, nls, hj, rfl⟩ | ⟨n1, nm, m, L, i, ls, j, rs, k, R, p, ls2, q, rfl, rfl, nL, hi, nls, hj, l400, hk, hids, nR, hp, nls2, hq, rfl⟩
  · dsimp only
    rw [set_self hj, set_self hi]
  · dsimp only
    rw [set_self hq, set_self hp, set_self hk, set_self hj, set_self hi]
theorem where_put {d : D} {w : List D} {C : D → D} {l : List D} (h : Where d w C l) (l' : List D) : Where (C (.lst l')) w C l' := by
  rcases h with ⟨nm, L, i, ls, j, rfl, rfl, nL, hi, nls, hj, rfl⟩ | ⟨n1, nm, m, L, i, ls, j, rs, k, R, p, ls2, q, rfl, rfl, nL, hi, nls, hj, l400, hk, hids, nR, hp, nls2, hq, rfl⟩
  · exact .inl ⟨nm, _, i, _, j, rfl, rfl, by rw [set_keys hi]; exact nL, set_get hi, by rw [set_keys hj]; exact nls, set_get hj, funext fun y => by rw [List.set_set, List.set_set]⟩
  · refine .inr ⟨n1, nm, m, _, i, _, j, _, k, _, p, _, q, rfl, rfl, by rw [set_keys hi]; exact nL, set_get hi, by rw [set_keys hj]; exact nls, set_get hj, by rw [List.length_set]; exact l400, set_get hk, fun k' r hr => ?_, by rw [set_keys hp]; exact nR, set_get hp, by rw [set_keys hq]; exact nls2, set_get hq, funext fun y => by rw [List.set_set, List.set_set, List.set_set, List.set_set, List.set_set]⟩
    rw [List.getElem?_set] at hr
    by_cases e : k = k'
    · subst e
      rw [if_pos rfl, if_pos (List.getElem?_eq_some_iff.mp hk).1] at hr
      obtain ⟨R', z, e1, h1, h2⟩ := hids k _ hk
      cases e1
      cases hr
      exact ⟨_, z, rfl, by rw [set_lk2 hp (by decide)]; exact h1, h2⟩
    · rw [if_neg e] at hr
      exact hids k' r hr
theorem plc_put {z : Sh} {fl : List Str} {pool : List Int} {d : D} {w : List D} {r : Ro} {C : D → D} {rows : List D} {ids : List Int} {m : Nat} (h : Plc z fl pool d w r C rows ids m) {rows' : List D} {ids' : List Int} (h1 : Paired (gRow z pool m r) rows' ids') (h2 : ids'.Nodup) (h3 : rows'.length ≤ 9) (h4 : ∀ i ∈ ids', i ∈ pool) : Plc z fl pool (C (.lst rows')) w r C rows' ids' m :=
  ⟨where_put h.wh rows', h.kd, h.hr, h2, h3, h4, h1, h.lv, h.dn, h.up, h.gd⟩
/-- the deed be undoes the deed dd, which is done on d -/
inductive Back (d : D) : D → D → Prop
  | flag {x : Str} : Back d (.tup [.str "flag", .str x]) (.tup [.str "flag", .str x])
  | list {w : List D} {C : D → D} {l : List D} {x x' : D} (o : Op) : Where d w C l → o.ok l.length → l.length ≤ 400 → (o = .cut → l[l.length - 1]? = some x') → (∀ i, o = .rem i → l[i]? = some x') → Back d (deedD w x o) (deedD w x' o.inv)
  | field {w : List D} {C : D → D} {l : List D} {i : Nat} {R fs : List (Str × D)} {f x : Str} {old : D} : Where d w C l → l.length ≤ 400 → l[i]? = some (.dic R) → R.lookup ("fields" : Str) = some (.dic fs) → fs.lookup f = some old → Back d (.tup [.str "field", .tup w, .int i, .str f, .str x]) (.tup [.str "field", .tup w, .int i, .str f, old])
/-- by how many rows a deed may change the data -/
def Gr (dd : D) (g : Int) : Prop := ∃ (s0 : Str) (rest : List D), dd = .tup (.str s0 :: rest) ∧ (inV (.str s0) [.str "append", .str "insert"] = true → 1 ≤ g) ∧ (inV (.str s0) [.str "cut", .str "remove"] = true → g ≤ -1) ∧ (inV (.str s0) [.str "move", .str "field", .str "flag"] = true → g = 0)
/-- a deed that is drawn: it can be done, and undone, and the data stay such data -/
def Deed (z : Sh) (fl : List Str) (pool : List Int) (d dd : D) : Prop := ∃ d' be, Fits z fl d dd ∧ Does d dd d' ∧ GD z fl pool d' ∧ Back d dd be ∧ Fits z fl d' be ∧ Does d' be d ∧ Gr dd (rowsN 3 d' - rowsN 3 d)
theorem deed_op0 {z : Sh} {fl : List Str} {pool : List Int} {d : D} {w : List D} {r : Ro} {C : D → D} {rows : List D} {ids : List Int} {m : Nat} (hz : okSh z) (hp : ∀ x ∈ pool, 0 ≤ x ∧ x ≤ 1000000) (fnd : fl.Nodup) (hg : GD z fl pool d) (h : Plc z fl pool d w r C rows ids m) {o : Op} {x : D} {id : Int} (hok : o.ok rows.length)
    (hn : o.new = true → rows.length < 9 ∧ gRow z pool 1 r x id ∧ id ∈ pool ∧ id ∉ ids) : Fits z fl d (deedD w x o) ∧ Does d (deedD w x o) (C (.lst (o.run x rows))) ∧ GD z fl pool (C (.lst (o.run x rows))) ∧ Plc z fl pool (C (.lst (o.run x rows))) w r C (o.run x rows) (o.run id ids) m := by
  have cn := (GD_ok hz hp fnd hg).2.2.2
  have p1 := op_pair h.pr fun c => h.dn _ _ (hn c).2.1
  have p2 := op_nd h.nd fun c => (hn c).2.2.2
  have p3 := op_len (x := x) h.l9 fun c => (hn c).1
  have p4 := op_mem h.ip fun c => (hn c).2.2.1
  refine ⟨.list (r := r) (id := id) (ids := ids) o h.wh h.kd hok (by have := h.l9; omega) fun c => ?_, .list o h.wh hok (by have := h.l9; omega) fun c => ?_, h.gd _ (o.run id ids) p1 p2 p3 p4, plc_put h p1 p2 p3 p4⟩
  · have hh := hn c
    have h1 := gRow_ct hz 1 (k := 3) (by decide) h.hr hh.2.1
    refine ⟨h.hr, gRow_ok hp 1 hh.2.2.1 hh.2.1, h1.1, pair_flip (pair_imp h.pr fun row i hh => ?_), h.nd, hh.2.2.2, ?_⟩
    · obtain ⟨fs, ls, rfl, _⟩ := hh
      exact ⟨_, rfl, lkR1⟩
    · have : rowsN 3 x ≤ 9 := h1.2
      omega
  · have hh := hn c
    rw [h.lv]
    exact ⟨(gRow_lv hz 4 1 h.hr hh.2.1).1, (gRow_lv hz 1 m h.hr (h.dn _ _ hh.2.1)).2⟩
theorem gr_op {w : List D} {x : D} {o : Op} {l : List D} (ho : o.ok l.length) (k : Nat) {g : Int} (hg : g = rowsL k (.lst (o.run x l)) - rowsL k (.lst l)) : Gr (deedD w x o) g := by
  have pos : ∀ y, 0 ≤ rowsN k y := rows_nn k
  cases o with
  | app =>
    have e : rowsL k (.lst (Op.run .app x l)) = 1 + rowsN k x + rowsL k (.lst l) := by rw [rowsL_perm (run_new rfl), rowsL_cons]
    have := pos x
    exact ⟨_, _, rfl, fun _ => by omega, fun h => absurd h (by decide), fun h => absurd h (by decide)⟩
  | ins i =>
    have e : rowsL k (.lst (Op.run (.ins i) x l)) = 1 + rowsN k x + rowsL k (.lst l) := by rw [rowsL_perm (run_new rfl), rowsL_cons]
    have := pos x
    exact ⟨_, _, rfl, fun _ => by omega, fun h => absurd h (by decide), fun h => absurd h (by decide)⟩
  | cut =>
    have h0 : 0 < l.length := ho
    have hy := List.getElem?_eq_getElem (l := l) (i := l.length - 1) (by omega)
    have e : rowsL k (.lst l) = 1 + rowsN k (l[l.length - 1]'(by omega)) + rowsL k (.lst l.dropLast) := by
      rw [← rowsL_cons]
      refine rowsL_perm ?_
      have := List.perm_append_comm (l₁ := [l[l.length - 1]'(by omega)]) (l₂ := l.dropLast)
      rw [cut_app hy] at this
      exact this.symm
    have := pos (l[l.length - 1]'(by omega))
    have hg : g = rowsL k (.lst l.dropLast) - rowsL k (.lst l) := hg
    exact ⟨_, _, rfl, fun h => absurd h (by decide), fun _ => by omega, fun h => absurd h (by decide)⟩
  | rem i =>
    have hy := List.getElem?_eq_getElem (l := l) (i := i) ho
    have e : rowsL k (.lst l) = 1 + rowsN k (l[i]'ho) + rowsL k (.lst (l.eraseIdx i)) := by
      rw [← rowsL_cons]
      exact rowsL_perm (erase_perm hy).symm
    have := pos (l[i]'ho)
    have hg : g = rowsL k (.lst (l.eraseIdx i)) - rowsL k (.lst l) := hg
    exact ⟨_, _, rfl, fun h => absurd h (by decide), fun _ => by omega, fun h => absurd h (by decide)⟩
  | mov i j =>
    have hi := List.getElem?_eq_getElem ho.1
    have pm : (Op.run (.mov i j) x l).Perm l := by
      simp only [Op.run, hi]
      exact ins_perm.trans (erase_perm hi)
    have e := rowsL_perm (m := k) pm
    exact ⟨_, _, rfl, fun h => absurd h (by decide), fun h => absurd h (by decide), fun _ => by omega⟩
theorem inv_new {o : Op} (h : o.inv.new = true) : o = .cut ∨ ∃ i, o = .rem i := by
  cases o with
  | cut => exact .inl rfl
  | rem i => exact .inr ⟨i, rfl⟩
  | app => cases h
  | ins i => cases h
  | mov i j => cases h
theorem deed_op {z : Sh} {fl : List Str} {pool : List Int} {d : D} {w : List D} {r : Ro} {C : D → D} {rows : List D} {ids : List Int} {m : Nat} (hz : okSh z) (hp : ∀ x ∈ pool, 0 ≤ x ∧ x ≤ 1000000) (fnd : fl.Nodup) (hg : GD z fl pool d) (h : Plc z fl pool d w r C rows ids m) {o : Op} {x : D} {id : Int} (hok : o.ok rows.length)
    (hn : o.new = true → rows.length < 9 ∧ gRow z pool 1 r x id ∧ id ∈ pool ∧ id ∉ ids) : Deed z fl pool d (deedD w x o) := by
  obtain ⟨a1, a2, a3, a4⟩ := deed_op0 hz hp fnd hg h hok hn
  obtain ⟨k, hk⟩ := where_rows h.wh
  have lids := pair_len h.pr
  have l9 := h.l9
  have key : ∃ x' id', (o = .cut → rows[rows.length - 1]? = some x') ∧ (∀ i, o = .rem i → rows[i]? = some x') ∧ (o.inv.new = true → (o.run x rows).length < 9 ∧ gRow z pool 1 r x' id' ∧ id' ∈ pool ∧ id' ∉ o.run id ids) := by
    cases o with
    | cut =>
      have h0 : 0 < rows.length := hok
      have hy := List.getElem?_eq_getElem (l := rows) (i := rows.length - 1) (by omega)
      obtain ⟨id', hi', gr⟩ := pair_at h.pr hy
      rw [lids] at hi'
      refine ⟨_, id', fun _ => hy, fun _ e => (nomatch e), fun _ => ⟨?_, h.up _ _ gr, h.ip _ (List.mem_of_getElem? hi'), fun hm => ?_⟩⟩
      · show rows.dropLast.length < 9
        rw [List.length_dropLast]; omega
      · have e := cut_app hi'
        have nd := h.nd
        rw [← e] at nd
        exact (List.nodup_append.mp nd).2.2 _ hm _ (List.mem_singleton.mpr rfl) rfl
    | rem i =>
      have hy := List.getElem?_eq_getElem (l := rows) (i := i) hok
      obtain ⟨id', hi', gr⟩ := pair_at h.pr hy
      refine ⟨_, id', fun e => (nomatch e), fun j e => by cases e; exact hy, fun _ => ⟨?_, h.up _ _ gr, h.ip _ (List.mem_of_getElem? hi'), fun hm => ?_⟩⟩
      · show (rows.eraseIdx i).length < 9
        have h0 : i < rows.length := hok
        rw [er_len h0]; omega
      · exact (List.nodup_cons.mp ((erase_perm hi').nodup_iff.mpr h.nd)).1 hm
    | app => exact ⟨x, id, fun e => (nomatch e), fun _ e => (nomatch e), fun e => (nomatch e)⟩
    | ins i => exact ⟨x, id, fun e => (nomatch e), fun _ e => (nomatch e), fun e => (nomatch e)⟩
    | mov i j => exact ⟨x, id, fun e => (nomatch e), fun _ e => (nomatch e), fun e => (nomatch e)⟩
  obtain ⟨x', id', k1, k2, k3⟩ := key
  obtain ⟨b1, b2, _, _⟩ := deed_op0 hz hp fnd a3 a4 (o := o.inv) (x := x') (id := id') (inv_ok hok) k3
  rw [inv_run hok k1 k2, where_self h.wh] at b2
  refine ⟨_, _, a1, a2, a3, .list o h.wh hok (by omega) k1 k2, b1, b2, gr_op hok (k + 1) ?_⟩
  have := hk (o.run x rows)
  omega
theorem deed_field {z : Sh} {fl : List Str} {pool : List Int} {d : D} {w : List D} {r : Ro} {C : D → D} {rows : List D} {ids : List Int} {m : Nat} (hz : okSh z) (h : Plc z fl pool d w r C rows ids m) {i : Nat} {f x : Str} {ws : List Str} (hi : i < rows.length) (hf : (f, ws) ∈ r.2.2) (hx : x ∈ ws) : Deed z fl pool d (.tup [.str "field", .tup w, .int i, .str f, .str x]) := by
  have hrow := List.getElem?_eq_getElem hi
  obtain ⟨id, hid, fs, l2, er, fok, lk, g⟩ := pair_at h.pr hrow
  rw [er] at hrow
  have okf : okFl r.2.2 := ((okSh_rows hz).2 r h.hr).2
  obtain ⟨old, hold, hold2⟩ := fok.ok.2 _ hf
  obtain ⟨j, hj⟩ := lk_idx hold
  have hl := okf.1
  have fl2 := fok.ok.1
  have fok' : FsOk r.2.2 (fs.set j (f, .str x)) := ⟨by rw [set_keys hj]; exact fok.nd, ⟨by rw [List.length_set]; exact fok.ok.1, fun p hp => by
    by_cases c : p.1 = f
    · have h1 := lk_of_mem okf.2.1 (show (f, p.2) ∈ r.2.2 by rw [← c]; exact hp)
      rw [lk_of_mem okf.2.1 hf] at h1
      refine ⟨x, by rw [c]; exact set_lk fok.nd hj, ?_⟩
      rw [← Option.some.inj h1]; exact hx
    · rw [set_lk2 hj c]
      exact fok.ok.2 p hp⟩, fun p hp => by
    rcases List.mem_or_eq_of_mem_set hp with hp | rfl
    · exact fok.str p hp
    · exact ⟨x, rfl⟩⟩
  have p1 := pair_set h.pr hid (show gRow z pool m r (rowD id (fs.set j (f, .str x)) l2) id from ⟨_, _, rfl, fok', lk, g⟩)
  have l9' : (rows.set i (rowD id (fs.set j (f, .str x)) l2)).length ≤ 9 := by rw [List.length_set]; exact h.l9
  have pc := plc_put h p1 h.nd l9' h.ip
  have w1 := where_put h.wh (rows.set i (rowD id (fs.set j (f, .str x)) l2))
  have dn : Does (C (.lst (rows.set i (rowD id (fs.set j (f, .str x)) l2)))) (.tup [.str "field", .tup w, .int i, .str f, .str old]) (C (.lst ((rows.set i (rowD id (fs.set j (f, .str x)) l2)).set i (rowD id ((fs.set j (f, .str x)).set j (f, .str old)) l2)))) :=
    .field w1 (by omega) (set_get hrow) row_nd (p := 1) rfl fok'.nd (set_get hj) (by rw [List.length_set]; omega)
  rw [List.set_set, List.set_set, set_self hj, set_self hrow, where_self h.wh] at dn
  obtain ⟨k, hk⟩ := where_rows h.wh
  refine ⟨_, _, .field h.wh h.kd hi (by have := h.l9; omega) h.hr hf hx, .field h.wh (by have := h.l9; omega) hrow row_nd (p := 1) rfl fok.nd hj (by omega), h.gd (rows.set i (rowD id (fs.set j (f, .str x)) l2)) ids p1 h.nd l9' h.ip,
    .field (old := .str old) h.wh (by have := h.l9; omega) hrow lkR2 hold, .field w1 h.kd (by rw [List.length_set]; exact hi) (by omega) h.hr hf hold2, dn, ⟨_, _, rfl, fun h => absurd h (by decide), fun h => absurd h (by decide), fun _ => ?_⟩⟩
  have e := hk (rows.set i (rowD id (fs.set j (f, .str x)) l2))
  have e2 := rowsL_set (m := k + 1) (y := rowD id (fs.set j (f, .str x)) l2) hrow
  have e3 : rowsN (k + 1) (rowD id (fs.set j (f, .str x)) l2) = rowsN (k + 1) (rowD id fs l2) := rowsN_lk (by rw [lkR3, lkR3])
  have e4 : rowsN 3 (C (.lst (rows.set i (.dic ([(("id" : Str), .int id), ("fields", .dic fs), ("lists", .dic l2)].set 1 ("fields", .dic (fs.set j (f, .str x)))))))) = rowsN 3 (C (.lst (rows.set i (rowD id (fs.set j (f, .str x)) l2)))) := rfl
  omega
theorem deed_flag {z : Sh} {fl : List Str} {pool : List Int} {d : D} (fnd : fl.Nodup) (f2 : fl.length ≤ 2) (hg : GD z fl pool d) {x : Str} (hx : x ∈ fl) : Deed z fl pool d (.tup [.str "flag", .str x]) := by
  obtain ⟨fgs, ls, rfl, fk, fb, lk, g⟩ := hg
  have hx2 : x ∈ fgs.map (·.1) := by rw [fk]; exact hx
  obtain ⟨⟨x', v⟩, hp, rfl⟩ := List.mem_map.mp hx2
  obtain ⟨b, hb⟩ := fb _ hp
  have hb : v = .bl b := hb
  subst hb
  obtain ⟨j, hj⟩ := List.getElem?_of_mem hp
  have lf : fgs.length = fl.length := by rw [← fk, List.length_map]
  have ndf : (fgs.map (·.1)).Nodup := by rw [fk]; exact fnd
  have dn : Does (dataG (fgs.set j (x', .bl (!b))) ls) (.tup [.str "flag", .str x']) (dataG ((fgs.set j (x', .bl (!b))).set j (x', .bl (!(!b)))) ls) :=
    .flag dat_nd (i := 0) rfl (by rw [set_keys hj]; exact ndf) (set_get hj) (by rw [List.length_set]; omega)
  rw [List.set_set, Bool.not_not, set_self hj] at dn
  refine ⟨_, _, .flag hx, .flag dat_nd (i := 0) rfl ndf hj (by omega), ⟨fgs.set j (x', .bl (!b)), ls, rfl, by rw [set_keys hj]; exact fk, fun p hp => ?_, lk, g⟩, .flag, .flag hx, dn, ⟨_, _, rfl, fun h => absurd h (by decide), fun h => absurd h (by decide), fun _ => ?_⟩⟩
  · rcases List.mem_or_eq_of_mem_set hp with hp | rfl
    · exact fb p hp
    · exact ⟨_, rfl⟩
  · have : rowsN 3 (dataG (fgs.set j (x', .bl (!b))) ls) = rowsN 3 (dataG fgs ls) := rowsN_lk (by rw [lkD2, lkD2])
    show rowsN 3 (dataG (fgs.set j (x', .bl (!b))) ls) - rowsN 3 (dataG fgs ls) = 0
    omega
end Pk

namespace Ssb
open PySem PySem.Spec PyProof.Rows L2 PySem.SeqAt
section
variable {X : Cx}
/-- a tuple of data == (a text, a text): either answer -/
def rEqHd : R2 := fun x y H Q => ∃ (a b : Addr) (s0 t0 t1 : Str) (x1 : V) (xs : List V), x = .ref a ∧ y = .ref b ∧ H a = some (.tup (.str s0 :: x1 :: xs)) ∧ H b = some (.tup [.str t0, .str t1]) ∧ ((∃ s1, x1 = .str s1) ∨ ∃ c ws, x1 = .ref c ∧ H c = some (.tup ws)) ∧ Q (.bl (decide (s0 = t0) && decide (x1 = .str t1) && xs.isEmpty)) H
theorem op_eqHd (hu : X.A.units + 64 < cLine) : OpR X (compareOp .Eq) rEqHd := by
  intro pins s σ H x y v u Q I rx ry h
  obtain ⟨a, b, s0, t0, t1, x1, xs, rfl, rfl, ha, hb, h1, q⟩ := h
  cases rx; cases ry
  obtain ⟨us, r1, p1, _⟩ := I.tuple (Evl.st_of ha)
  obtain ⟨ws, r2, p2, _⟩ := I.tuple (Evl.st_of hb)
  obtain _ | ⟨ra, _ | ⟨rb, rc⟩⟩ := r1
  obtain _ | ⟨rd, _ | ⟨re, _ | _⟩⟩ := r2
  rename_i u0 u1 us w0 w1
  obtain ⟨k0, rfl⟩ := ra
  obtain ⟨k1, rfl⟩ := rd
  obtain ⟨k2, rfl⟩ := re
  have e1 : ∀ A : Around, A.units + 1 < cLine → SeqAt.EqAt A s u1 (.str t1 k2) (decide (x1 = .str t1)) := fun A hA => by
    rcases h1 with ⟨s1, rfl⟩ | ⟨c, zs, rfl, hc⟩
    · obtain ⟨k3, rfl⟩ := rb
      have := SeqAt.EqAt.str_str (A := A) (s := s) s1 k3 t1 k2
      have e : (s1 == t1) = decide (V.str s1 = V.str t1) := by
        by_cases c : s1 = t1
        · subst c; simp
        · rw [decide_eq_false (fun z => c (V.str.inj z))]; simpa using c
      rw [e] at this
      exact this
    · cases rb
      obtain ⟨us2, _, p3, _⟩ := I.tuple (Evl.st_of hc)
      have := SeqAt.EqAt.tuple_str (A := A) t1 k2 p3 (by omega)
      rw [decide_eq_false (fun z => nomatch z)]
      exact this
  refine PySem.W.eq_tuplesT (n := 1) (e := fun j => if j = 0 then decide (s0 = t0) else decide (x1 = .str t1)) p1 p2 (fun j h1 h2 => ?_) (by omega) ?_
  · have h2 : j < 2 := h2
    rcases j with _ | _ | j
    · refine .leaf fun A _ => ?_
      have := SeqAt.EqAt.str_str (A := A) (s := s) s0 k0 t0 k1
      have e : (s0 == t0) = decide (s0 = t0) := by
        by_cases c : s0 = t0
        · subst c; simp
        · rw [decide_eq_false c]; simpa using c
      rw [e] at this
      exact this
    · exact .leaf fun A hA => e1 A hA
    · omega
  · refine ⟨_, H, I, ?_, q⟩
    have lr : us.length = xs.length := rc.length.symm
    have : ((List.range (min (Value.str s0 k0 :: u1 :: us).toArray.size [Value.str t0 k1, Value.str t1 k2].toArray.size)).all (fun j => if j = 0 then decide (s0 = t0) else decide (x1 = .str t1)) && (Value.str s0 k0 :: u1 :: us).toArray.size == [Value.str t0 k1, Value.str t1 k2].toArray.size) = (decide (s0 = t0) && decide (x1 = .str t1) && xs.isEmpty) := by
      have m : min (Value.str s0 k0 :: u1 :: us).toArray.size [Value.str t0 k1, Value.str t1 k2].toArray.size = 2 := by
        show min (us.length + 1 + 1) 2 = 2
        omega
      rw [m]
      have e : ((Value.str s0 k0 :: u1 :: us).toArray.size == [Value.str t0 k1, Value.str t1 k2].toArray.size) = xs.isEmpty := by
        show (us.length + 1 + 1 == 2) = _
        rw [lr]
        cases xs with
        | nil => rfl
        | cons x xs => show (xs.length + 1 + 1 + 1 == 2) = false; simp
      rw [e]
      show ((if (0 : Nat) = 0 then _ else _) && ((if (1 : Nat) = 0 then _ else _) && true) && _) = _
      simp
    rw [this]
    rfl
/-- d != e, the same data twice: two dicts -/
def rNeDT : R2 := fun x y H Q => ∃ (m1 m2 : Nat) (S1 S2 : Addr → Prop) (l : List (Str × D)), m1 ≤ 50 ∧ Rep H m1 S1 (.dic l) x ∧ Rep H m2 S2 (.dic l) y ∧ kN m1 (.dic l) ∧ Q (.bl false) H
theorem hits_T {prog : Program} {w : World} {A : Around} {s : Shared} {n : Nat} {vb : List (Key × Value)} (hu : A.units + n < cLine) : ∀ {va : List (Key × Value)}, (∀ p ∈ va, (valueAt vb p.1).isSome = true) → (∀ k v y, (k, v) ∈ va → valueAt vb k = some y → PySem.W.EqTree prog w s n v y true) → PySem.W.KeqHitsP prog w A s vb va true
  | [], _, _ => .nil
  | (k, v) :: va, h1, h2 => by
    obtain ⟨y, hy⟩ := Option.isSome_iff_exists.mp (h1 (k, v) List.mem_cons_self)
    show PySem.W.KeqHitsP prog w A s vb ((k, v) :: va) (true && true)
    exact .hit hy ((h2 k v y List.mem_cons_self hy).at A hu) (hits_T hu (fun p hp => h1 p (List.mem_cons_of_mem _ hp)) fun k v y hm => h2 k v y (List.mem_cons_of_mem _ hm))
theorem op_neDT (hu : X.A.units + 64 < cLine) : OpR X (compareOp .NotEq) rNeDT := by
  intro pins s σ H x y v u Q I rx ry h
  obtain ⟨m1, m2, S1, S2, l, hm, h1, h2, hk, q⟩ := h
  cases m1 with
  | zero => exact h1.elim
  | succ m1 =>
  cases m2 with
  | zero => exact h2.elim
  | succ m2 =>
  obtain ⟨a, ks, rfl, _, ha, _, pr⟩ := h1
  obtain ⟨c, ls, rfl, _, hc, _, pr'⟩ := h2
  cases rx; cases ry
  obtain ⟨_, ya, va, ra, da⟩ := (show ObjOk X.prog X.w H s.heap a (.dK ks) from I.hok a _ ha)
  obtain ⟨_, yb, vb, rb, db⟩ := (show ObjOk X.prog X.w H s.heap c (.dK ls) from I.hok c _ hc)
  obtain ⟨et, it⟩ := dic_T pr pr' ra rb hk.1 fun p hp x y v u q1 q2 rx ry => eqT_rep I q1 q2 (Nat.le_refl _) (hk.2 p hp) rx ry
  rw [Bool.and_eq_true] at et
  have hall : ∀ p ∈ va, (valueAt vb p.1).isSome = true := fun p hp => by
    have := List.all_eq_true.mp et.2 p hp
    rw [Bool.and_true] at this
    exact this
  have hits : va.length = vb.length → PySem.W.KeqHitsP X.prog X.w X.A.in1 s vb va true := fun _ => hits_T (n := m1) (by show X.A.units + 1 + m1 < cLine; omega) hall it
  refine wpAny_richCompare_same_room (op := .NotEq) da.typeIs db.typeIs PySem.F.slot_dict_ne (wpAny_call_entry PySem.F.slot_dict_ne da.typeIs PySem.F.entry_dict_ne ?_ (PySem.F.args_dict_ne_2 _ _)) (by omega)
  show wpAny _ _ (Builtin.Dict.dictSlotArgs "__ne__" ⟨[.ref a, .ref c], []⟩ >>= _) _ _ s
  refine wpAny_bind ?_
  unfold Builtin.Dict.dictSlotArgs
  refine wpAny_bind (wpAny_notOrdered_dict da.typeIs ?_)
  show wpAny _ _ (pure (Value.ref a, Value.ref c)) _ _ s
  refine wpAny_pure ?_
  refine wpAny_bind (wpAny_isInstance (T := "dict") db.typeIs PySem.F.sub_dict_dict ?_)
  simp only [Bool.not_true, Bool.false_eq_true, if_false]
  refine wpAny_bind (wpAny_pure (wpAny_bind (wpAny_pure ?_)))
  refine wpAny_bind (PySem.W.samePairsP ya yb da db hits ?_)
  refine wpAny_pure ⟨_, rfl, ?_, ?_⟩
  · exact fun x => nomatch x
  · rw [et.1]
    exact ⟨.bl false, H, I, rfl, q⟩
end
end Ssb

namespace Pk
open PySem PySem.Spec PyProof.Rows L2 Ssb
open Evl (Ex Ev EvT EvL EvA EvU)
/-! ### a deed that is drawn -/
def rEqNil : R2 := fun x y H Q => ∃ (a b : Addr) (xs : List V), x = .ref a ∧ y = .ref b ∧ H a = some (.lst xs) ∧ H b = some (.lst []) ∧ Q (.bl xs.isEmpty) H
theorem op_eqNil {X : Cx} (hu : X.A.units + 64 < cLine) : OpR X (compareOp .Eq) rEqNil := by
  intro pins s σ H x y v u Q I rx ry h
  obtain ⟨a, b, xs, rfl, rfl, ha, hb, q⟩ := h
  cases rx; cases ry
  obtain ⟨us, r1, p1, _⟩ := I.list (Evl.sq_of ha)
  obtain ⟨ws, r2, p2, _⟩ := I.list (Evl.sq_of hb)
  cases r2
  cases xs with
  | nil =>
    cases r1
    refine PySem.W.eq_listsT (n := 1) (e := fun _ => true) p1.isList p2.isList rfl (fun j h1 h2 => absurd h1 (Nat.not_lt_zero j)) (by omega) ?_
    exact ⟨.bl true, H, I, rfl, q⟩
  | cons x xs =>
    cases r1 with
    | cons r1 t1 =>
    exact SeqAt.RcAt.lists_lengths p1.isList p2.isList (by simp) (by omega) X.prog X.w _ _ ⟨.bl false, H, I, rfl, q⟩
theorem et_truL {K : PySem.W.Frag} {σ : L2.St} {H : Hp} {te : L2.TE} {a : Addr} {xs : List V} (h : Ev te σ H (.ref a)) (ha : H a = some (.lst xs)) : EvT (tTruA K te) σ H (!xs.isEmpty) := fun H1 e Q q => h H1 e _ fun H2 e2 => ⟨!xs.isEmpty, .inl ⟨xs, Evl.sq_of ((e.trans e2) _ _ ha), rfl⟩, q H2 e2⟩

def rNeE : R2 := fun x y H Q => ∃ (a b : Addr) (ks : List (Key × V)), x = .ref a ∧ y = .ref b ∧ H a = some (.dK ks) ∧ H b = some (.dK []) ∧ Q (.bl (!ks.isEmpty)) H
theorem op_neE {X : Cx} (hu : X.A.units + 64 < cLine) : OpR X (compareOp .NotEq) rNeE := by
  intro pins s σ H x y v u Q I rx ry h
  obtain ⟨a, b, ks, rfl, rfl, ea, eb, q⟩ := h
  cases rx; cases ry
  obtain ⟨_, ya, va, ra, da⟩ := (show ObjOk X.prog X.w H s.heap a (.dK ks) from I.hok a _ ea)
  obtain ⟨_, yb, vb, rb, db⟩ := (show ObjOk X.prog X.w H s.heap b (.dK []) from I.hok b _ eb)
  have lb : vb.length = 0 := by rw [← rb.length]; rfl
  refine PySem.W.keq_ne (knd := mixKind X.prog X.w) (r := true) ya yb da db (by omega) (fun e => ?_) ?_
  · rw [lb] at e
    rw [List.length_eq_zero_iff.mp e]
    exact .nil
  · have : (!(va.length == vb.length && true)) = !ks.isEmpty := by
      rw [lb, ← ra.length]
      cases ks <;> rfl
    rw [this]
    exact ⟨.bl (!ks.isEmpty), H, I, rfl, q⟩
theorem where_repS {H : Hp} {n : Nat} {S S' : Addr → Prop} {v : V} {d : D} {w : List D} {C : D → D} {l : List D} (h : Where d w C l) (r : Rep H n S d v) {H2 : Hp} {k : Nat} {xs : List V} (pw : Paired (fun d x => Rep H2 k S' d x) w xs) : ∃ u m, m ≤ n ∧ RowsP H v xs u ∧ Rep H m S (.lst l) u := by
  rcases h with ⟨nm', L, i, ls, j, rfl, rfl, nL, hi, nls, hj, rfl⟩ | ⟨n1, nm', m, L, i, ls, j, rs, k0, R, p, ls2, q, rfl, rfl, nL, hi, nls, hj, l400, hk, hids, nR, hp, nls2, hq, rfl⟩
  · cases pw with
    | cons h0 pw =>
    cases pw
    rw [str_of h0]
    obtain ⟨u1, _, q1, kd1, r1⟩ := rep_kidS r (lk_of_mem nL (List.mem_of_getElem? hi))
    obtain ⟨u2, m2, q2, kd2, r2⟩ := rep_kidS r1 (lk_of_mem nls (List.mem_of_getElem? hj))
    exact ⟨u2, m2, by omega, .inl ⟨nm', u1, rfl, kd1, kd2⟩, r2⟩
  · cases pw with
    | cons h0 pw =>
    cases pw with
    | cons h1' pw =>
    cases pw with
    | cons h2' pw =>
    cases pw
    rw [str_of h0, int_of h1', str_of h2']
    obtain ⟨u1, _, q1, kd1, r1⟩ := rep_kidS r (lk_of_mem nL (List.mem_of_getElem? hi))
    obtain ⟨u2, m2, q2, kd2, r2⟩ := rep_kidS r1 (lk_of_mem nls (List.mem_of_getElem? hj))
    cases m2 with
    | zero => exact r2.elim
    | succ m2 =>
    obtain ⟨c, zs, rfl, _, hc, _, pz⟩ := r2
    obtain ⟨row, hrow, rrow⟩ := pair_at pz hk
    obtain ⟨u4, _, q4, kd4, r4⟩ := rep_kidS rrow (lk_of_mem nR (List.mem_of_getElem? hp))
    obtain ⟨u5, m5, q5, kd5, r5⟩ := rep_kidS r4 (lk_of_mem nls2 (List.mem_of_getElem? hq))
    refine ⟨u5, m5, by omega, .inr ⟨n1, nm', m, u1, c, zs, k0, row, u4, rfl, kd1, kd2, hc, by rw [← pair_len pz]; exact l400, hrow, fun j' r hr => ?_, kd4, kd5⟩, r5⟩
    obtain ⟨dr, hdr, rr⟩ := pair_back pz hr
    obtain ⟨R', z, rfl, hid, hz'⟩ := hids j' dr hdr
    obtain ⟨u, _, _, kd, ru⟩ := rep_kidS rr hid
    rw [int_of ru] at kd
    exact ⟨z, kd, hz'⟩
theorem last_of {H : Hp} {k : Nat} {S : Addr → Prop} {z : Sh} {w : List D} {nm : Str} {xs : List V} (kd : KdW z w nm) (pw : Paired (fun d x => Rep H k S d x) w xs) : atI xs (-1) = some (.str nm) := by
  rcases kd with ⟨rfl, _⟩ | ⟨n1, m, rfl, _⟩
  · cases pw with
    | cons h0 pw =>
    cases pw
    rw [str_of h0]; rfl
  · cases pw with
    | cons h0 pw =>
    cases pw with
    | cons h1' pw =>
    cases pw with
    | cons h2' pw =>
    cases pw
    rw [str_of h2']; rfl
theorem pair_tr {α β γ : Type} {F : α → β → Prop} {G : α → γ → Prop} {J : β → γ → Prop} : ∀ {l : List α} {m : List β} {k : List γ}, Paired F l m → Paired G l k → (∀ a b c, F a b → G a c → J b c) → Paired J m k
  | _, _, _, .nil, .nil, _ => .nil
  | _, _, _, .cons a b, .cons c d, h => .cons (h _ _ _ a c) (pair_tr b d h)
section
variable {P : Program} {w : World} {K : PySem.W.Frag} {mg : Str → Option Value} {base : Heap} {C_Shape C_FORMS : Addr}
def flagNone : D := .tup [.str "flag", .str "none"]
def spDeed : Sp := fun vs H Q _ => ∃ (S c qf pa : Addr) (v dv : V) (n : Nat) (P R : Addr → Prop) (s : Sh) (fl : List Str) (pool : List Int) (d : D), vs = [.ref S, .ref qf, v, dv, .ref pa] ∧ StAt H S c ∧ H qf = some (.lst (fl.map V.str)) ∧ qf ≠ S ∧ qf ≠ c ∧ fl.Nodup ∧ fl.length ≤ 2 ∧ RepF H n P s v ∧ ¬ P S ∧ ¬ P c ∧ (∀ b, P b → H b ≠ none) ∧ okSh s ∧
  H pa = some (.lst (pool.map V.int)) ∧ pa ≠ S ∧ pa ≠ c ∧ ¬ P pa ∧ pool.length = 12 ∧ pool.Nodup ∧ (∀ x ∈ pool, 0 ≤ x ∧ x ≤ 1000000) ∧ Rep H 10 R d dv ∧ ¬ R S ∧ ¬ R c ∧ GD s fl pool d ∧
  ∀ (H' : Hp) (t : Addr) (dd : D), Mv S c H H' → Rep H' 11 (fun b => H b = none) dd (.ref t) → (dd = flagNone ∨ Deed s fl pool d dd) → Q (.ref t) H'
theorem ok__law_deed (T : Txt K mg C_Shape C_FORMS) (R : Prg K mg C_Shape C_FORMS) : ∃ f fd, Fn P w K mg base "_law_deed" 7 ["_law_state", "_law_flags", "_law_lists", "_law_data_here", "_law_pool_here"] spDeed f fd := by
  obtain ⟨_, _, G__law_draw⟩ := ok__law_draw (P := P) (w := w) (base := base) T R
  obtain ⟨_, _, G__law_wheres⟩ := ok__law_wheres (P := P) (w := w) (base := base) T R
  obtain ⟨_, _, G__law_list_at⟩ := ok__law_list_at (P := P) (w := w) (base := base) T R
  obtain ⟨_, _, G__law_fields⟩ := ok__law_fields (P := P) (w := w) (base := base) T R
  obtain ⟨_, _, G__law_new_row⟩ := ok__law_new_row (P := P) (w := w) (base := base) T R
  obtain ⟨f, fd, at_, F, kp⟩ := R._law_deed
  refine ⟨f, fd, F.ok sc__law_deed (fun vs H Q E h => ?_) (fun cdv A outer s H vs Q E hr h => ?_), at_, kp, F.binds (fun _ _ _ _ _ _ us hl => match us, hl with | [_, _, _, _, _], _ => rfl)⟩
  · obtain ⟨S, c, qf, pa, v, dv, n, P, R, s, fl, pool, d, rfl, _⟩ := h; rfl
  · obtain ⟨S, c, qf, pa, v, dv, n, PP, RR, z, fl, pool, d, rfl, st, hqf, qS, qc, fnd, f2, hv, nS, nc, nP, hz, hpa, paS, pac, npa, pl12, pnd, prg, hd, nRS, nRc, hg, k⟩ := h
    refine ⟨_, (pss_cons (ps_set (i := 5) sc__law_deed.nd rfl (Or.inl rfl) (pcl G__law_wheres hr (pa_cons (pv 2) (pa_cons (pv 3) pa_nil))))
  (pss_cons (ps_set (i := 6) sc__law_deed.nd rfl (Or.inl rfl) (pcl G__law_draw hr (pa_cons (pv 0) (pa_cons pe_int pa_nil))))
  (pss_cons (ps_if (PW.pt (pw_or (PW.pt (pw_and (pt_cmpR op_eq (pv 6) pe_int (nomark _)) (pw_and1 (show PT _ _ (tTruA K _) from pt_truth (pv 1) (by intro _; rfl))))) (pw_or1 (pt_cmpR (r := rEqNil) (op_eqNil hr.units) (pv 5) (pe_lst pa_nil) (nomark _))))) (pss_cons (ps_if (pt_cmpR (r := rEqNil) (op_eqNil hr.units) (pv 1) (pe_lst pa_nil) (nomark _)) (pss_one (ps_ret (pe_tup (pa_cons pe_str (pa_cons pe_str pa_nil))))) pss_nil)
  (pss_one (ps_ret (pe_tup (pa_cons pe_str (pa_cons (pe_ix (r := rIxL K) ix_list (pv 1) (pcl G__law_draw hr (pa_cons (pv 0) (pa_cons (pe_callB (r := rLenA K) call_len (by rfl) T.len (by decide +kernel) (pa_cons (pv 1) pa_nil)) pa_nil))) (fun _ _ => rfl)) pa_nil)))))) pss_nil)
  (pss_cons (ps_set (i := 7) sc__law_deed.nd rfl (Or.inl rfl) (pe_ix (r := rIxL K) ix_list (pv 5) (pcl G__law_draw hr (pa_cons (pv 0) (pa_cons (pe_callB (r := rLenA K) call_len (by rfl) T.len (by decide +kernel) (pa_cons (pv 5) pa_nil)) pa_nil))) (fun _ _ => rfl)))
  (pss_cons (ps_set (i := 8) sc__law_deed.nd rfl (Or.inl rfl) (pcl G__law_list_at hr (pa_cons (pv 3) (pa_cons (pv 7) pa_nil))))
  (pss_cons (ps_set (i := 9) sc__law_deed.nd rfl (Or.inl rfl) (pe_callB (r := rLenA K) call_len (by rfl) T.len (by decide +kernel) (pa_cons (pv 8) pa_nil)))
  (pss_cons (ps_set (i := 10) sc__law_deed.nd rfl (Or.inl rfl) (pcl G__law_fields hr (pa_cons (pv 2) (pa_cons (pe_ix (r := rIxT K) ix_tup (pv 7) (pe_un un_neg pe_int) (fun _ _ => rfl)) pa_nil))))
  (pss_cons (ps_if (PW.pt (pw_or (pt_cmpR op_eq (pv 9) pe_int (nomark _)) (pw_or1 (PW.pt (pw_and (pt_cmpR op_lt (pv 6) pe_int (nomark _)) (pw_and1 (pt_cmpR op_lt (pv 9) pe_int (nomark _)))))))) (pss_one (ps_ret (pe_tup (pa_cons pe_str (pa_cons (pv 7) (pa_cons (pcl G__law_new_row hr (pa_cons (pv 0) (pa_cons (pv 2) (pa_cons (pe_ix (r := rIxT K) ix_tup (pv 7) (pe_un un_neg pe_int) (fun _ _ => rfl)) (pa_cons (pv 8) (pa_cons (pv 4) pa_nil)))))) pa_nil)))))) pss_nil)
  (pss_cons (ps_if (PW.pt (pw_and (pt_cmpR op_lt (pv 6) pe_int (nomark _)) (pw_and1 (pt_cmpR op_lt (pv 9) pe_int (nomark _))))) (pss_cons (ps_set (i := 11) sc__law_deed.nd rfl (Or.inl rfl) (pcl G__law_draw hr (pa_cons (pv 0) (pa_cons (pe_op op_add (pv 9) pe_int) pa_nil))))
  (pss_one (ps_ret (pe_tup (pa_cons pe_str (pa_cons (pv 7) (pa_cons (pv 11) (pa_cons (pcl G__law_new_row hr (pa_cons (pv 0) (pa_cons (pv 2) (pa_cons (pe_ix (r := rIxT K) ix_tup (pv 7) (pe_un un_neg pe_int) (fun _ _ => rfl)) (pa_cons (pv 8) (pa_cons (pv 4) pa_nil)))))) pa_nil)))))))) pss_nil)
  (pss_cons (ps_if (pt_cmpR op_eq (pv 6) pe_int (nomark _)) (pss_one (ps_ret (pe_tup (pa_cons pe_str (pa_cons (pv 7) pa_nil))))) pss_nil)
  (pss_cons (ps_set (i := 11) sc__law_deed.nd rfl (Or.inl rfl) (pcl G__law_draw hr (pa_cons (pv 0) (pa_cons (pv 9) pa_nil))))
  (pss_cons (ps_if (pt_cmpR op_eq (pv 6) pe_int (nomark _)) (pss_one (ps_ret (pe_tup (pa_cons pe_str (pa_cons (pv 7) (pa_cons (pv 11) pa_nil)))))) pss_nil)
  (pss_cons (ps_if (PW.pt (pw_and (pt_cmpR op_gt (pv 6) pe_int (nomark _)) (pw_and1 (pt_cmpR (r := rNeE) (op_neE hr.units) (pv 10) pe_dnewK (nomark _))))) (pss_cons (ps_set (i := 12) sc__law_deed.nd rfl (Or.inl rfl) (pe_ix (r := rIxL K) ix_list (pe_callB (r := rSortDK) (call_sortedD rfl) (by rfl) T.sorted (by decide +kernel) (pa_cons (pv 10) pa_nil)) (pcl G__law_draw hr (pa_cons (pv 0) (pa_cons (pe_callB call_lenD (by rfl) T.len (by decide +kernel) (pa_cons (pv 10) pa_nil)) pa_nil))) (fun _ _ => rfl)))
  (pss_one (ps_ret (pe_tup (pa_cons pe_str (pa_cons (pv 7) (pa_cons (pv 11) (pa_cons (pv 12) (pa_cons (pe_ix (r := rIxT K) ix_tup (pe_dget (hu_of hr) (pv 10) (pv 12) (fun _ _ => rfl)) (pcl G__law_draw hr (pa_cons (pv 0) (pa_cons (pe_callB (r := rLenA K) call_len (by rfl) T.len (by decide +kernel) (pa_cons (pe_dget (hu_of hr) (pv 10) (pv 12) (fun _ _ => rfl)) pa_nil)) pa_nil))) (fun _ _ => rfl)) pa_nil))))))))) pss_nil)
  (pss_one (ps_ret (pe_tup (pa_cons pe_str (pa_cons (pv 7) (pa_cons (pv 11) (pa_cons (pcl G__law_draw hr (pa_cons (pv 0) (pa_cons (pv 9) pa_nil))) pa_nil)))))))))))))))))))), ?_⟩
    have fin : ∀ {H' : Hp} {ds : List D} {xs : List V} {tp : Addr}, Mv S c H H' → H' tp = none → Paired (fun d x => Rep H' 10 (fun b => H b = none) d x) ds xs → ds.length ≤ 100000 → (D.tup ds = flagNone ∨ Deed z fl pool d (.tup ds)) → Q (.ref tp) (upd H' tp (.tup xs)) := fun {H' ds xs tp} m ht pr l hd => k _ tp (.tup ds) (m.tx (Ex.new ht)) ⟨tp, xs, rfl, upd_same, l, pair_imp pr fun _ _ h => rep_ex (Ex.new ht) h⟩ hd
    refine q_go ⟨_, rfl, _, rfl, v, dv, 10, RR, z, fl, pool, d, rfl, hd, hz, hg, fun H1 q ws ts e1 hq hq1 prt l20 => ?_⟩
    have m1 := Mv.ex st e1
    have qSc := st.someS hq
    refine q_go (dr_go (m := 9) (Evl.ea_cons (Evl.ev_var rfl) (Evl.ea_cons Evl.ev_c Evl.ea_nil)) m1.z (by decide) (by decide) fun H2 pk m12 p0 p9 => ?_)
    have m2 := m1.trans m12
    have hq2 := m12.fr _ _ qSc.1 qSc.2 hq1
    have hqf2 := m2.fr _ _ qS qc hqf
    have isNil : ∀ {H' : Hp} {σ : L2.St} {i : Nat} {a : Addr} {xs : List V}, H' a = some (.lst xs) → σ[i]? = some (some (.ref a)) → EvT (tTest (tOp rEqNil (tVar i) (tLst tNil))) σ H' xs.isEmpty := fun ha hs => Evl.et_test (Evl.ev_opL (Evl.ev_var hs) (Evl.el_lst Evl.ea_nil (Nat.zero_le _)) fun p H5 hp e => fun H6 e6 Q q => ⟨_, p, _, rfl, rfl, (e.trans e6) _ _ ha, e6 _ _ hp, q H6 (Ex.refl _)⟩)
    refine Evl.q_when (Evl.et_or (Evl.et_and (Evl.et_test (Evl.ev_op (Evl.ev_var rfl) Evl.ev_c (Evl.rv_eq rfl))) fun _ => et_truL (Evl.ev_var rfl) hqf2) fun _ => isNil hq2 rfl) (fun hb H3 e3 => ?_) fun hb H3 e3 => ?_
    · have m3 := m2.tx e3
      have hqf3 := e3 _ _ hqf2
      refine Evl.q_when (isNil hqf3 rfl) (fun hb H4 e4 => ?_) fun hb H4 e4 => ?_
      · exact ⟨(by show 2 ≤ sizeLine; decide), fun tp htp => fin (ds := [.str "flag", .str "none"]) (m3.tx e4) htp (.cons rfl (.cons rfl .nil)) (by show 2 ≤ 100000; decide) (.inl rfl)⟩
      · have m4 := m3.tx e4
        have hqf4 := e4 _ _ hqf3
        have fl1 : 1 ≤ fl.length := by
          cases fl with
          | nil => cases hb
          | cons a l => rw [List.length_cons]; omega
        refine ⟨_, rfl, dr_go (m := (fl.length : Int)) (Evl.ea_cons (Evl.ev_var rfl) (Evl.ea_cons (Evl.ev_is (ev_lenL (Evl.ev_var rfl) (.inl (Evl.sq_of hqf4))) (by rw [List.length_map])) Evl.ea_nil)) m4.z (by omega) (by omega) fun H5 j m45 j0 j1 => ?_⟩
        obtain ⟨jn, rfl⟩ := Int.eq_ofNat_of_zero_le j0
        have hj := List.getElem?_eq_getElem (l := fl) (i := jn) (by omega)
        exact ⟨qf, _, (jn : Int), .str fl[jn], rfl, rfl, Evl.sq_of (m45.fr _ _ qS qc hqf4), atI_nat (by rw [List.getElem?_map, hj]; rfl), (by show 2 ≤ sizeLine; decide), fun tp htp => fin (ds := [.str "flag", .str fl[jn]]) (m4.trans m45) htp (.cons rfl (.cons rfl .nil)) (by show 2 ≤ 100000; decide) (.inr (deed_flag fnd f2 hg (List.getElem_mem _)))⟩
    · have m3 := m2.tx e3
      have hq3 := e3 _ _ hq2
      have ts1 : 1 ≤ ts.length := by
        cases ts with
        | nil => simp at hb
        | cons a l => rw [List.length_cons]; omega
      refine q_go ⟨_, rfl, dr_go (m := (ts.length : Int)) (Evl.ea_cons (Evl.ev_var rfl) (Evl.ea_cons (ev_lenL (Evl.ev_var rfl) (.inl (Evl.sq_of hq3))) Evl.ea_nil)) m3.z (by omega) (by omega) fun H4 j m34 j0 j1 => ?_⟩
      have m4 := m3.trans m34
      obtain ⟨jn, rfl⟩ := Int.eq_ofNat_of_zero_le j0
      have hj := List.getElem?_eq_getElem (l := ts) (i := jn) (by omega)
      obtain ⟨wl, hwl, rw1, r, wok⟩ := pair_back prt hj
      obtain ⟨tw, xw, et, htw1, _, pw1⟩ := id rw1
      obtain ⟨C, rows, ids, m, pc⟩ := where_of hz prg hg wok
      refine ⟨q, ts, (jn : Int), .ref tw, rfl, rfl, Evl.sq_of (m34.fr _ _ qSc.1 qSc.2 hq3), atI_nat (by rw [hj, et]), ?_⟩
      have m14 := (m12.tx e3).trans m34
      have rw4 : ∀ {H' : Hp}, Mv S c H1 H' → Rep H' 10 (fun b => H b = none) (.tup wl) (.ref tw) := fun mm => by
        rw [← et]
        exact rep_le (by decide) (rep_S (fun b hb => hb.elim) (rep_mv mm (fun z => z) (fun z => z) rw1))
      have htw : ∀ {H' : Hp}, Mv S c H1 H' → H' tw = some (.tup xw) := fun mm => mm.tup htw1
      obtain ⟨u, mu, _, rp, ru⟩ := where_repS pc.wh (rep_mv m4 nRS nRc hd) pw1
      refine q_go ⟨_, rfl, _, rfl, dv, u, tw, xw, rfl, htw m14, rp, fun H5 e5 => ?_⟩
      cases mu with
      | zero => exact ru.elim
      | succ mu =>
      obtain ⟨ra, xs, rfl, Rra, hra, _, prx⟩ := id ru
      have raS : ra ≠ S ∧ ra ≠ c := ⟨fun e => nRS (e ▸ Rra), fun e => nRc (e ▸ Rra)⟩
      have m5 := m4.tx e5
      have m15 := m14.tx e5
      have lxs := pair_len prx
      have lx9 : xs.length ≤ 9 := by rw [← lxs]; exact pc.l9
      have lids := pair_len pc.pr
      have rws : ∀ {H' : Hp}, Mv S c H4 H' → H' ra = some (.lst xs) ∧ Paired (fun (id : Int) x => Kid H' x "id" (.int id)) ids xs := fun {H'} mm => by
        refine ⟨mm.fr _ _ raS.1 raS.2 hra, ?_⟩
        refine pair_tr pc.pr prx fun row id x hrow hx => ?_
        obtain ⟨fs, l2, rfl, _⟩ := hrow
        obtain ⟨u2, _, _, kd, r2⟩ := rep_kidS (rep_mv mm nRS nRc hx) lkR1
        rw [int_of r2] at kd
        exact kd
      have m45 := Mv.ex m4.z e5
      have ix : ∀ {H' : Hp} {σ : L2.St}, Mv S c H1 H' → σ[7]? = some (some (.ref tw)) → Ev (tOp (rIxT K) (tVar 7) (tUn (rU fun i => .int (-i)) (tC (.int 1)))) σ H' (.str r.1) := fun mm hs => Evl.ev_op (Evl.ev_var hs) (Evl.ev_un Evl.ev_c Evl.ru_neg) (Evl.rv_ixT (Evl.st_of (htw mm)) (last_of pc.kd pw1))
      refine Evl.q_asg (ev_lenL (Evl.ev_var rfl) (.inl (Evl.sq_of (rws m45).1))) fun H6 e6 => ?_
      have m6 := m5.tx e6
      have m16 := m15.tx e6
      refine q_go ⟨_, rfl, ix m16 rfl H6 (Ex.refl _) _ fun H7 e7 => ⟨v, n, PP, z, r, rfl, hv.mv (m6.tx e7) nS nc, hz, pc.hr, ⟨pa, _, (m6.tx e7).fr _ _ paS pac hpa, npa⟩, fun H8 fv nf e8 rf => ?_⟩⟩
      have m8 := (m6.tx e7).tx e8
      have m18 := (m16.tx e7).tx e8
      have m48 := ((m45.tx e6).tx e7).tx e8
      clear e7 e8 e6 e5
      -- a new row
      have newRow : ∀ {H' : Hp} {σ : L2.St} {Q' : VK}, Mv S c H H' → Mv S c H1 H' → Mv S c H4 H' → xs.length < 9 → σ[0]? = some (some (.ref S)) → σ[2]? = some (some v) → σ[7]? = some (some (.ref tw)) → σ[8]? = some (some (.ref ra)) → σ[4]? = some (some (.ref pa)) →
          (∀ H'' p row id, Mv S c H' H'' → Rep H'' 10 (fun b => H b = none) row (.ref p) → gRow z pool 1 r row id → id ∈ pool → id ∉ ids → Q' (.ref p) H'') → tCall spNew [] E0 (tCons (tVar 0) (tCons (tVar 2) (tCons (tOp (rIxT K) (tVar 7) (tUn (rU fun i => .int (-i)) (tC (.int 1)))) (tCons (tVar 8) (tCons (tVar 4) tNil))))) σ H' Q' := fun {H' σ Q'} mm m1' m4' l9 s0 s2 s7 s8 s4 kk => by
        refine ⟨_, s0, _, s2, ix m1' s7 H' (Ex.refl _) _ fun H'' e => ⟨_, s8, _, s4, z, pool, ids, xs, S, c, pa, ra, v, n, PP, r, rfl, (mm.tx e).z, hv.mv (mm.tx e) nS nc, nS, nc, fun b hb zz => nP b hb ((mm.tx e).back zz), hz, pc.hr, (mm.tx e).fr _ _ paS pac hpa, paS, pac, npa, pl12, pnd, (rws (m4'.tx e)).1, (rws (m4'.tx e)).2, by omega, fun H3 p row id m3 rr gr ip ni => kk H3 p row id ((Mv.ex mm.z e).trans m3) (rep_le (by decide) (rep_S (fun b hb => (mm.tx e).back hb) rr)) gr ip ni⟩⟩
      refine Evl.q_when (Evl.et_or (Evl.et_test (Evl.ev_op (Evl.ev_var rfl) Evl.ev_c (Evl.rv_eq rfl))) fun _ => Evl.et_and (Evl.et_test (Evl.ev_op (Evl.ev_var rfl) Evl.ev_c Evl.rv_I0)) fun _ => Evl.et_test (Evl.ev_op (Evl.ev_var rfl) Evl.ev_c Evl.rv_I0)) (fun hb H9 e9 => ?_) fun hb H9 e9 => ?_
      · have l9 : xs.length < 9 := by
          simp at hb
          rcases hb with h | h
          · rw [h]; decide
          · have := h.2; omega
        refine ⟨_, rfl, newRow (m8.tx e9) (m18.tx e9) (m48.tx e9) l9 rfl rfl rfl rfl rfl fun H10 p row id m10 rr gr ip ni => ⟨(by show 3 ≤ sizeLine; decide), fun tp htp => ?_⟩⟩
        exact fin (ds := [.str "append", .tup wl, row]) ((m8.tx e9).trans m10) htp (.cons rfl (.cons (rw4 ((m18.tx e9).trans m10)) (.cons rr .nil))) (by show 3 ≤ 100000; decide) (.inr (deed_op (o := .app) (id := id) hz prg fnd hg pc trivial fun _ => ⟨by omega, gr, ip, ni⟩))
      have many : 0 < xs.length := by
        simp at hb
        exact List.length_pos_iff.mpr hb.1
      have m9 := m8.tx e9
      have m19 := m18.tx e9
      have m49 := m48.tx e9
      refine Evl.q_when (Evl.et_and (Evl.et_test (Evl.ev_op (Evl.ev_var rfl) Evl.ev_c Evl.rv_I0)) fun _ => Evl.et_test (Evl.ev_op (Evl.ev_var rfl) Evl.ev_c Evl.rv_I0)) (fun hb H10 e10 => ?_) fun hb H10 e10 => ?_
      · have l9 : xs.length < 9 := by
          simp at hb
          omega
        have m10 := m9.tx e10
        refine q_go (dr_go (m := (xs.length : Int) + 1) (Evl.ea_cons (Evl.ev_var rfl) (Evl.ea_cons (Evl.ev_op (Evl.ev_var rfl) Evl.ev_c Evl.rv_I0) Evl.ea_nil)) m10.z (by omega) (by omega) fun H11 i m1011 i0 i1 => ?_)
        obtain ⟨inn, rfl⟩ := Int.eq_ofNat_of_zero_le i0
        refine ⟨_, rfl, _, rfl, newRow (m10.trans m1011) ((m19.tx e10).trans m1011) ((m49.tx e10).trans m1011) l9 rfl rfl rfl rfl rfl fun H12 p row id m12 rr gr ip ni => ⟨(by show 4 ≤ sizeLine; decide), fun tp htp => ?_⟩⟩
        exact fin (ds := [.str "insert", .tup wl, .int (inn : Int), row]) ((m10.trans m1011).trans m12) htp (.cons rfl (.cons (rw4 (((m19.tx e10).trans m1011).trans m12)) (.cons rfl (.cons rr .nil)))) (by show 4 ≤ 100000; decide) (.inr (deed_op (o := .ins inn) (id := id) hz prg fnd hg pc (by show inn ≤ rows.length; omega) fun _ => ⟨by omega, gr, ip, ni⟩))
      have m10 := m9.tx e10
      have m110 := m19.tx e10
      have m410 := m49.tx e10
      refine Evl.q_when (Evl.et_test (Evl.ev_op (Evl.ev_var rfl) Evl.ev_c (Evl.rv_eq rfl))) (fun hb H11 e11 => ?_) fun hb H11 e11 => ?_
      · refine ⟨_, rfl, (by show 2 ≤ sizeLine; decide), fun tp htp => ?_⟩
        exact fin (ds := [.str "cut", .tup wl]) (m10.tx e11) htp (.cons rfl (.cons (rw4 (m110.tx e11)) .nil)) (by show 2 ≤ 100000; decide) (.inr (deed_op (o := .cut) (x := .non) (id := 0) hz prg fnd hg pc (by show 0 < rows.length; omega) fun h => nomatch h))
      have m11 := m10.tx e11
      have m111 := m110.tx e11
      refine q_go (dr_go (m := (xs.length : Int)) (Evl.ea_cons (Evl.ev_var rfl) (Evl.ea_cons (Evl.ev_var rfl) Evl.ea_nil)) m11.z (by omega) (by omega) fun H12 i m1112 i0 i1 => ?_)
      obtain ⟨inn, rfl⟩ := Int.eq_ofNat_of_zero_le i0
      have m12' := m11.trans m1112
      have m112 := m111.trans m1112
      have m412 := (m410.tx e11).trans m1112
      refine Evl.q_when (Evl.et_test (Evl.ev_op (Evl.ev_var rfl) Evl.ev_c (Evl.rv_eq rfl))) (fun hb H13 e13 => ?_) fun hb H13 e13 => ?_
      · refine ⟨_, rfl, _, rfl, (by show 3 ≤ sizeLine; decide), fun tp htp => ?_⟩
        exact fin (ds := [.str "remove", .tup wl, .int (inn : Int)]) (m12'.tx e13) htp (.cons rfl (.cons (rw4 (m112.tx e13)) (.cons rfl .nil))) (by show 3 ≤ 100000; decide) (.inr (deed_op (o := .rem inn) (x := .non) (id := 0) hz prg fnd hg pc (by show inn < rows.length; omega) fun h => nomatch h))
      have m13 := m12'.tx e13
      have m113 := m112.tx e13
      have okf : okFl r.2.2 := ((okSh_rows hz).2 r pc.hr).2
      have rf13 := rep_mv (((Mv.ex m8.z e9).tx e10).tx e11 |>.trans m1112 |>.tx e13) nS nc rf
      obtain ⟨fa, rfl⟩ : ∃ fa, fv = .ref fa := by
        cases nf with
        | zero => exact rf.elim
        | succ nf => obtain ⟨a, _, e, _⟩ := rf; exact ⟨a, e⟩
      cases nf with
      | zero => exact rf.elim
      | succ nf =>
      obtain ⟨fa', fes, efa, Pfa, hfa, _, prf⟩ := id rf13
      cases efa
      have faS : fa ≠ S ∧ fa ≠ c := ⟨fun e => nS (e ▸ Pfa), fun e => nc (e ▸ Pfa)⟩
      have lfes : fes.length = r.2.2.length := by have := pair_len prf; rw [List.length_map] at this; exact this.symm
      refine Evl.q_when (b := decide (6 < pk) && !fes.isEmpty) (Evl.et_and (Evl.et_test (Evl.ev_op (Evl.ev_var rfl) Evl.ev_c Evl.rv_I0)) fun _ => Evl.et_test (fun H14 e14 Q' q' => ⟨_, rfl, fun b hb => ⟨fa, b, fes, rfl, rfl, (e14.trans (Ex.new hb)) _ _ hfa, upd_same, q' _ (Ex.new hb)⟩⟩)) (fun hb H14 e14 => ?_) fun hb H14 e14 => ?_
      · have fe1 : 1 ≤ r.2.2.length := by
          rw [← lfes]
          cases fes with
          | nil => simp at hb
          | cons a l => rw [List.length_cons]; omega
        have m14' := m13.tx e14
        have hfa14 := e14 _ _ hfa
        have ks : fes.map (·.1) = (r.2.2.map (·.1)).map Sum.inr := by rw [pair_keys prf]; simp only [List.map_map]; rfl
        refine q_go ⟨_, rfl, fa, fes, r.2.2.map (·.1), rfl, .inl hfa14, ks, by rw [List.length_map]; have := okf.1; omega, fun ys p pm _ hp => ?_⟩
        have ep := Ex.new (o := .lst (ys.map V.str)) hp
        have pS := m14'.z.someS hp
        have m15' := m14'.tx ep
        have lys : ys.length = r.2.2.length := by rw [pm.length_eq, List.length_map]
        have l2 := okf.1
        refine dr_go (m := (fes.length : Int)) (Evl.ea_cons (Evl.ev_var rfl) (Evl.ea_cons (ev_lenK (Evl.ev_var rfl) (ep _ _ hfa14)) Evl.ea_nil)) m15'.z (by omega) (by omega) fun H16 j m1516 j0 j1 => ?_
        obtain ⟨jn, rfl⟩ := Int.eq_ofNat_of_zero_le j0
        have hj := List.getElem?_eq_getElem (l := ys) (i := jn) (by omega)
        refine ⟨p, _, (jn : Int), .str ys[jn], rfl, rfl, Evl.sq_of (m1516.fr _ _ pS.1 pS.2 upd_same), atI_nat (by rw [List.getElem?_map, hj]; rfl), ?_⟩
        have m16' := m15'.trans m1516
        have m116 := ((m113.tx e14).tx ep).trans m1516
        have ym : ys[jn] ∈ r.2.2.map (·.1) := pm.mem_iff.mp (List.getElem_mem _)
        obtain ⟨⟨fn, wsf⟩, hfm, efn⟩ := List.mem_map.mp ym
        have efn : fn = ys[jn] := efn
        rw [← efn]
        have rf16 := rep_mv ((((Mv.ex m13.z e14).tx ep).trans m1516)) nS nc rf13
        obtain ⟨fa', fes', efa, _, hfa16, _, prf16⟩ := id rf16
        cases efa
        have lkf : (r.2.2.map fun p => (p.1, D.tup (p.2.map .str))).lookup fn = some (.tup (wsf.map .str)) := by
          refine lk_of_mem ?_ (List.mem_map.mpr ⟨(fn, wsf), hfm, rfl⟩)
          rw [List.map_map]; exact okf.2.1
        obtain ⟨wv, hwv, rwv⟩ := rep_entry prf16 lkf
        obtain ⟨ta, rfl, hta⟩ := rep_words rwv
        have okw := okf.2.2 _ hfm
        have get1 : ∀ {Hx : Hp} {σ : L2.St}, Ex H16 Hx → σ[10]? = some (some (.ref fa)) → σ[12]? = some (some (.str fn)) → Ev (tDGet (tVar 10) (tVar 12)) σ Hx (.ref ta) := fun ex s1 s2 => ev_get (Evl.ev_var s1) (Evl.ev_var s2) (.inl (ex _ _ hfa16)) hwv
        refine ⟨_, rfl, _, rfl, _, rfl, get1 (Ex.refl _) rfl rfl H16 (Ex.refl _) _ fun H17 e17 => ?_⟩
        have m17 := m16'.tx e17
        refine dr_go (m := (wsf.length : Int)) (Evl.ea_cons (Evl.ev_var rfl) (Evl.ea_cons (Evl.ev_is (ev_lenL (get1 e17 rfl rfl) (.inr (Evl.st_of (e17 _ _ hta)))) (by rw [List.length_map])) Evl.ea_nil)) m17.z (by have := okw.2.1; have h : (2 : Nat) ≤ wsf.length := this; omega) (by have := okw.2.2.1; have h : wsf.length ≤ 3 := this; omega) fun H18 y m1718 y0 y1 => ?_
        obtain ⟨yn, rfl⟩ := Int.eq_ofNat_of_zero_le y0
        have hy := List.getElem?_eq_getElem (l := wsf) (i := yn) (by omega)
        refine ⟨ta, _, (yn : Int), .str wsf[yn], rfl, rfl, Evl.st_of (((Mv.ex m16'.z e17).trans m1718).tup hta), atI_nat (by rw [List.getElem?_map, hy]; rfl), (by show 5 ≤ sizeLine; decide), fun tp htp => ?_⟩
        exact fin (ds := [.str "field", .tup wl, .int (inn : Int), .str fn, .str wsf[yn]]) (m17.trans m1718) htp (.cons rfl (.cons (rw4 ((m116.tx e17).trans m1718)) (.cons rfl (.cons rfl (.cons rfl .nil))))) (by show 5 ≤ 100000; decide) (.inr (deed_field hz pc (by omega) hfm (List.getElem_mem _)))
      · have m14' := m13.tx e14
        refine ⟨_, rfl, _, rfl, dr_go (m := (xs.length : Int)) (Evl.ea_cons (Evl.ev_var rfl) (Evl.ea_cons (Evl.ev_var rfl) Evl.ea_nil)) m14'.z (by omega) (by omega) fun H15 j m1415 j0 j1 => ⟨(by show 4 ≤ sizeLine; decide), fun tp htp => ?_⟩⟩
        obtain ⟨jn, rfl⟩ := Int.eq_ofNat_of_zero_le j0
        exact fin (ds := [.str "move", .tup wl, .int (inn : Int), .int (jn : Int)]) (m14'.trans m1415) htp (.cons rfl (.cons (rw4 ((m113.tx e14).trans m1415)) (.cons rfl (.cons rfl .nil)))) (by show 4 ≤ 100000; decide) (.inr (deed_op (o := .mov inn jn) (x := .non) (id := 0) hz prg fnd hg pc (by show inn < rows.length ∧ jn < rows.length; omega) fun h => nomatch h))
end
end Pk

namespace Pk
open PySem PySem.Spec PyProof.Rows L2 Ssb
open Evl (Ex Ev EvT EvL EvA EvU)
/-! ### the deed that undoes a deed -/
section
variable {P : Program} {w : World} {K : PySem.W.Frag} {mg : Str → Option Value} {base : Heap} {C_Shape C_FORMS : Addr}
theorem at_last {α : Type} {xs : List α} {y : α} (h : xs[xs.length - 1]? = some y) : atI xs (-1) = some y := by
  have := atI_last xs.dropLast y
  rwa [cut_app h] at this
def spBk : Sp := fun vs H Q _ => ∃ (v : V) (t : Addr) (d dd be : D) (S S' : Addr → Prop), vs = [v, .ref t] ∧ Rep H 10 S d v ∧ Rep H 11 S' dd (.ref t) ∧ Back d dd be ∧ ∀ H' (q : Addr), Ex H H' → Rep H' 11 (fun b => S b ∨ S' b) be (.ref q) → Q (.ref q) H'
theorem ok__law_back (T : Txt K mg C_Shape C_FORMS) (R : Prg K mg C_Shape C_FORMS) : ∃ f fd, Fn P w K mg base "_law_back" 2 ["_law_data_here", "_law_deed_here"] spBk f fd := by
  obtain ⟨_, _, G__law_list_at⟩ := ok__law_list_at (P := P) (w := w) (base := base) T R
  obtain ⟨f, fd, at_, F, kp⟩ := R._law_back
  refine ⟨f, fd, F.ok sc__law_back (fun vs H Q E h => ?_) (fun cdv A outer s H vs Q E hr h => ?_), at_, kp, F.binds (fun _ _ _ _ _ _ us hl => match us, hl with | [_, _], _ => rfl)⟩
  · obtain ⟨v, t, d, dd, be, S, S', rfl, _⟩ := h; rfl
  · obtain ⟨v, t, d, dd, be, S, S', rfl, hv, hdd, hb, k⟩ := h
    refine ⟨_, (pss_cons (ps_if (pt_cmpR op_eq (pe_ix (r := rIxT K) ix_tup (pv 1) pe_int (fun _ _ => rfl)) pe_str (nomark _)) (pss_one (ps_ret (pv 1))) pss_nil)
  (pss_cons (ps_set (i := 2) sc__law_back.nd rfl (Or.inl rfl) (pcl G__law_list_at hr (pa_cons (pv 0) (pa_cons (pe_ix (r := rIxT K) ix_tup (pv 1) pe_int (fun _ _ => rfl)) pa_nil))))
  (pss_cons (ps_if (pt_cmpR op_eq (pe_ix (r := rIxT K) ix_tup (pv 1) pe_int (fun _ _ => rfl)) pe_str (nomark _)) (pss_one (ps_ret (pe_tup (pa_cons pe_str (pa_cons (pe_ix (r := rIxT K) ix_tup (pv 1) pe_int (fun _ _ => rfl)) pa_nil))))) pss_nil)
  (pss_cons (ps_if (pt_cmpR op_eq (pe_ix (r := rIxT K) ix_tup (pv 1) pe_int (fun _ _ => rfl)) pe_str (nomark _)) (pss_one (ps_ret (pe_tup (pa_cons pe_str (pa_cons (pe_ix (r := rIxT K) ix_tup (pv 1) pe_int (fun _ _ => rfl)) (pa_cons (pe_ix (r := rIxT K) ix_tup (pv 1) pe_int (fun _ _ => rfl)) pa_nil)))))) pss_nil)
  (pss_cons (ps_if (pt_cmpR op_eq (pe_ix (r := rIxT K) ix_tup (pv 1) pe_int (fun _ _ => rfl)) pe_str (nomark _)) (pss_one (ps_ret (pe_tup (pa_cons pe_str (pa_cons (pe_ix (r := rIxT K) ix_tup (pv 1) pe_int (fun _ _ => rfl)) (pa_cons (pe_ix (r := rIxL K) ix_list (pv 2) (pe_un un_neg pe_int) (fun _ _ => rfl)) pa_nil)))))) pss_nil)
  (pss_cons (ps_if (pt_cmpR op_eq (pe_ix (r := rIxT K) ix_tup (pv 1) pe_int (fun _ _ => rfl)) pe_str (nomark _)) (pss_one (ps_ret (pe_tup (pa_cons pe_str (pa_cons (pe_ix (r := rIxT K) ix_tup (pv 1) pe_int (fun _ _ => rfl)) (pa_cons (pe_ix (r := rIxT K) ix_tup (pv 1) pe_int (fun _ _ => rfl)) (pa_cons (pe_ix (r := rIxL K) ix_list (pv 2) (pe_ix (r := rIxT K) ix_tup (pv 1) pe_int (fun _ _ => rfl)) (fun _ _ => rfl)) pa_nil))))))) pss_nil)
  (pss_cons (ps_if (pt_cmpR op_eq (pe_ix (r := rIxT K) ix_tup (pv 1) pe_int (fun _ _ => rfl)) pe_str (nomark _)) (pss_one (ps_ret (pe_tup (pa_cons pe_str (pa_cons (pe_ix (r := rIxT K) ix_tup (pv 1) pe_int (fun _ _ => rfl)) (pa_cons (pe_ix (r := rIxT K) ix_tup (pv 1) pe_int (fun _ _ => rfl)) (pa_cons (pe_ix (r := rIxT K) ix_tup (pv 1) pe_int (fun _ _ => rfl)) pa_nil))))))) pss_nil)
  (pss_one (ps_ret (pe_tup (pa_cons pe_str (pa_cons (pe_ix (r := rIxT K) ix_tup (pv 1) pe_int (fun _ _ => rfl)) (pa_cons (pe_ix (r := rIxT K) ix_tup (pv 1) pe_int (fun _ _ => rfl)) (pa_cons (pe_ix (r := rIxT K) ix_tup (pv 1) pe_int (fun _ _ => rfl)) (pa_cons (pe_dget (hu_of hr) (pe_dget (hu_of hr) (pe_ix (r := rIxL K) ix_list (pv 2) (pe_ix (r := rIxT K) ix_tup (pv 1) pe_int (fun _ _ => rfl)) (fun _ _ => rfl)) pe_str (fun _ _ => rfl)) (pe_ix (r := rIxT K) ix_tup (pv 1) pe_int (fun _ _ => rfl)) (fun _ _ => rfl)) pa_nil))))))))))))))), ?_⟩
    have tst : ∀ {H4 H5 : Hp} {σ : L2.St} {zs : List V} {a b : Str} (r : Bool), Ex H4 H5 → H4 t = some (.tup zs) → σ[1]? = some (some (.ref t)) → zs[0]? = some (.str a) → decide (V.str a = V.str b) = r → EvT (tTest (tOp rEq (tOp (rIxT K) (tVar 1) (tC (.int 0))) (tC (.str b)))) σ H5 r := fun r e ht hs h0 hr => Evl.et_is (Evl.et_test (Evl.ev_op (Evl.ev_op (Evl.ev_var hs) Evl.ev_c (Evl.rv_ixT (Evl.st_of (e _ _ ht)) (atI_nat (j := 0) h0))) Evl.ev_c (Evl.rv_eq rfl))) hr
    have fin : ∀ {H' : Hp} {ds : List D} {xs : List V} {tp : Addr}, Ex H H' → H' tp = none → Paired (fun d x => Rep H' 10 (fun b => S b ∨ S' b) d x) ds xs → ds.length ≤ 100000 → be = .tup ds → Q (.ref tp) (upd H' tp (.tup xs)) := fun {H' ds xs tp} e ht pr l hd => k _ tp (e.trans (Ex.new ht)) (by rw [hd]; exact ⟨tp, xs, rfl, upd_same, l, pair_imp pr fun _ _ h => rep_ex (Ex.new ht) h⟩)
    have old : ∀ {H' : Hp} {n : Nat} {d : D} {x : V}, Ex H H' → n ≤ 10 → Rep H n S' d x → Rep H' 10 (fun b => S b ∨ S' b) d x := fun e l h => rep_le l (rep_S (fun b hb => .inr hb) (rep_ex e h))
    cases hb with
    | @flag x =>
      obtain ⟨a, xs, ea, ht, _, pr⟩ := id hdd
      cases ea
      cases pr with
      | cons h0 pr =>
      cases pr with
      | cons h1 pr =>
      cases pr
      have h0 := str_of h0; have h1 := str_of h1
      subst h0 h1
      refine Evl.q_when (b := true) (tst (a := "flag") (b := "flag") true (Ex.refl _) ht rfl rfl (by decide)) (fun _ H2 e2 => ?_) (fun h => nomatch h)
      exact Evl.s_ret (Evl.ev_var rfl) fun H3 e3 => k H3 t (e2.trans e3) (rep_S (fun b hb => .inr hb) (rep_ex (e2.trans e3) hdd))
    | @list w0 C l x x' o hw ho l4 h1x h2x =>
      rw [deed_form] at hdd
      obtain ⟨a, zs, ea, ht, _, pr⟩ := id hdd
      cases ea
      cases pr with
      | cons h0 pr =>
      cases pr with
      | cons h1 pr =>
      rename_i z0 _ z1 zr
      have h0 := str_of h0
      subst h0
      obtain ⟨tw, ws, rfl, htw, _, pw⟩ := id h1
      refine Evl.q_when (b := false) (tst (a := opNm o) (b := "flag") false (Ex.refl _) ht rfl rfl (opNm_flag o)) (fun h => nomatch h) (fun _ H2 e2 => ?_)
      obtain ⟨u, mu, hmu, rp, ru⟩ := where_repS hw (rep_ex e2 hv) pw
      refine q_go ⟨_, rfl, _, rfl, t, _, 1, .ref tw, rfl, rfl, Evl.st_of (e2 _ _ ht), atI_nat (j := 1) rfl, v, u, tw, ws, rfl, e2 _ _ htw, rp, fun H4 e4 => ?_⟩
      have e24 := e2.trans e4
      have ht4 := e24 _ _ ht
      cases mu with
      | zero => exact ru.elim
      | succ mu =>
      obtain ⟨c, xs, rfl, _, hc, _, prx⟩ := id ru
      have lx := pair_len prx
      have row : ∀ {H' : Hp} {y : V}, Ex H2 H' → Rep H2 mu S x' y → Rep H' 10 (fun b => S b ∨ S' b) x' y := fun e h => rep_le (by omega) (rep_S (fun b hb => .inl hb) (rep_ex e h))
      cases o with
      | app =>
        cases pr with
        | @cons _ x1 _ _ hx1 pr =>
        cases pr
        refine Evl.q_when (b := true) (tst (a := "append") (b := "append") true (Ex.refl _) ht4 rfl rfl (by decide)) (fun _ H5 e5 => ?_) (fun h => nomatch h)
        have E_5 := e24.trans e5
        have T_5 := e5 _ _ ht4
        refine ⟨_, rfl, t, _, 1, .ref tw, rfl, rfl, Evl.st_of T_5, atI_nat (j := 1) rfl, (by show 2 ≤ sizeLine; decide), fun tp htp => ?_⟩
        exact fin (ds := [.str "cut", .tup w0]) E_5 htp (.cons rfl (.cons (old E_5 (by decide) h1) .nil)) (by show 2 ≤ 100000; decide) rfl
      | ins i =>
        cases pr with
        | @cons _ xi _ _ hxi pr =>
        cases pr with
        | @cons _ x1 _ _ hx1 pr =>
        cases pr
        refine Evl.q_when (b := false) (tst (a := "insert") (b := "append") false (Ex.refl _) ht4 rfl rfl (by decide)) (fun h => nomatch h) (fun _ H5 e5 => ?_)
        have E_5 := e24.trans e5
        have T_5 := e5 _ _ ht4
        refine Evl.q_when (b := true) (tst (a := "insert") (b := "insert") true (Ex.refl _) T_5 rfl rfl (by decide)) (fun _ H6 e6 => ?_) (fun h => nomatch h)
        have E_6 := E_5.trans e6
        have T_6 := e6 _ _ T_5
        refine ⟨_, rfl, t, _, 1, .ref tw, rfl, rfl, Evl.st_of T_6, atI_nat (j := 1) rfl, _, rfl, t, _, 2, xi, rfl, rfl, Evl.st_of T_6, atI_nat (j := 2) rfl, (by show 3 ≤ sizeLine; decide), fun tp htp => ?_⟩
        exact fin (ds := [.str "remove", .tup w0, .int i]) E_6 htp (.cons rfl (.cons (old E_6 (by decide) h1) (.cons (old E_6 (by decide) hxi) .nil))) (by show 3 ≤ 100000; decide) rfl
      | cut =>
        cases pr
        refine Evl.q_when (b := false) (tst (a := "cut") (b := "append") false (Ex.refl _) ht4 rfl rfl (by decide)) (fun h => nomatch h) (fun _ H5 e5 => ?_)
        have E_5 := e24.trans e5
        have T_5 := e5 _ _ ht4
        refine Evl.q_when (b := false) (tst (a := "cut") (b := "insert") false (Ex.refl _) T_5 rfl rfl (by decide)) (fun h => nomatch h) (fun _ H6 e6 => ?_)
        have E_6 := E_5.trans e6
        have T_6 := e6 _ _ T_5
        refine Evl.q_when (b := true) (tst (a := "cut") (b := "cut") true (Ex.refl _) T_6 rfl rfl (by decide)) (fun _ H7 e7 => ?_) (fun h => nomatch h)
        have E_7 := E_6.trans e7
        have T_7 := e7 _ _ T_6
        have hx := h1x rfl
        obtain ⟨y, hy, ry⟩ := pair_at prx hx
        rw [lx] at hy
        have y1 : atI xs (-1) = some y := at_last hy
        have cE := e4.trans ((e5.trans e6).trans e7)
        refine ⟨_, rfl, t, _, 1, .ref tw, rfl, rfl, Evl.st_of T_7, atI_nat (j := 1) rfl, Evl.ev_op (Evl.ev_var rfl) (Evl.ev_un Evl.ev_c Evl.ru_neg) (Evl.rv_ixL (Evl.sq_of (cE _ _ hc)) y1) _ (Ex.refl _) _ fun H8 e8 => ⟨(by show 3 ≤ sizeLine; decide), fun tp htp => ?_⟩⟩
        exact fin (ds := [.str "append", .tup w0, x']) (E_7.trans e8) htp (.cons rfl (.cons (old (E_7.trans e8) (by decide) h1) (.cons (row (cE.trans e8) ry) .nil))) (by show 3 ≤ 100000; decide) rfl
      | rem i =>
        cases pr with
        | @cons _ xi _ _ hxi pr =>
        cases pr
        refine Evl.q_when (b := false) (tst (a := "remove") (b := "append") false (Ex.refl _) ht4 rfl rfl (by decide)) (fun h => nomatch h) (fun _ H5 e5 => ?_)
        have E_5 := e24.trans e5
        have T_5 := e5 _ _ ht4
        refine Evl.q_when (b := false) (tst (a := "remove") (b := "insert") false (Ex.refl _) T_5 rfl rfl (by decide)) (fun h => nomatch h) (fun _ H6 e6 => ?_)
        have E_6 := E_5.trans e6
        have T_6 := e6 _ _ T_5
        refine Evl.q_when (b := false) (tst (a := "remove") (b := "cut") false (Ex.refl _) T_6 rfl rfl (by decide)) (fun h => nomatch h) (fun _ H7 e7 => ?_)
        have E_7 := E_6.trans e7
        have T_7 := e7 _ _ T_6
        refine Evl.q_when (b := true) (tst (a := "remove") (b := "remove") true (Ex.refl _) T_7 rfl rfl (by decide)) (fun _ H8 e8 => ?_) (fun h => nomatch h)
        have E_8 := E_7.trans e8
        have T_8 := e8 _ _ T_7
        have exi := int_of hxi
        subst exi
        have hx := h2x i rfl
        obtain ⟨y, hy, ry⟩ := pair_at prx hx
        have y1 : atI xs (i : Int) = some y := atI_nat hy
        have cE := e4.trans (((e5.trans e6).trans e7).trans e8)
        refine ⟨_, rfl, t, _, 1, .ref tw, rfl, rfl, Evl.st_of T_8, atI_nat (j := 1) rfl, _, rfl, t, _, 2, _, rfl, rfl, Evl.st_of T_8, atI_nat (j := 2) rfl, _, rfl, _, rfl, t, _, 2, _, rfl, rfl, Evl.st_of T_8, atI_nat (j := 2) rfl, c, xs, (i : Int), y, rfl, rfl, Evl.sq_of (cE _ _ hc), y1, (by show 4 ≤ sizeLine; decide), fun tp htp => ?_⟩
        exact fin (ds := [.str "insert", .tup w0, .int i, x']) E_8 htp (.cons rfl (.cons (old E_8 (by decide) h1) (.cons (old E_8 (by decide) hxi) (.cons (row cE ry) .nil)))) (by show 4 ≤ 100000; decide) rfl
      | mov i j =>
        cases pr with
        | @cons _ xi _ _ hxi pr =>
        cases pr with
        | @cons _ xj _ _ hxj pr =>
        cases pr
        refine Evl.q_when (b := false) (tst (a := "move") (b := "append") false (Ex.refl _) ht4 rfl rfl (by decide)) (fun h => nomatch h) (fun _ H5 e5 => ?_)
        have E_5 := e24.trans e5
        have T_5 := e5 _ _ ht4
        refine Evl.q_when (b := false) (tst (a := "move") (b := "insert") false (Ex.refl _) T_5 rfl rfl (by decide)) (fun h => nomatch h) (fun _ H6 e6 => ?_)
        have E_6 := E_5.trans e6
        have T_6 := e6 _ _ T_5
        refine Evl.q_when (b := false) (tst (a := "move") (b := "cut") false (Ex.refl _) T_6 rfl rfl (by decide)) (fun h => nomatch h) (fun _ H7 e7 => ?_)
        have E_7 := E_6.trans e7
        have T_7 := e7 _ _ T_6
        refine Evl.q_when (b := false) (tst (a := "move") (b := "remove") false (Ex.refl _) T_7 rfl rfl (by decide)) (fun h => nomatch h) (fun _ H8 e8 => ?_)
        have E_8 := E_7.trans e8
        have T_8 := e8 _ _ T_7
        refine Evl.q_when (b := true) (tst (a := "move") (b := "move") true (Ex.refl _) T_8 rfl rfl (by decide)) (fun _ H9 e9 => ?_) (fun h => nomatch h)
        have E_9 := E_8.trans e9
        have T_9 := e9 _ _ T_8
        refine ⟨_, rfl, t, _, 1, .ref tw, rfl, rfl, Evl.st_of T_9, atI_nat (j := 1) rfl, _, rfl, t, _, 3, xj, rfl, rfl, Evl.st_of T_9, atI_nat (j := 3) rfl, _, rfl, t, _, 2, xi, rfl, rfl, Evl.st_of T_9, atI_nat (j := 2) rfl, (by show 4 ≤ sizeLine; decide), fun tp htp => ?_⟩
        exact fin (ds := [.str "move", .tup w0, .int j, .int i]) E_9 htp (.cons rfl (.cons (old E_9 (by decide) h1) (.cons (old E_9 (by decide) hxj) (.cons (old E_9 (by decide) hxi) .nil)))) (by show 4 ≤ 100000; decide) rfl
    | @field w0 C l i R fs f x old' hw l4 hi hR hf =>
      obtain ⟨a, zs, ea, ht, _, pr⟩ := id hdd
      cases ea
      cases pr with
      | @cons _ z0 _ _ h0 pr =>
      cases pr with
      | @cons _ z1 _ _ h1 pr =>
      cases pr with
      | @cons _ zi _ _ hzi pr =>
      cases pr with
      | @cons _ zf _ _ hzf pr =>
      cases pr with
      | @cons _ zx _ _ hzx pr =>
      cases pr
      have h0 := str_of h0
      subst h0
      obtain ⟨tw, ws, rfl, htw, _, pw⟩ := id h1
      have ei := int_of hzi
      subst ei
      have ef := str_of hzf
      subst ef
      refine Evl.q_when (b := false) (tst (a := "field") (b := "flag") false (Ex.refl _) ht rfl rfl (by decide)) (fun h => nomatch h) (fun _ H2 e2 => ?_)
      obtain ⟨u, mu, hmu, rp, ru⟩ := where_repS hw (rep_ex e2 hv) pw
      refine q_go ⟨_, rfl, _, rfl, t, _, 1, .ref tw, rfl, rfl, Evl.st_of (e2 _ _ ht), atI_nat (j := 1) rfl, v, u, tw, ws, rfl, e2 _ _ htw, rp, fun H4 e4 => ?_⟩
      have e24 := e2.trans e4
      have ht4 := e24 _ _ ht
      cases mu with
      | zero => exact ru.elim
      | succ mu =>
      obtain ⟨c, xs, rfl, _, hc, _, prx⟩ := id ru
      obtain ⟨y, hy, ry⟩ := pair_at prx hi
      obtain ⟨u1, m1, q1, kd1, r1⟩ := rep_kidS ry hR
      obtain ⟨u2, m2, q2, kd2, r2⟩ := rep_kidS r1 hf
      refine Evl.q_when (b := false) (tst (a := "field") (b := "append") false (Ex.refl _) ht4 rfl rfl (by decide)) (fun h => nomatch h) (fun _ H5 e5 => ?_)
      have E_5 := e24.trans e5
      have T_5 := e5 _ _ ht4
      refine Evl.q_when (b := false) (tst (a := "field") (b := "insert") false (Ex.refl _) T_5 rfl rfl (by decide)) (fun h => nomatch h) (fun _ H6 e6 => ?_)
      have E_6 := E_5.trans e6
      have T_6 := e6 _ _ T_5
      refine Evl.q_when (b := false) (tst (a := "field") (b := "cut") false (Ex.refl _) T_6 rfl rfl (by decide)) (fun h => nomatch h) (fun _ H7 e7 => ?_)
      have E_7 := E_6.trans e7
      have T_7 := e7 _ _ T_6
      refine Evl.q_when (b := false) (tst (a := "field") (b := "remove") false (Ex.refl _) T_7 rfl rfl (by decide)) (fun h => nomatch h) (fun _ H8 e8 => ?_)
      have E_8 := E_7.trans e8
      have T_8 := e8 _ _ T_7
      refine Evl.q_when (b := false) (tst (a := "field") (b := "move") false (Ex.refl _) T_8 rfl rfl (by decide)) (fun h => nomatch h) (fun _ H9 e9 => ?_)
      have E_9 := E_8.trans e9
      have T_9 := e9 _ _ T_8
      have cE := e4.trans ((((e5.trans e6).trans e7).trans e8).trans e9)
      have gy : ∀ {H' : Hp} {σ : L2.St}, Ex H9 H' → σ[1]? = some (some (.ref t)) → σ[2]? = some (some (.ref c)) → Ev (tDGet (tDGet (tOp (rIxL K) (tVar 2) (tOp (rIxT K) (tVar 1) (tC (.int 2)))) (tC (.str "fields"))) (tOp (rIxT K) (tVar 1) (tC (.int 3)))) σ H' u2 := fun e s1 s2 => ev_kid (ev_kid (Evl.ev_op (Evl.ev_var s2) (Evl.ev_op (Evl.ev_var s1) Evl.ev_c (Evl.rv_ixT (Evl.st_of (e _ _ T_9)) (atI_nat (j := 2) rfl))) (Evl.rv_ixL (Evl.sq_of ((cE.trans e) _ _ hc)) (atI_nat hy))) Evl.ev_c (kd1.ex (cE.trans e))) (Evl.ev_op (Evl.ev_var s1) Evl.ev_c (Evl.rv_ixT (Evl.st_of (e _ _ T_9)) (atI_nat (j := 3) rfl))) (kd2.ex (cE.trans e))
      refine ⟨_, rfl, t, _, 1, .ref tw, rfl, rfl, Evl.st_of T_9, atI_nat (j := 1) rfl, _, rfl, t, _, 2, _, rfl, rfl, Evl.st_of T_9, atI_nat (j := 2) rfl, _, rfl, t, _, 3, _, rfl, rfl, Evl.st_of T_9, atI_nat (j := 3) rfl, gy (Ex.refl _) rfl rfl H9 (Ex.refl _) _ fun H10 e10 => ⟨(by show 5 ≤ sizeLine; decide), fun tp htp => ?_⟩⟩
      have E10 := E_9.trans e10
      exact fin (ds := [.str "field", .tup w0, .int i, .str f, old']) E10 htp (.cons rfl (.cons (old E10 (by decide) h1) (.cons rfl (.cons rfl (.cons (rep_le (by omega) (rep_S (fun b hb => .inl hb) (rep_ex (cE.trans e10) r2))) .nil))))) (by show 5 ≤ 100000; decide) rfl
end
end Pk

namespace Pk
open PySem PySem.Spec PyProof.Rows L2 Ssb
open Evl (Ex Ev EvT EvL EvA EvU)
/-! ### the law: pure facts -/
theorem pair_map {α β : Type} {F : β → α → Prop} {f : α → β} : ∀ {l : List α}, (∀ a ∈ l, F (f a) a) → Paired F (l.map f) l
  | [], _ => .nil
  | a :: l, h => .cons (h a List.mem_cons_self) (pair_map fun x hx => h x (List.mem_cons_of_mem _ hx))
theorem shD_ls (z : Sh) : shD (lsD z) z := by
  refine ⟨lsL z, rfl, pair_map fun p hp => ⟨rfl, _, inL p.2.2, rfl, rfl, el_f, el_i, pair_map fun q hq => ⟨rfl, _, rfl, rfl, el_f (i := []), el_i⟩⟩⟩
theorem kn_flD {f : Fl} (h : okFl f) : ∀ n, kn n (flD f)
  | 0 => trivial
  | n + 1 => by
    refine ⟨?_, fun p hp => ?_⟩
    · rw [List.map_map]; exact h.2.1
    · obtain ⟨q, _, rfl⟩ := List.mem_map.mp hp
      cases n with
      | zero => trivial
      | succ n =>
        intro x hx
        obtain ⟨s, _, rfl⟩ := List.mem_map.mp hx
        cases n <;> trivial
theorem fi_nd {d1 d2 : D} : ([(("fields" : Str), d1), ("inner", d2)].map (·.1)).Nodup := by
  show [("fields" : Str), "inner"].Nodup
  decide +kernel
theorem kn_el {f : Fl} {d : D} (h : okFl f) (hd : ∀ n, kn n d) : ∀ n, kn n (.dic [("fields", flD f), ("inner", d)])
  | 0 => trivial
  | n + 1 => ⟨fi_nd, fun p hp => by
    rcases List.mem_cons.mp hp with rfl | hp
    · exact kn_flD h n
    · rw [List.mem_singleton.mp hp]; exact hd n⟩
theorem kn_ls {z : Sh} (hz : okSh z) : ∀ n, kn n (lsD z)
  | 0 => trivial
  | n + 1 => by
    refine ⟨by rw [lsL_names]; exact sh_names hz, fun p hp => ?_⟩
    obtain ⟨q, hq, rfl⟩ := List.mem_map.mp hp
    obtain ⟨_, okf, i1, iok⟩ := hz.2.2 q hq
    refine kn_el okf (fun n => ?_) n
    cases n with
    | zero => trivial
    | succ n =>
      refine ⟨?_, fun p hp => ?_⟩
      · rw [inL_names]
        match q.2.2, i1 with
        | [], _ => exact List.nodup_nil
        | [x], _ => simp
      · obtain ⟨q2, hq2, rfl⟩ := List.mem_map.mp hp
        refine kn_el (iok q2 hq2).2 (fun n => ?_) n
        cases n with
        | zero => trivial
        | succ n => exact ⟨List.nodup_nil, fun p hp => nomatch hp⟩
theorem knN : ∀ {n : Nat} {d : D}, kn n d → kN n d
  | 0, d, _ => by cases d <;> trivial
  | n + 1, .non, _ => trivial
  | n + 1, .bl _, _ => trivial
  | n + 1, .int _, _ => trivial
  | n + 1, .str _, _ => trivial
  | n + 1, .lst l, h => fun x hx => knN (h x hx)
  | n + 1, .tup l, h => fun x hx => knN (h x hx)
  | n + 1, .dic l, h => ⟨h.1, fun p hp => knN (h.2 p hp)⟩
theorem fits_perm {z : Sh} {fl fl' : List Str} {d dd : D} (p : fl'.Perm fl) (h : Fits z fl d dd) : Fits z fl' d dd := by
  cases h with
  | flag hx => exact .flag (p.mem_iff.mpr hx)
  | list o h1 h2 h3 h4 h5 => exact .list o h1 h2 h3 h4 h5
  | field h1 h2 h3 h4 h5 h6 h7 => exact .field h1 h2 h3 h4 h5 h6 h7
theorem okD_perm {z : Sh} {fl fl' : List Str} {d : D} (p : fl'.Perm fl) (h : okD fl z d) : okD fl' z d := by
  obtain ⟨l, fgs, ls, h1, h2, h3, h4, h5, h6⟩ := h
  exact ⟨l, fgs, ls, h1, h2, h3, by rw [h4, p.length_eq], fun x hx => h5 x (p.mem_iff.mp hx), h6⟩
theorem where_two {d : D} {w : List D} {C : D → D} {l : List D} (h : Where d w C l) (n : Nat) : kn n (.tup w) := by
  cases n with
  | zero => trivial
  | succ n =>
    intro x hx
    rcases h with ⟨nm, L, i, ls, j, rfl, _⟩ | ⟨n1, nm, m, L, i, ls, j, rs, k0, R, p, ls2, q, rfl, _⟩
    · rw [List.mem_singleton.mp hx]; cases n <;> trivial
    · rcases List.mem_cons.mp hx with rfl | hx
      · cases n <;> trivial
      rcases List.mem_cons.mp hx with rfl | hx
      · cases n <;> trivial
      rw [List.mem_singleton.mp hx]; cases n <;> trivial
theorem does_kn {d dd d' : D} (h : Does d dd d') : kn 11 dd := by
  have s : ∀ x : Str, kn 10 (.str x) := fun _ => trivial
  have i : ∀ x : Int, kn 10 (.int x) := fun _ => trivial
  cases h with
  | flag => intro x hx; rcases List.mem_cons.mp hx with rfl | hx; exact s _; rw [List.mem_singleton.mp hx]; exact s _
  | list o hw _ _ hn =>
    have w := where_two hw 10
    cases o with
    | app =>
      intro x hx
      rcases List.mem_cons.mp hx with rfl | hx; exact s _
      rcases List.mem_cons.mp hx with rfl | hx; exact w
      rw [List.mem_singleton.mp hx]; exact pl_kn (hn rfl).1
    | ins j =>
      intro x hx
      rcases List.mem_cons.mp hx with rfl | hx; exact s _
      rcases List.mem_cons.mp hx with rfl | hx; exact w
      rcases List.mem_cons.mp hx with rfl | hx; exact i _
      rw [List.mem_singleton.mp hx]; exact pl_kn (hn rfl).1
    | cut =>
      intro x hx
      rcases List.mem_cons.mp hx with rfl | hx; exact s _
      rw [List.mem_singleton.mp hx]; exact w
    | rem j =>
      intro x hx
      rcases List.mem_cons.mp hx with rfl | hx; exact s _
      rcases List.mem_cons.mp hx with rfl | hx; exact w
      rw [List.mem_singleton.mp hx]; exact i _
    | mov j k =>
      intro x hx
      rcases List.mem_cons.mp hx with rfl | hx; exact s _
      rcases List.mem_cons.mp hx with rfl | hx; exact w
      rcases List.mem_cons.mp hx with rfl | hx; exact i _
      rw [List.mem_singleton.mp hx]; exact i _
  | field hw =>
    have w := where_two hw 10
    intro x hx
    rcases List.mem_cons.mp hx with rfl | hx; exact s _
    rcases List.mem_cons.mp hx with rfl | hx; exact w
    rcases List.mem_cons.mp hx with rfl | hx; exact i _
    rcases List.mem_cons.mp hx with rfl | hx; exact s _
    rw [List.mem_singleton.mp hx]; exact s _
theorem deed_two {z : Sh} {fl : List Str} {pool : List Int} {d dd : D} (h : dd = flagNone ∨ Deed z fl pool d dd) : ∃ s0 e rest, dd = .tup (.str s0 :: e :: rest) ∧ ((∃ s, e = .str s) ∨ ∃ w, e = .tup w) := by
  rcases h with rfl | ⟨_, _, h, _⟩
  · exact ⟨_, _, _, rfl, .inl ⟨_, rfl⟩⟩
  · cases h with
    | flag hx => exact ⟨_, _, _, rfl, .inl ⟨_, rfl⟩⟩
    | list o => rw [deed_form]; exact ⟨_, _, _, rfl, .inr ⟨_, rfl⟩⟩
    | field => exact ⟨_, _, _, rfl, .inr ⟨_, rfl⟩⟩
/-- the deeds that lead back to the first data -/
def Trail (z : Sh) (fl : List Str) (pool : List Int) (d0 : D) (bs : List D) : Nat → D → Prop
  | 0, d => d = d0
  | n + 1, d => ∃ be d', bs[n]? = some be ∧ Fits z fl d be ∧ Does d be d' ∧ GD z fl pool d' ∧ Trail z fl pool d0 bs n d'
theorem trail_app {z : Sh} {fl : List Str} {pool : List Int} {d0 : D} {bs : List D} {b : D} : ∀ {n : Nat} {d : D}, Trail z fl pool d0 bs n d → Trail z fl pool d0 (bs ++ [b]) n d
  | 0, _, h => h
  | n + 1, d, ⟨be, d', h1, h2, h3, h4, h5⟩ => ⟨be, d', by rw [List.getElem?_append_left (List.getElem?_eq_some_iff.mp h1).1]; exact h1, h2, h3, h4, trail_app h5⟩
end Pk

namespace Pk
open PySem PySem.Spec PyProof.Rows L2 Ssb
open Evl (Ex Ev EvT EvL EvA EvU)
/-! ### the law -/
section
variable {X : Cx} {nm : Str} {k j : Nat} {ps : List Str} {sp : Sp} {f : Addr} {fd : FuncData} {p pos : Pos} {e : Expr} {es : List Expr} {t : TA} {C : Addr}
theorem pmk (G : Mt X.prog X.w X.K X.mg X.base C "__init__" k ps sp f fd) (h1 : PySem.W.makesIn X.K C = true) (h2 : PySem.W.keepIn X.K (.ref C) = true) (h3 : X.mg nm = some (.ref C)) (hr : Room j X.A) (ha : PA X (e :: es) t) (hj : k + 1 ≤ j := by first | decide | omega) (hg : Gl X nm := by rfl) (hdb : (nm == ("__debug__" : Str)) = false := by decide)
    (he : starEach (e :: es) X.env = (false, eval e X.env) :: starEach es X.env := by rfl) (hpl : (backTo pos (starEach es X.env)).any (·.1) = false := by rfl) : PE X (.Call (.Name nm p) (e :: es) [] pos) (tMake C sp [] E0 t) :=
  pe_make ⟨h1, G.mt.at_, G.mt.fn, h2⟩ G.ok (hr.mono hj) hg h3 G.bd .nil pass0 ha hdb he hpl
end
theorem main_ok {l : PySem.W.OpenLaw} {w : World} {K : PySem.W.Frag} {mg : Str → Option Value} {fa C_Shape C_FORMS : Addr} (T : Txt K mg C_Shape C_FORMS) (R : Prg K mg C_Shape C_FORMS) (hfa : mg "law" = some (.ref fa)) :
    ∃ fd : FuncData, (∀ (s : Shared) (v : Value), BindsTo s fd ⟨[v], []⟩ [("_law_script", v)]) ∧ ∀ base : Heap, K.In base → base.Ns mainGlobals mg → FnOk l.prog w K mg base CX0 60 fa fd ["_law_script"] (spLaw K) := by
  obtain ⟨f, fd, at_, F, kp⟩ := R.law
  have e := hfa.symm.trans at_
  cases e
  obtain ⟨oc, od, kV, doc, pm, an, cdv0, ct, osl, rfl, lk, hcd⟩ := F.ex
  refine ⟨PySem.W.fnOf "law" "law" (defArgs s_law) (defBody s_law) (defScope s_law) .none kV doc pm an cdv0 ct, fun s v => .of_eq rfl, fun base _ _ => ?_⟩
  obtain ⟨_, _, G__law_open⟩ := ok__law_open (P := l.prog) (w := w) (base := base) T R
  obtain ⟨_, _, G__law_draw⟩ := ok__law_draw (P := l.prog) (w := w) (base := base) T R
  obtain ⟨_, _, G__law_rich⟩ := ok__law_rich (P := l.prog) (w := w) (base := base) T R
  obtain ⟨_, _, G__law_pool⟩ := ok__law_pool (P := l.prog) (w := w) (base := base) T R
  obtain ⟨_, _, G__law_data⟩ := ok__law_data (P := l.prog) (w := w) (base := base) T R
  obtain ⟨_, _, G_Shape⟩ := ok_Shape_init (P := l.prog) (w := w) (base := base) T R
  obtain ⟨_, _, G__law_copy⟩ := ok__law_copy (P := l.prog) (w := w) (base := base) T R 11
  obtain ⟨_, _, G__law_copy10⟩ := ok__law_copy (P := l.prog) (w := w) (base := base) T R 10
  obtain ⟨_, _, G__law_deed⟩ := ok__law_deed (P := l.prog) (w := w) (base := base) T R
  obtain ⟨_, _, G__law_back⟩ := ok__law_back (P := l.prog) (w := w) (base := base) T R
  obtain ⟨_, _, G_check⟩ := ok_check (P := l.prog) (w := w) (base := base) T R
  obtain ⟨_, _, G_rows_in⟩ := ok_rows_in (P := l.prog) (w := w) (base := base) T R 3
  obtain ⟨_, _, G_apply⟩ := ok_apply (P := l.prog) (w := w) (base := base) T R
  refine F.ok sc_law (fun vs H Q E h => ?_) (fun cdv A outer s H vs Q E hr h => ?_)
  · obtain ⟨a, ns, rfl, _⟩ := h; rfl
  · obtain ⟨a, ns, rfl, hs, ns63, k⟩ := h
    refine ⟨_, (pss_cons (ps_set (i := 1) sc_law.nd rfl (Or.inl rfl) (pcl G__law_open hr (pa_cons (pv 0) pa_nil)))
  (pss_cons (ps_set (i := 2) sc_law.nd rfl (Or.inl rfl) (pcl G__law_rich hr (pa_cons (pv 1) pa_nil)))
  (pss_cons (ps_set (i := 3) sc_law.nd rfl (Or.inl rfl) (pcl G__law_pool hr (pa_cons (pv 1) pa_nil)))
  (pss_cons (ps_set (i := 4) sc_law.nd rfl (Or.inl rfl) (pcl G__law_data hr (pa_cons (pv 1) (pa_cons (pe_ix (r := rIxL K) ix_list (pv 2) pe_int (fun _ _ => rfl)) (pa_cons (pe_ix (r := rIxL K) ix_list (pv 2) pe_int (fun _ _ => rfl)) (pa_cons pe_int (pa_cons (pv 3) pa_nil)))))))
  (pss_cons (ps_set (i := 5) sc_law.nd rfl (Or.inl rfl) (pmk G_Shape T.mk_Shape T.kp_Shape T.at_Shape hr (pa_cons (pe_callTy (r := rListA K) call_list_of (by rfl) T.list (by decide +kernel) (pa_cons (pe_ix (r := rIxL K) ix_list (pv 2) pe_int (fun _ _ => rfl)) pa_nil)) (pa_cons (pcl G__law_copy hr (pa_cons (pe_ix (r := rIxL K) ix_list (pv 2) pe_int (fun _ _ => rfl)) pa_nil)) pa_nil))))
  (pss_cons (ps_set (i := 6) sc_law.nd rfl (Or.inl rfl) (pcl G__law_copy10 hr (pa_cons (pv 4) pa_nil)))
  (pss_cons (ps_set (i := 7) sc_law.nd rfl (Or.inl rfl) (pe_lst pa_nil))
  (pss_cons (ps_for PassesOwn.never rfl (pi_range1 (by rfl) T.range (pa_cons (pcl G__law_draw hr (pa_cons (pv 1) (pa_cons pe_int pa_nil))) pa_nil)) (pg_name (i := 8) sc_law.nd rfl (Or.inl rfl))
    (pss_cons (ps_set (i := 9) sc_law.nd rfl (Or.inl rfl) (pcl G__law_deed hr (pa_cons (pv 1) (pa_cons (pe_ix (r := rIxL K) ix_list (pv 2) pe_int (fun _ _ => rfl)) (pa_cons (pe_ix (r := rIxL K) ix_list (pv 2) pe_int (fun _ _ => rfl)) (pa_cons (pv 6) (pa_cons (pv 3) pa_nil)))))))
  (pss_cons (ps_if (pt_cmpR (r := rEqHd) (op_eqHd hr.units) (pv 9) (pe_tup (pa_cons pe_str (pa_cons pe_str pa_nil))) (nomark _)) (pss_one (ps_ret pe_bl)) pss_nil)
  (pss_cons (ps_set (i := 10) sc_law.nd rfl (Or.inl rfl) (pcl G__law_back hr (pa_cons (pv 6) (pa_cons (pv 9) pa_nil))))
  (pss_cons (ps_expr (show PE _ _ (tBM K _ _ _ _) from pe_bm PySem.F.plainAttrs_list PySem.F.slot_list_append PySem.F.type_list_append mt_append (pv 7) (pa_cons (pv 10) pa_nil)))
  (pss_cons (ps_set (i := 11) sc_law.nd rfl (Or.inl rfl) (pcl G_apply hr (pa_cons (pv 5) (pa_cons (pv 6) (pa_cons (pv 9) pa_nil)))))
  (pss_cons (ps_if (PW.pt (pw_or (pt_cmpR op_notN (pcl G_check hr (pa_cons (pv 5) (pa_cons (pv 11) pa_nil))) pe_non (nomark _)) (pw_or1 (pt_cmpR (r := rNeDT) (op_neDT hr.units) (pcl G_apply hr (pa_cons (pv 5) (pa_cons (pv 11) (pa_cons (pv 10) pa_nil)))) (pv 6) (nomark _))))) pss_never pss_nil)
  (pss_cons (ps_set (i := 12) sc_law.nd rfl (Or.inl rfl) (pe_op op_sub (pcl G_rows_in hr (pa_cons (pv 11) pa_nil)) (pcl G_rows_in hr (pa_cons (pv 6) pa_nil))))
  (pss_cons (ps_if (PW.pt (pw_and (pt_cmpR (r := rIn K false) op_in_seq (pe_ix (r := rIxT K) ix_tup (pv 9) pe_int (fun _ _ => rfl)) (pe_lst (pa_cons pe_str (pa_cons pe_str pa_nil))) (by rfl)) (pw_and1 (pt_cmpR op_lt (pv 12) pe_int (nomark _))))) pss_never pss_nil)
  (pss_cons (ps_if (PW.pt (pw_and (pt_cmpR (r := rIn K false) op_in_seq (pe_ix (r := rIxT K) ix_tup (pv 9) pe_int (fun _ _ => rfl)) (pe_lst (pa_cons pe_str (pa_cons pe_str pa_nil))) (by rfl)) (pw_and1 (pt_cmpR op_gt (pv 12) (pe_un un_neg pe_int) (nomark _))))) pss_never pss_nil)
  (pss_cons (ps_if (PW.pt (pw_and (pt_cmpR (r := rIn K false) op_in_seq (pe_ix (r := rIxT K) ix_tup (pv 9) pe_int (fun _ _ => rfl)) (pe_lst (pa_cons pe_str (pa_cons pe_str (pa_cons pe_str pa_nil)))) (by rfl)) (pw_and1 (pt_cmpR op_ne (pv 12) pe_int (nomark _))))) pss_never pss_nil)
  (pss_one (ps_set (i := 6) sc_law.nd rfl (Or.inl rfl) (pv 11))))))))))))))
  (pss_cons (ps_for PassesOwn.never rfl (pi_range1 (by rfl) T.range (pa_cons (pe_callB (r := rLenA K) call_len (by rfl) T.len (by decide +kernel) (pa_cons (pv 7) pa_nil)) pa_nil)) (pg_name (i := 8) sc_law.nd rfl (Or.inl rfl))
    (pss_one (ps_set (i := 6) sc_law.nd rfl (Or.inl rfl) (pcl G_apply hr (pa_cons (pv 5) (pa_cons (pv 6) (pa_cons (pe_ix (r := rIxL K) ix_list (pv 7) (pe_op op_sub (pe_op op_sub (pe_callB (r := rLenA K) call_len (by rfl) T.len (by decide +kernel) (pa_cons (pv 7) pa_nil)) pe_int) (pv 8)) (fun _ _ => rfl)) pa_nil)))))))
  (pss_one (ps_ret (pe_cmpR (r := rEqT) (op_eqT hr.units) (pv 6) (pv 4) (nomark _))))))))))))), ?_⟩
    refine q_go ⟨_, rfl, a, ns, rfl, hs, ns63, fun H1 S c st => ?_⟩
    refine q_go ⟨_, rfl, S, c, rfl, st, fun H2 q qf ql fl z m2 hq0 hqf0 hq hqf f2 fnd fW rsh hz => ?_⟩
    refine q_go ⟨_, rfl, S, c, rfl, m2.z, fun H3 pa pool m3 hpa0 hpa pnd prg pl12 => ?_⟩
    have nS1 : ¬ H1 S = none := fun h => (st.someS h).1 rfl
    have nc1 : ¬ H1 c = none := fun h => (st.someS h).2 rfl
    have qS := st.someS hq0
    have qfS := st.someS hqf0
    have paS := m2.z.someS hpa0
    have m13 := m2.trans m3
    have rsh2 := rep_dom rsh
    have npa : ¬ (H1 pa = none ∧ H2 pa ≠ none) := fun h => h.2 hpa0
    have nS : ¬ (H1 S = none ∧ H2 S ≠ none) := fun h => nS1 h.1
    have nc : ¬ (H1 c = none ∧ H2 c ≠ none) := fun h => nc1 h.1
    have al : ∀ {Hx : Hp}, Mv S c H2 Hx → ∀ b, (H1 b = none ∧ H2 b ≠ none) → Hx b ≠ none := fun m b hb z0 => hb.2 (m.back z0)
    have hq3 := m3.fr _ _ qS.1 qS.2 hq
    have hqf3 := m3.fr _ _ qfS.1 qfS.2 hqf
    have rsh3 := rep_mv m3 nS nc rsh2
    refine q_go ⟨_, rfl, _, rfl, q, _, 0, .ref qf, rfl, rfl, Evl.sq_of hq3, rfl, _, rfl, q, _, 1, .ref ql, rfl, rfl, Evl.sq_of hq3, rfl, _, rfl, S, c, qf, pa, .ref ql, 6, (fun b => H1 b = none ∧ H2 b ≠ none), z, fl, pool, rfl, m3.z, hqf3, qfS.1, qfS.2, fnd, f2, rsh3, nS, nc, al m3, hz, hpa, paS.1, paS.2, npa, pl12, pnd, fun H4 p4 d0 m4 rd0 gd0 => ?_⟩
    have m14 := m13.trans m4
    have m24 := m3.trans m4
    have hq4 := m4.fr _ _ qS.1 qS.2 hq3
    have hqf4 := m4.fr _ _ qfS.1 qfS.2 hqf3
    have rsh4 := rep_mv m4 nS nc rsh3
    have hpa4 := m4.fr _ _ paS.1 paS.2 hpa
    -- the shape
    refine q_go ⟨_, rfl, q, _, 0, .ref qf, rfl, rfl, Evl.sq_of hq4, rfl, qf, _, rfl, .inl (Evl.sq_of hqf4), fun lf hlf => ⟨_, rfl, q, _, 1, .ref ql, rfl, rfl, Evl.sq_of (Ex.new hlf _ _ hq4), rfl, .ref ql, _, lsD z, rfl, rep_le (by decide) (rep_ex (Ex.new hlf) rsh4), kn_ls hz 11, fun H5 sv e5 rsv => ?_⟩⟩
    have e45 := (Ex.new (o := .lst (fl.map V.str)) hlf).trans e5
    have hlf5 := e5 _ _ upd_same
    intro x dx hx hdx nxd
    have old : ∀ b o, H5 b = some o → (upd (upd H5 dx (.own x)) x (.ins C_Shape dx [])) b = some o := fun b o h => by
      have n1 : b ≠ x := fun e => by rw [e, hx] at h; cases h
      have n2 : b ≠ dx := fun e => by rw [e, hdx] at h; cases h
      rw [upd_ne n1, upd_ne n2]; exact h
    refine ⟨x, dx, lf, fl, sv, 11, _, lsD z, z, rfl, upd_same, old _ _ hlf5, f2, fW, fnd, rep_ex old (rep_dom rsv), shD_ls z, hz, fun h => h.2 hx, fun H6 fl' fr6 permf so hS6 => ⟨rfl, ?_⟩⟩
    have e56 : Ex H5 H6 := fun b o h => fr6 b o (fun e => by rw [e, hx] at h; cases h) (old _ _ h)
    have m46 := Mv.ex m4.z (e45.trans e56)
    have m16 := m14.trans m46
    have m26 := m24.trans m46
    have hq6 := m46.fr _ _ qS.1 qS.2 hq4
    have hqf6 := m46.fr _ _ qfS.1 qfS.2 hqf4
    have rsh6 := rep_mv m46 nS nc rsh4
    have hpa6 := m46.fr _ _ paS.1 paS.2 hpa4
    have rd6 := rep_mv (m46) nS1 nc1 (rep_S (fun b hb => m13.back hb) rd0)
    have rd6 : Rep H6 10 (fun b => H1 b = none) d0 (.ref p4) := rep_le (by decide) rd6
    have gok0 := GD_ok hz prg fnd gd0
    dsimp only
    obtain ⟨dx', ft, tb, hS1, hS2, hS3⟩ := hS6
    have n56 : ∀ b, (upd (upd H5 dx (.own x)) x (.ins C_Shape dx [])) b = none → H5 b = none := fun b hb => by
      cases h : H5 b with
      | none => rfl
      | some o => rw [old _ _ h] at hb; cases hb
    have m45 := Mv.ex m4.z e45
    have xS := m45.z.someS hx
    have shp : ∀ {Hx : Hp}, Mv S c H6 Hx → ShapeAt C_Shape Hx x fl' z (fun b => (upd (upd H5 dx (.own x)) x (.ins C_Shape dx [])) b = none) := fun {Hx} mm => ⟨dx', ft, tb, mm.fr _ _ xS.1 xS.2 hS1, mm.tup hS2, rep_mv mm (fun z => (m45.z.someS (n56 _ z)).1 rfl) (fun z => (m45.z.someS (n56 _ z)).2 rfl) hS3⟩
    clear hdx hx old rsv nxd hlf5
    have f2' : fl'.length ≤ 2 := by rw [permf.length_eq]; exact f2
    have fnd' : fl'.Nodup := permf.nodup_iff.mpr fnd
    -- the copy of the data, the trail
    refine q_go ⟨_, rfl, .ref p4, _, d0, rfl, rd6, pl_kn gok0.2.1, fun H7 v60 e67 r60 => ?_⟩
    have m67 := Mv.ex m16.z e67
    have m17 := m16.trans m67
    refine q_go ⟨(by show 0 ≤ sizeLine; decide), fun tr htr => ?_⟩
    have trS := m17.z.someS htr
    have e78 : Ex H7 (upd H7 tr (.lst [])) := Ex.new htr
    have rd60 : Rep (upd H7 tr (.lst [])) 10 (fun b => H1 b = none ∧ b ≠ tr) d0 v60 := rep_S (fun b hb => ⟨m16.back hb.1, fun e => hb.2 (by rw [e]; exact htr)⟩) (rep_ex e78 (rep_dom r60))
    have nA : ¬ (H1 S = none ∧ S ≠ tr) := fun h => nS1 h.1
    have nAc : ¬ (H1 c = none ∧ c ≠ tr) := fun h => nc1 h.1
    refine q_seq (dr_go (m := 41) (Evl.ea_cons (Evl.ev_var rfl) (Evl.ea_cons Evl.ev_c Evl.ea_nil)) (m17.tx e78).z (by decide) (by decide) fun H9 cnt m89 c0 c1 => ⟨cnt, rfl, by omega, by omega, ?_⟩)
    refine for_it walk_range (fun i σ' Hx => ∃ (v6 : V) (d : D) (bs : List D) (xs : List V) (o8 o9 o10 o11 o12 : Option V), σ' = [some (.ref a), some (.ref S), some (.ref q), some (.ref pa), some (.ref p4), some (.ref x), some v6, some (.ref tr), o8, o9, o10, o11, o12] ∧ Mv S c H7 Hx ∧ Hx tr = some (.lst xs) ∧ Paired (fun be v => Rep Hx 11 (fun b => H1 b = none ∧ b ≠ tr) be v) bs xs ∧ bs.length ≤ i ∧ Rep Hx 10 (fun b => H1 b = none ∧ b ≠ tr) d v6 ∧ GD z fl pool d ∧ Trail z fl pool d0 bs bs.length d)
      ⟨_, d0, [], [], _, _, _, _, _, rfl, (Mv.ex m17.z e78).trans m89, m89.fr _ _ trS.1 trS.2 upd_same, .nil, Nat.zero_le _, rep_mv m89 nA nAc rd60, gd0, rfl⟩ (fun _ _ _ _ _ => trivial) (fun i y σ' H0 Hx hi pv yy => ?_) fun σ' Hx pv => ?_
    · obtain ⟨v6, d, bs, xs, o8, o9, o10, o11, o12, rfl, mx7, htrx, prx, lbs, rd, gd, tl⟩ := pv
      obtain ⟨rfl, rfl⟩ := yy
      refine gname_go ?_
      have lxs := pair_len prx
      have m6x := m67.trans mx7
      have m1x := m17.trans mx7
      have m4x := m46.trans m6x
      have m2x := m24.trans m4x
      have hqx := m4x.fr _ _ qS.1 qS.2 hq4
      obtain ⟨okd, pld, wfd, _⟩ := GD_ok hz prg fnd gd
      refine q_go ⟨_, rfl, _, rfl, q, _, 0, .ref qf, rfl, rfl, Evl.sq_of hqx, rfl, _, rfl, q, _, 1, .ref ql, rfl, rfl, Evl.sq_of hqx, rfl, _, rfl, _, rfl, S, c, qf, pa, .ref ql, v6, 6, (fun b => H1 b = none ∧ H2 b ≠ none), (fun b => H1 b = none ∧ b ≠ tr), z, fl, pool, d, rfl, mx7.z, m4x.fr _ _ qfS.1 qfS.2 hqf4, qfS.1, qfS.2, fnd, f2, .of (rep_mv m4x nS nc rsh4), nS, nc, al m2x, hz, m4x.fr _ _ paS.1 paS.2 hpa4, paS.1, paS.2, npa, pl12, pnd, prg, rd, nA, nAc, gd, fun H8 t dd m8 rdd hdd => ?_⟩
      obtain ⟨s0, e1, rest, edd, he1⟩ := deed_two hdd
      have rdd0 := rdd
      rw [edd] at rdd0
      obtain ⟨t', ys, et, ht, _, pys⟩ := rdd0
      cases et
      obtain ⟨y0, ys, rfl, hy0, pys⟩ : ∃ y0 ys', ys = y0 :: ys' ∧ Rep H8 10 (fun b => Hx b = none) (.str s0) y0 ∧ Paired (fun d x => Rep H8 10 (fun b => Hx b = none) d x) (e1 :: rest) ys' := by
        cases pys with
        | cons h p => exact ⟨_, _, rfl, h, p⟩
      obtain ⟨y1, ys, rfl, hy1, pys⟩ : ∃ y1 ys', ys = y1 :: ys' ∧ Rep H8 10 (fun b => Hx b = none) e1 y1 ∧ Paired (fun d x => Rep H8 10 (fun b => Hx b = none) d x) rest ys' := by
        cases pys with
        | cons h p => exact ⟨_, _, rfl, h, p⟩
      rw [str_of hy0] at ht
      have hy1' : (∃ s1, y1 = .str s1) ∨ ∃ c ws, y1 = .ref c ∧ H8 c = some (.tup ws) := by
        rcases he1 with ⟨s1, rfl⟩ | ⟨w1, rfl⟩
        · exact .inl ⟨s1, str_of hy1⟩
        · obtain ⟨c1, ws1, e, h, _⟩ := hy1
          exact .inr ⟨c1, ws1, e, h⟩
      refine Evl.q_when (b := decide (s0 = "flag") && decide (y1 = .str "none") && ys.isEmpty) (Evl.et_test (Evl.ev_opU (xs := [.str "flag", .str "none"]) (Evl.ev_var rfl) (Evl.eu_tup (Evl.ea_cons Evl.ev_c (Evl.ea_cons Evl.ev_c Evl.ea_nil)) (by show 2 ≤ 100000; decide)) fun p Hp hp ep => fun Hq eq Q' q' => ⟨t, p, s0, "flag", "none", y1, ys, rfl, rfl, (ep.trans eq) _ _ ht, eq _ _ hp, hy1'.imp id (fun ⟨c1, w1, e, h⟩ => ⟨c1, w1, e, (ep.trans eq) _ _ h⟩), q' _ (Ex.refl _)⟩)) (fun hb H9 e9 => Evl.s_ret Evl.ev_c fun H10 _ => k _) fun hb H9 e9 => ?_
      have hD : Deed z fl pool d dd := by
        rcases hdd with rfl | h
        · exfalso
          have edd' : D.tup [.str "flag", .str "none"] = .tup (.str s0 :: e1 :: rest) := edd
          cases edd'
          have e9 : y1 = .str "none" := str_of hy1
          match ys, pys with
          | [], _ =>
            rw [e9] at hb
            simp at hb
        · exact h
      obtain ⟨d', be, hfit, hdoes, gd', hback, hfit2, hdoes2, s0', rest', egr, g1, g2, g3⟩ := hD
      obtain rfl : s0 = s0' := by rw [edd] at egr; injection egr with egr; injection egr with egr _; injection egr
      have m9 := m8.tx e9
      have rd9 := rep_mv m9 nA nAc rd
      have rdd9 := rep_ex e9 rdd
      have ht9 := e9 _ _ ht
      refine q_go ⟨_, rfl, _, rfl, v6, t, d, dd, be, _, _, rfl, rd9, rdd9, hback, fun H10 bq e10 rbe => ?_⟩
      have htr10 : H10 tr = some (.lst xs) := e10 _ _ (m9.fr _ _ trS.1 trS.2 htrx)
      have no : ∀ (ys : List V), HO.lst xs ≠ .tup ys := fun _ e => nomatch e
      have newA : ∀ b, Hx b = none → H1 b = none ∧ b ≠ tr := fun b hb => ⟨m1x.back hb, fun e => by rw [e, htrx] at hb; cases hb⟩
      refine ⟨_, rfl, .inl ⟨rfl, _, Evl.sq_of htr10⟩, _, rfl, tr, xs, .ref bq, rfl, rfl, htr10, Evl.sz_lt (by omega), ?_⟩
      dsimp only
      have m11 : Mv S c H7 (upd H10 tr (.lst (xs ++ [.ref bq]))) := ((mx7.trans m9).tx e10).mut htr
      have rd11 := rep_upd (u := .lst (xs ++ [.ref bq])) htr10 no (fun b hb => hb.2) (rep_ex e10 rd9)
      have rdd11 := rep_upd (u := .lst (xs ++ [.ref bq])) htr10 no (fun b hb => (newA b hb).2) (rep_ex e10 rdd9)
      have rb11 := rep_upd (u := .lst (xs ++ [.ref bq])) htr10 no (fun b hb => hb.2) (rep_S (S' := fun b => H1 b = none ∧ b ≠ tr) (fun b hb => hb.elim id (newA b)) rbe)
      have pr11 := pair_snoc (pair_imp prx fun be v h => rep_upd (u := .lst (xs ++ [.ref bq])) htr10 no (fun b hb => hb.2) (rep_ex e10 (rep_mv m9 nA nAc h))) rb11
      have htr11 : (upd H10 tr (.lst (xs ++ [.ref bq]))) tr = some (.lst (xs ++ [.ref bq])) := upd_same
      have ht11 : (upd H10 tr (.lst (xs ++ [.ref bq]))) t = some (.tup (.str s0 :: y1 :: ys)) := by
        have : t ≠ tr := fun e => by have h9 := e10 _ _ ht9; rw [e, htr10] at h9; cases h9
        rw [upd_ne this]; exact e10 _ _ ht9
      generalize hH11 : upd H10 tr (.lst (xs ++ [.ref bq])) = H11 at m11 rd11 rdd11 rb11 pr11 htr11 ht11 ⊢
      have m6_11 := m67.trans m11
      refine q_go ⟨_, rfl, _, rfl, _, rfl, x, t, v6, _, _, _, d, dd, d', fl', z, rfl, shp m6_11, f2', fnd', hz, rd11, pld, okD_perm permf okd, rdd11, fits_perm permf hfit, hdoes, fun H12 av e12 rav => ?_⟩
      have ra12 : Rep H12 10 (fun b => H1 b = none ∧ b ≠ tr) d' av := rep_S (fun b hb => ⟨(m17.trans m11).back hb, fun e => by rw [e, htr11] at hb; cases hb⟩) (rt_rep rav)
      obtain ⟨okd', pld', wfd', _⟩ := GD_ok hz prg fnd gd'
      obtain ⟨l1, hl1⟩ : ∃ l, d = .dic l := by obtain ⟨_, _, e, _⟩ := gd; exact ⟨_, e⟩
      have kd1 : kN 10 (.dic l1) := by rw [← hl1]; exact knN (pl_kn pld)
      refine Evl.q_when (b := false || false) (Evl.et_or (a := false) (Evl.et_is (Evl.et_test (Evl.ev_op (ev_fn (Evl.ea_cons (Evl.ev_var rfl) (Evl.ea_cons (Evl.ev_var rfl) Evl.ea_nil)) fun H13 e13 Q' q' => ⟨x, av, 10, _, d', fl', z, _, rfl, shp ((m6_11.tx e12).tx e13), f2', fnd', hz, rep_ex e13 ra12, okD_perm permf okd', q'⟩) Evl.ev_c rv_notN)) rfl) fun _ => fun H16 e16 Q' q' => ⟨_, rfl, _, rfl, _, rfl, x, bq, av, _, _, _, d', be, d, fl', z, rfl, shp ((m6_11.tx e12).tx e16), f2', fnd', hz, rep_ex e16 ra12, pld', okD_perm permf okd', rep_ex (e12.trans e16) rb11, fits_perm permf hfit2, hdoes2, fun H17 ov2 e17 rov2 => ⟨_, rfl, 10, 10, _, _, l1, by decide, (by rw [← hl1]; exact rt_rep rov2), (by rw [← hl1]; exact rep_ex ((e12.trans e16).trans e17) rd11), kd1, false, rfl, q' _ e17⟩⟩) (fun h => nomatch h) fun _ H13 e13 => ?_
      have e1113 := e12.trans e13
      have rin : ∀ {Hy : Hp} {i : Nat} {v : V} {dq : D} {σ : L2.St}, Rep Hy 10 (fun b => H1 b = none ∧ b ≠ tr) dq v → wfR 3 dq → σ[i]? = some (some v) → Ev (tCall (spRi 3) [] E0 (tCons (tVar i) tNil)) σ Hy (.int (rowsN 3 dq)) := fun r wf s => ev_fn (Evl.ea_cons (Evl.ev_var s) Evl.ea_nil) fun H4 e4 Q' q' => ⟨_, 10, _, _, rfl, rep_ex e4 r, wf, q'⟩
      refine Evl.q_asg (v := .int (rowsN 3 d' - rowsN 3 d)) (Evl.ev_op (rin (rep_ex e13 ra12) wfd' rfl) (rin (rep_ex e1113 rd11) wfd rfl) Evl.rv_I0) fun H14 e14 => ?_
      have e1114 := e1113.trans e14
      have isin : ∀ {Hy : Hp} {σ : L2.St} {ta : TA} {ws : List V}, Ex H11 Hy → σ[9]? = some (some (.ref t)) → EvA ta σ Hy ws → ws.length ≤ 100000 → ws.all flatV = true → EvT (tTest (tOp (rIn K false) (tOp (rIxT K) (tVar 9) (tC (.int 0))) (tLst ta))) σ Hy (inV (.str s0) ws) := fun e s h l f => Evl.et_test (Evl.ev_opL (Evl.ev_op (Evl.ev_var s) Evl.ev_c (Evl.rv_ixT (Evl.st_of (e _ _ ht11)) (atI_nat (j := 0) rfl))) (Evl.el_lst h l) fun q H7 hq e7 => Evl.rv_isL (Evl.sq_of hq) rfl f)
      refine Evl.q_when (b := false) (Evl.et_is (Evl.et_and (isin e1114 rfl (Evl.ea_cons Evl.ev_c (Evl.ea_cons Evl.ev_c Evl.ea_nil)) (by show 2 ≤ 100000; decide) rfl) fun _ => Evl.et_test (Evl.ev_op (Evl.ev_var rfl) Evl.ev_c Evl.rv_I0)) (by
        cases hI : inV (.str s0) [.str "append", .str "insert"] with
        | false => rfl
        | true => have := g1 hI; rw [Bool.true_and]; exact decide_eq_false (by omega))) (fun h => nomatch h) fun _ H15 e15 => ?_
      have e1115 := e1114.trans e15
      refine Evl.q_when (b := false) (Evl.et_is (Evl.et_and (isin e1115 rfl (Evl.ea_cons Evl.ev_c (Evl.ea_cons Evl.ev_c Evl.ea_nil)) (by show 2 ≤ 100000; decide) rfl) fun _ => Evl.et_test (Evl.ev_op (Evl.ev_var rfl) (Evl.ev_un Evl.ev_c Evl.ru_neg) Evl.rv_I0)) (by
        cases hI : inV (.str s0) [.str "cut", .str "remove"] with
        | false => rfl
        | true => have := g2 hI; rw [Bool.true_and]; exact decide_eq_false (by omega))) (fun h => nomatch h) fun _ H16 e16 => ?_
      have e1116 := e1115.trans e16
      refine Evl.q_when (b := false) (Evl.et_is (Evl.et_and (isin e1116 rfl (Evl.ea_cons Evl.ev_c (Evl.ea_cons Evl.ev_c (Evl.ea_cons Evl.ev_c Evl.ea_nil))) (by show 3 ≤ 100000; decide) rfl) fun _ => Evl.et_test (Evl.ev_op (Evl.ev_var rfl) Evl.ev_c (fun H1 _ Q q => ⟨rfl, q H1 (Ex.refl _)⟩))) (by
        cases hI : inV (.str s0) [.str "move", .str "field", .str "flag"] with
        | false => rfl
        | true => have := g3 hI; rw [Bool.true_and, this]; rfl)) (fun h => nomatch h) fun _ H17 e17 => ?_
      have e1117 := e1116.trans e17
      refine Evl.s_asg (Evl.ev_var rfl) fun H18 e18 => ?_
      have e1118 := e1117.trans e18
      have e12_18 : Ex H12 H18 := (((e13.trans e14).trans e15).trans e16).trans (e17.trans e18)
      refine ⟨av, d', bs ++ [be], _, _, _, _, _, _, rfl, m11.tx e1118, e1118 _ _ htr11, pair_imp pr11 fun a b h => rep_ex e1118 h, (by rw [List.length_append, List.length_singleton]; omega), rep_ex e12_18 ra12, gd', ?_⟩
      rw [List.length_append, List.length_singleton]
      exact ⟨be, d, by rw [List.getElem?_append_right (Nat.le_refl _)]; simp, hfit2, hdoes2, gd, trail_app tl⟩
    · obtain ⟨v6, d, bs, xs, o8, o9, o10, o11, o12, rfl, mx7, htrx, prx, lbs, rd, gd, tl⟩ := pv
      have lxs := pair_len prx
      dsimp only
      have L : ∀ {Q : VK}, (∀ H', Ex Hx H' → Q (.int (xs.length : Int)) H') → (tCB (rLenA K) (tCons (tVar 7) tNil)) [some (.ref a), some (.ref S), some (.ref q), some (.ref pa), some (.ref p4), some (.ref x), some v6, some (.ref tr), o8, o9, o10, o11, o12] Hx Q := fun {Q} q => ev_lenL (Evl.ev_var rfl) (.inl (Evl.sq_of htrx)) Hx (Ex.refl _) Q q
      refine L fun H20 e20 => ⟨_, rfl, by omega, by omega, ?_⟩
      have m1x := m17.trans mx7
      refine for_it walk_range (fun i σ' Hy => ∃ (v6 : V) (d : D) (n : Nat) (o8 : Option V), σ' = [some (.ref a), some (.ref S), some (.ref q), some (.ref pa), some (.ref p4), some (.ref x), some v6, some (.ref tr), o8, o9, o10, o11, o12] ∧ Ex Hx Hy ∧ n + i = bs.length ∧ Rep Hy 10 (fun b => H1 b = none) d v6 ∧ GD z fl pool d ∧ Trail z fl pool d0 bs n d)
        ⟨_, d, bs.length, _, rfl, e20, rfl, rep_S (fun b hb => hb.1) (rep_ex e20 rd), gd, tl⟩ (fun _ _ _ _ _ => trivial) (fun i y σ' H0 Hy hi pv yy => ?_) fun σ' Hy pv => ?_
      · obtain ⟨v6, d, n, o8, rfl, exy, hn, rd, gd, tl⟩ := pv
        obtain ⟨rfl, rfl⟩ := yy
        refine gname_go ?_
        obtain ⟨n, rfl⟩ : ∃ n', n = n' + 1 := ⟨n - 1, by simp at hi; omega⟩
        obtain ⟨be, d', hbe, hfit, hdoes, gd', tl'⟩ := tl
        obtain ⟨bv, hbv, rbv⟩ := pair_at prx hbe
        obtain ⟨okd, pld, _, _⟩ := GD_ok hz prg fnd gd
        obtain ⟨bt, rfl⟩ : ∃ bt, bv = .ref bt := by
          cases hdoes with
          | flag => obtain ⟨t, _, e, _⟩ := rbv; exact ⟨t, e⟩
          | list o => rw [deed_form] at rbv; obtain ⟨t, _, e, _⟩ := rbv; exact ⟨t, e⟩
          | field => obtain ⟨t, _, e, _⟩ := rbv; exact ⟨t, e⟩
        have m6y := m67.trans (mx7.tx exy)
        refine ⟨_, rfl, _, rfl, ?_⟩
        refine Evl.ev_op (Evl.ev_var rfl) (Evl.ev_op (Evl.ev_op (ev_lenL (Evl.ev_var rfl) (.inl (Evl.sq_of (exy _ _ htrx)))) Evl.ev_c Evl.rv_I0) (Evl.ev_var rfl) Evl.rv_I0) (Evl.rv_ixL (v := .ref bt) (Evl.sq_of (exy _ _ htrx)) ?_) Hy (Ex.refl _) _ fun H21 e21 => ?_
        · have e : ((xs.length : Int) - 1 - (0 + (i : Int))) = ((n : Nat) : Int) := by omega
          rw [e]; exact atI_nat hbv
        · refine ⟨x, bt, v6, _, _, _, d, be, d', fl', z, rfl, shp (m6y.tx e21), f2', fnd', hz, rep_ex e21 rd, pld, okD_perm permf okd, rep_ex (exy.trans e21) rbv, fits_perm permf hfit, hdoes, fun H22 ov e22 rov => ?_⟩
          exact ⟨ov, d', n, _, rfl, (exy.trans e21).trans e22, by omega, rep_S (fun b hb => (m1x.tx (exy.trans e21)).back hb) (rt_rep rov), gd', tl'⟩
      · obtain ⟨v6, d, n, o8, rfl, exy, hn, rd, gd, tl⟩ := pv
        have n0 : n = 0 := by simp at hn; omega
        subst n0
        have ed : d = d0 := tl
        subst ed
        refine Evl.s_ret (v := .bl true) (Evl.ev_op (Evl.ev_var rfl) (Evl.ev_var rfl) fun H1' e1 Q q => ⟨10, 10, _, _, d, by decide, .inr ?_, rep_ex e1 rd, rep_ex e1 (rep_mv (m67.trans (mx7.tx exy)) nS1 nc1 rd6), knN (pl_kn gok0.2.1), q H1' (Ex.refl _)⟩) fun H23 _ => k H23
        obtain ⟨_, _, e, _⟩ := gd0; exact ⟨_, e⟩
end Pk

namespace Pk
open PySem PySem.Spec PyProof.Rows L2 Ssb
theorem all_mk {l : PySem.W.OpenLaw} {w : World} {K : PySem.W.Frag} {h : Heap} {mg : Str → Option Value} {fa C_Shape C_FORMS : Addr} {t_MOST_ROWS : Tok} {t_GREATEST_ID : Tok} (X : K.In h) (G : h.Ns mainGlobals mg) (hfa : mg "law" = some (.ref fa))
    (aShape : PySem.W.nsIn K mainGlobals "Shape" = some (some (.ref C_Shape)))
    (pgShape : PySem.W.plainGet K C_Shape Str.empty = true)
    (hdShape : PySem.W.hasDictIn K C_Shape = true)
    (poShape : PySem.W.plainOver K C_Shape = true)
    (saShape : PySem.W.findIn K (.ref C_Shape) "__setattr__" = some (some (.builtin "object.__setattr__")))
    (mkShape : PySem.W.makesIn K C_Shape = true)
    (kcShape : PySem.W.keepIn K (.ref C_Shape) = true)
    (nShapeflags : PySem.W.findIn K (.ref C_Shape) "flags" = some none)
    (nShapetable : PySem.W.findIn K (.ref C_Shape) "table" = some none)
    (aFORMS : PySem.W.nsIn K mainGlobals "FORMS" = some (some (.ref C_FORMS)))
    (tuFORMS : TupK K C_FORMS [(D.tup [D.str "append", D.int 3]), (D.tup [D.str "cut", D.int 2]), (D.tup [D.str "insert", D.int 4]), (D.tup [D.str "remove", D.int 3]), (D.tup [D.str "move", D.int 4]), (D.tup [D.str "field", D.int 5]), (D.tup [D.str "flag", D.int 2])])
    (z_abs : PySem.W.nsIn K mainGlobals "abs" = some none)
    (z_all : PySem.W.nsIn K mainGlobals "all" = some none)
    (z_enumerate : PySem.W.nsIn K mainGlobals "enumerate" = some none)
    (z_int : PySem.W.nsIn K mainGlobals "int" = some none)
    (z_str : PySem.W.nsIn K mainGlobals "str" = some none)
    (z_bool : PySem.W.nsIn K mainGlobals "bool" = some none)
    (z_isinstance : PySem.W.nsIn K mainGlobals "isinstance" = some none)
    (z_len : PySem.W.nsIn K mainGlobals "len" = some none)
    (z_list : PySem.W.nsIn K mainGlobals "list" = some none)
    (z_range : PySem.W.nsIn K mainGlobals "range" = some none)
    (z_sorted : PySem.W.nsIn K mainGlobals "sorted" = some none)
    (z_sum : PySem.W.nsIn K mainGlobals "sum" = some none)
    (z_tuple : PySem.W.nsIn K mainGlobals "tuple" = some none)
    (z_set : PySem.W.nsIn K mainGlobals "set" = some none)
    (z_dict : PySem.W.nsIn K mainGlobals "dict" = some none)
    (g_MOST_ROWS : PySem.W.nsIn K mainGlobals "MOST_ROWS" = some (some (.int 300 t_MOST_ROWS)))
    (g_GREATEST_ID : PySem.W.nsIn K mainGlobals "GREATEST_ID" = some (some (.int 1000000 t_GREATEST_ID)))
    (d_fresh : Here K mg "fresh" s_fresh)
    (d_is_word : Here K mg "is_word" s_is_word)
    (d_are_words : Here K mg "are_words" s_are_words)
    (d_is_integer : Here K mg "is_integer" s_is_integer)
    (d_has_names : Here K mg "has_names" s_has_names)
    (d_is_named : Here K mg "is_named" s_is_named)
    (d_has_form : Here K mg "has_form" s_has_form)
    (d_wrong_part : Here K mg "wrong_part" s_wrong_part)
    (d_are_lists : Here K mg "are_lists" s_are_lists)
    (d_are_list_shapes : Here K mg "are_list_shapes" s_are_list_shapes)
    (d_list_rows : Here K mg "list_rows" s_list_rows)
    (d_are_fields : Here K mg "are_fields" s_are_fields)
    (d_Shape_init : HereM K C_Shape "__init__" "Shape.__init__" s_Shape_init)
    (d_Shape_outer : HereM K C_Shape "outer" "Shape.outer" s_Shape_outer)
    (d_Shape_inner : HereM K C_Shape "inner" "Shape.inner" s_Shape_inner)
    (d_Shape_fields : HereM K C_Shape "fields" "Shape.fields" s_Shape_fields)
    (d_Shape_lists_in : HereM K C_Shape "lists_in" "Shape.lists_in" s_Shape_lists_in)
    (d_Shape_need_list : HereM K C_Shape "need_list" "Shape.need_list" s_Shape_need_list)
    (d_check : Here K mg "check" s_check)
    (d_check_words : Here K mg "check_words" s_check_words)
    (d_is_choice : Here K mg "is_choice" s_is_choice)
    (d_check_lists : Here K mg "check_lists" s_check_lists)
    (d_check_rows : Here K mg "check_rows" s_check_rows)
    (d_check_row : Here K mg "check_row" s_check_row)
    (d_rows_in : Here K mg "rows_in" s_rows_in)
    (d_wrong_reason : Here K mg "wrong_reason" s_wrong_reason)
    (d_list_at : Here K mg "list_at" s_list_at)
    (d_rows_at : Here K mg "rows_at" s_rows_at)
    (d_indexes_fit : Here K mg "indexes_fit" s_indexes_fit)
    (d_row_fits : Here K mg "row_fits" s_row_fits)
    (d_wrong_field : Here K mg "wrong_field" s_wrong_field)
    (d_after_deed : Here K mg "after_deed" s_after_deed)
    (d_apply : Here K mg "apply" s_apply)
    (d__law_open : Here K mg "_law_open" s__law_open)
    (d__law_mixed : Here K mg "_law_mixed" s__law_mixed)
    (d__law_draw : Here K mg "_law_draw" s__law_draw)
    (d__law_word : Here K mg "_law_word" s__law_word)
    (d__law_fields : Here K mg "_law_fields" s__law_fields)
    (d__law_inner : Here K mg "_law_inner" s__law_inner)
    (d__law_pool : Here K mg "_law_pool" s__law_pool)
    (d__law_rows : Here K mg "_law_rows" s__law_rows)
    (d__law_data : Here K mg "_law_data" s__law_data)
    (d__law_copy : Here K mg "_law_copy" s__law_copy)
    (d__law_rich_fields : Here K mg "_law_rich_fields" s__law_rich_fields)
    (d__law_rich : Here K mg "_law_rich" s__law_rich)
    (d__law_wheres : Here K mg "_law_wheres" s__law_wheres)
    (d__law_list_at : Here K mg "_law_list_at" s__law_list_at)
    (d__law_new_row : Here K mg "_law_new_row" s__law_new_row)
    (d__law_deed : Here K mg "_law_deed" s__law_deed)
    (d__law_back : Here K mg "_law_back" s__law_back)
    (d_law : Here K mg "law" s_law) :
    ∃ fd : FuncData, (∀ (s : Shared) (v : Value), BindsTo s fd ⟨[v], []⟩ [("_law_script", v)]) ∧ ∀ base : Heap, K.In base → base.Ns mainGlobals mg → FnOk l.prog w K mg base CX0 60 fa fd ["_law_script"] (spLaw K) := by
  have T : Txt K mg C_Shape C_FORMS := { abs := PySem.W.mg_none_of X G z_abs, all := PySem.W.mg_none_of X G z_all, enumerate := PySem.W.mg_none_of X G z_enumerate, int := PySem.W.mg_none_of X G z_int, str := PySem.W.mg_none_of X G z_str, bool := PySem.W.mg_none_of X G z_bool, isinstance := PySem.W.mg_none_of X G z_isinstance, len := PySem.W.mg_none_of X G z_len, list := PySem.W.mg_none_of X G z_list, range := PySem.W.mg_none_of X G z_range, sorted := PySem.W.mg_none_of X G z_sorted, sum := PySem.W.mg_none_of X G z_sum, tuple := PySem.W.mg_none_of X G z_tuple, set := PySem.W.mg_none_of X G z_set, dict := PySem.W.mg_none_of X G z_dict, g_MOST_ROWS := ⟨_, PySem.W.mg_of X G g_MOST_ROWS⟩, g_GREATEST_ID := ⟨_, PySem.W.mg_of X G g_GREATEST_ID⟩, cl_Shape := ⟨pgShape, hdShape, poShape, saShape⟩, mk_Shape := mkShape, kp_Shape := kcShape, at_Shape := PySem.W.mg_of X G aShape, no_Shape_flags := nShapeflags, no_Shape_table := nShapetable, at_FORMS := PySem.W.mg_of X G aFORMS, tu_FORMS := tuFORMS }
  have R : Prg K mg C_Shape C_FORMS := { fresh := d_fresh, is_word := d_is_word, are_words := d_are_words, is_integer := d_is_integer, has_names := d_has_names, is_named := d_is_named, has_form := d_has_form, wrong_part := d_wrong_part, are_lists := d_are_lists, are_list_shapes := d_are_list_shapes, list_rows := d_list_rows, are_fields := d_are_fields, Shape_init := d_Shape_init, Shape_outer := d_Shape_outer, Shape_inner := d_Shape_inner, Shape_fields := d_Shape_fields, Shape_lists_in := d_Shape_lists_in, Shape_need_list := d_Shape_need_list, check := d_check, check_words := d_check_words, is_choice := d_is_choice, check_lists := d_check_lists, check_rows := d_check_rows, check_row := d_check_row, rows_in := d_rows_in, wrong_reason := d_wrong_reason, list_at := d_list_at, rows_at := d_rows_at, indexes_fit := d_indexes_fit, row_fits := d_row_fits, wrong_field := d_wrong_field, after_deed := d_after_deed, apply := d_apply, _law_open := d__law_open, _law_mixed := d__law_mixed, _law_draw := d__law_draw, _law_word := d__law_word, _law_fields := d__law_fields, _law_inner := d__law_inner, _law_pool := d__law_pool, _law_rows := d__law_rows, _law_data := d__law_data, _law_copy := d__law_copy, _law_rich_fields := d__law_rich_fields, _law_rich := d__law_rich, _law_wheres := d__law_wheres, _law_list_at := d__law_list_at, _law_new_row := d__law_new_row, _law_deed := d__law_deed, _law_back := d__law_back, law := d_law }
  exact main_ok T R hfa
theorem walk {l : PySem.W.OpenLaw} {q : Program} {loose : List Str} {XP : (Str → Option Value) → Heap → Prop} {YP : World → Heap → Prop} {d : DefRec} {K : Params → PySem.W.Frag} (hn : l.most = some 63) (hdf : d.params.defaults = [])
    (hY : ∀ (w : World) (h : Heap), YP w h → (K w.params).In h)
    (F : ∀ (w : World) (mg : Str → Option Value) (fa : Addr) (h : Heap), (K w.params).In h → h.Ns mainGlobals mg → mg d.name = some (.ref fa) →
      ∃ fd : FuncData, (∀ (s : Shared) (u : Value), BindsTo s fd ⟨[u], []⟩ [("_law_script", u)]) ∧ ∀ base : Heap, (K w.params).In base → base.Ns mainGlobals mg → FnOk l.prog w (K w.params) mg base CX0 60 fa fd ["_law_script"] (spLaw (K w.params))) :
    PySem.W.WalkO q loose XP YP l.row.toRowW d [] (fun f vs => PySem.call f vs) :=
  L2.walk_of (n := 63) (k := 60) (x := "_law_script") (CX := fun _ => CX0) (sp := fun w => spLaw (K w.params)) hn (by decide) hdf ⟨rfl, by decide, by decide⟩ hY F (fun _ _ a ns hl _ hS => ⟨a, ns, rfl, hS, hl, fun _ => rfl⟩) fun _ _ _ _ _ z => z
end Pk
open PySem PySem.W PyProof.Rows
set_option maxRecDepth 100000 in
set_option maxHeartbeats 0 in
theorem PySem.Challenge.cw_statestay_k54_whole_deeds_there_and_back_holds : PySem.Challenge.rw_statestay_k54_whole_deeds_there_and_back.Holds := by
  w_on; o_law; k_head; (case hw => w_witness2)
  k_fill
  refine Pk.walk (l := PySem.Challenge.rw_statestay_k54_whole_deeds_there_and_back) rfl rfl (fun w h Y => PySem.W.kIn_of Y) ?F
  case F =>
    intro w mg fa h KX G hmg
    refine' Pk.all_mk KX G hmg ?aShape ?pgShape ?hdShape ?poShape ?saShape ?mkShape ?kcShape ?nShapeflags ?nShapetable ?aFORMS ?tuFORMS ?z_abs ?z_all ?z_enumerate ?z_int ?z_str ?z_bool ?z_isinstance ?z_len ?z_list ?z_range ?z_sorted ?z_sum ?z_tuple ?z_set ?z_dict ?g_MOST_ROWS ?g_GREATEST_ID ?d_fresh ?d_is_word ?d_are_words ?d_is_integer ?d_has_names ?d_is_named ?d_has_form ?d_wrong_part ?d_are_lists ?d_are_list_shapes ?d_list_rows ?d_are_fields ?d_Shape_init ?d_Shape_outer ?d_Shape_inner ?d_Shape_fields ?d_Shape_lists_in ?d_Shape_need_list ?d_check ?d_check_words ?d_is_choice ?d_check_lists ?d_check_rows ?d_check_row ?d_rows_in ?d_wrong_reason ?d_list_at ?d_rows_at ?d_indexes_fit ?d_row_fits ?d_wrong_field ?d_after_deed ?d_apply ?d__law_open ?d__law_mixed ?d__law_draw ?d__law_word ?d__law_fields ?d__law_inner ?d__law_pool ?d__law_rows ?d__law_data ?d__law_copy ?d__law_rich_fields ?d__law_rich ?d__law_wheres ?d__law_list_at ?d__law_new_row ?d__law_deed ?d__law_back ?d_law
    (case aShape => k_is)
    (case pgShape => k_is)
    (case hdShape => k_is)
    (case poShape => k_is)
    (case saShape => k_is)
    (case mkShape => k_is)
    (case kcShape => k_is)
    (case nShapeflags => k_is)
    (case nShapetable => k_is)
    (case aFORMS => k_is)
    (case tuFORMS => (refine' Pk.tup_mk7 ?h0 (Pk.form_mk ?h1) (Pk.form_mk ?h2) (Pk.form_mk ?h3) (Pk.form_mk ?h4) (Pk.form_mk ?h5) (Pk.form_mk ?h6) (Pk.form_mk ?h7); (case h0 => k_is); (case h1 => k_is); (case h2 => k_is); (case h3 => k_is); (case h4 => k_is); (case h5 => k_is); (case h6 => k_is); (case h7 => k_is)))
    (case z_abs => k_is)
    (case z_all => k_is)
    (case z_enumerate => k_is)
    (case z_int => k_is)
    (case z_str => k_is)
    (case z_bool => k_is)
    (case z_isinstance => k_is)
    (case z_len => k_is)
    (case z_list => k_is)
    (case z_range => k_is)
    (case z_sorted => k_is)
    (case z_sum => k_is)
    (case z_tuple => k_is)
    (case z_set => k_is)
    (case z_dict => k_is)
    (case g_MOST_ROWS => k_is)
    (case g_GREATEST_ID => k_is)
    (case d_fresh => (refine' Pk.here_mk KX G ?a ?l ?c ?k; (case a => k_is); (case l => k_is); (case c => k_is); (case k => k_is)))
    (case d_is_word => (refine' Pk.here_mk KX G ?a ?l ?c ?k; (case a => k_is); (case l => k_is); (case c => k_is); (case k => k_is)))
    (case d_are_words => (refine' Pk.here_mk KX G ?a ?l ?c ?k; (case a => k_is); (case l => k_is); (case c => k_is); (case k => k_is)))
    (case d_is_integer => (refine' Pk.here_mk KX G ?a ?l ?c ?k; (case a => k_is); (case l => k_is); (case c => k_is); (case k => k_is)))
    (case d_has_names => (refine' Pk.here_mk KX G ?a ?l ?c ?k; (case a => k_is); (case l => k_is); (case c => k_is); (case k => k_is)))
    (case d_is_named => (refine' Pk.here_mk KX G ?a ?l ?c ?k; (case a => k_is); (case l => k_is); (case c => k_is); (case k => k_is)))
    (case d_has_form => (refine' Pk.here_mk KX G ?a ?l ?c ?k; (case a => k_is); (case l => k_is); (case c => k_is); (case k => k_is)))
    (case d_wrong_part => (refine' Pk.here_mk KX G ?a ?l ?c ?k; (case a => k_is); (case l => k_is); (case c => k_is); (case k => k_is)))
    (case d_are_lists => (refine' Pk.here_mk KX G ?a ?l ?c ?k; (case a => k_is); (case l => k_is); (case c => k_is); (case k => k_is)))
    (case d_are_list_shapes => (refine' Pk.here_mk KX G ?a ?l ?c ?k; (case a => k_is); (case l => k_is); (case c => k_is); (case k => k_is)))
    (case d_list_rows => (refine' Pk.here_mk KX G ?a ?l ?c ?k; (case a => k_is); (case l => k_is); (case c => k_is); (case k => k_is)))
    (case d_are_fields => (refine' Pk.here_mk KX G ?a ?l ?c ?k; (case a => k_is); (case l => k_is); (case c => k_is); (case k => k_is)))
    (case d_Shape_init => (refine' Pk.hereM_mk ?a ?i ?l ?c ?k; (case a => k_is); (case i => k_is); (case l => k_is); (case c => k_is); (case k => k_is)))
    (case d_Shape_outer => (refine' Pk.hereM_mk ?a ?i ?l ?c ?k; (case a => k_is); (case i => k_is); (case l => k_is); (case c => k_is); (case k => k_is)))
    (case d_Shape_inner => (refine' Pk.hereM_mk ?a ?i ?l ?c ?k; (case a => k_is); (case i => k_is); (case l => k_is); (case c => k_is); (case k => k_is)))
    (case d_Shape_fields => (refine' Pk.hereM_mk ?a ?i ?l ?c ?k; (case a => k_is); (case i => k_is); (case l => k_is); (case c => k_is); (case k => k_is)))
    (case d_Shape_lists_in => (refine' Pk.hereM_mk ?a ?i ?l ?c ?k; (case a => k_is); (case i => k_is); (case l => k_is); (case c => k_is); (case k => k_is)))
    (case d_Shape_need_list => (refine' Pk.hereM_mk ?a ?i ?l ?c ?k; (case a => k_is); (case i => k_is); (case l => k_is); (case c => k_is); (case k => k_is)))
    (case d_check => (refine' Pk.here_mk KX G ?a ?l ?c ?k; (case a => k_is); (case l => k_is); (case c => k_is); (case k => k_is)))
    (case d_check_words => (refine' Pk.here_mk KX G ?a ?l ?c ?k; (case a => k_is); (case l => k_is); (case c => k_is); (case k => k_is)))
    (case d_is_choice => (refine' Pk.here_mk KX G ?a ?l ?c ?k; (case a => k_is); (case l => k_is); (case c => k_is); (case k => k_is)))
    (case d_check_lists => (refine' Pk.here_mk KX G ?a ?l ?c ?k; (case a => k_is); (case l => k_is); (case c => k_is); (case k => k_is)))
    (case d_check_rows => (refine' Pk.here_mk KX G ?a ?l ?c ?k; (case a => k_is); (case l => k_is); (case c => k_is); (case k => k_is)))
    (case d_check_row => (refine' Pk.here_mk KX G ?a ?l ?c ?k; (case a => k_is); (case l => k_is); (case c => k_is); (case k => k_is)))
    (case d_rows_in => (refine' Pk.here_mk KX G ?a ?l ?c ?k; (case a => k_is); (case l => k_is); (case c => k_is); (case k => k_is)))
    (case d_wrong_reason => (refine' Pk.here_mk KX G ?a ?l ?c ?k; (case a => k_is); (case l => k_is); (case c => k_is); (case k => k_is)))
    (case d_list_at => (refine' Pk.here_mk KX G ?a ?l ?c ?k; (case a => k_is); (case l => k_is); (case c => k_is); (case k => k_is)))
    (case d_rows_at => (refine' Pk.here_mk KX G ?a ?l ?c ?k; (case a => k_is); (case l => k_is); (case c => k_is); (case k => k_is)))
    (case d_indexes_fit => (refine' Pk.here_mk KX G ?a ?l ?c ?k; (case a => k_is); (case l => k_is); (case c => k_is); (case k => k_is)))
    (case d_row_fits => (refine' Pk.here_mk KX G ?a ?l ?c ?k; (case a => k_is); (case l => k_is); (case c => k_is); (case k => k_is)))
    (case d_wrong_field => (refine' Pk.here_mk KX G ?a ?l ?c ?k; (case a => k_is); (case l => k_is); (case c => k_is); (case k => k_is)))
    (case d_after_deed => (refine' Pk.here_mk KX G ?a ?l ?c ?k; (case a => k_is); (case l => k_is); (case c => k_is); (case k => k_is)))
    (case d_apply => (refine' Pk.here_mk KX G ?a ?l ?c ?k; (case a => k_is); (case l => k_is); (case c => k_is); (case k => k_is)))
    (case d__law_open => (refine' Pk.here_mk KX G ?a ?l ?c ?k; (case a => k_is); (case l => k_is); (case c => k_is); (case k => k_is)))
    (case d__law_mixed => (refine' Pk.here_mk KX G ?a ?l ?c ?k; (case a => k_is); (case l => k_is); (case c => k_is); (case k => k_is)))
    (case d__law_draw => (refine' Pk.here_mk KX G ?a ?l ?c ?k; (case a => k_is); (case l => k_is); (case c => k_is); (case k => k_is)))
    (case d__law_word => (refine' Pk.here_mk KX G ?a ?l ?c ?k; (case a => k_is); (case l => k_is); (case c => k_is); (case k => k_is)))
    (case d__law_fields => (refine' Pk.here_mk KX G ?a ?l ?c ?k; (case a => k_is); (case l => k_is); (case c => k_is); (case k => k_is)))
    (case d__law_inner => (refine' Pk.here_mk KX G ?a ?l ?c ?k; (case a => k_is); (case l => k_is); (case c => k_is); (case k => k_is)))
    (case d__law_pool => (refine' Pk.here_mk KX G ?a ?l ?c ?k; (case a => k_is); (case l => k_is); (case c => k_is); (case k => k_is)))
    (case d__law_rows => (refine' Pk.here_mk KX G ?a ?l ?c ?k; (case a => k_is); (case l => k_is); (case c => k_is); (case k => k_is)))
    (case d__law_data => (refine' Pk.here_mk KX G ?a ?l ?c ?k; (case a => k_is); (case l => k_is); (case c => k_is); (case k => k_is)))
    (case d__law_copy => (refine' Pk.here_mk KX G ?a ?l ?c ?k; (case a => k_is); (case l => k_is); (case c => k_is); (case k => k_is)))
    (case d__law_rich_fields => (refine' Pk.here_mk KX G ?a ?l ?c ?k; (case a => k_is); (case l => k_is); (case c => k_is); (case k => k_is)))
    (case d__law_rich => (refine' Pk.here_mk KX G ?a ?l ?c ?k; (case a => k_is); (case l => k_is); (case c => k_is); (case k => k_is)))
    (case d__law_wheres => (refine' Pk.here_mk KX G ?a ?l ?c ?k; (case a => k_is); (case l => k_is); (case c => k_is); (case k => k_is)))
    (case d__law_list_at => (refine' Pk.here_mk KX G ?a ?l ?c ?k; (case a => k_is); (case l => k_is); (case c => k_is); (case k => k_is)))
    (case d__law_new_row => (refine' Pk.here_mk KX G ?a ?l ?c ?k; (case a => k_is); (case l => k_is); (case c => k_is); (case k => k_is)))
    (case d__law_deed => (refine' Pk.here_mk KX G ?a ?l ?c ?k; (case a => k_is); (case l => k_is); (case c => k_is); (case k => k_is)))
    (case d__law_back => (refine' Pk.here_mk KX G ?a ?l ?c ?k; (case a => k_is); (case l => k_is); (case c => k_is); (case k => k_is)))
    (case d_law => (refine' Pk.here_mk KX G ?a ?l ?c ?k; (case a => k_is); (case l => k_is); (case c => k_is); (case k => k_is)))
